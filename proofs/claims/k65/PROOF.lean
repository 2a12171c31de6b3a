import PyProof.Rows.All
import Wide.All
import OpenK.AllK
import Wide.FinOn
import Lean
import PyProof.EqAt
import PyProof.EqKinds
import PyProof.TupleCall
import PyProof.NeKinds
import PySem.Challenge.RW_copykin_k65_whole_known_places_told
local macro_rules|`(command|abbrev $d:declId $s:optDeclSig $v:declVal)=>`(command|noncomputable def $d:declId $s:optDeclSig $v:declVal)
open Array renaming length_toList → cD, getElem?_eq_some_iff → cH, perm_iff_toList_perm → eU, mem_toList_iff → j7, getElem?_eq_none → pv, getElem?_setIfInBounds_self_of_lt → qO, find?_toList → uD, getElem?_toList → Hv, getD → Nl, forIn_toList → Nm, ext' → Nn
open Bool renaming false_ne_true → ak, and_eq_true → aF, false_eq_true → aZ, false_or → bV, or_eq_true → cu, eq_iff_iff → cw, false_and → dk, and_eq_true_iff → fh, true_and → fE, and_false → fT, not_true → gM, eq_false_iff → gU, or_true → pV, and_true → uC
open Classical renaming byContradiction → aJ, not_forall → gL, not_imp → tB, em → tE, epsilon_spec → BR
open False renaming elim → hV
open ForInStep renaming yield → iz
open Int renaming toNat_natCast → aN, eq_ofNat_of_zero_le → bU, emod_lt_of_pos → bX, emod_nonneg → cz, zero_add → fB, fdiv_eq_ediv_of_nonneg → DX
open Lean.Name renaming str → cy, anonymous → Ec
open List renaming getD_eq_getElem?_getD → aa, getElem?_eq_getElem → ae, length_map → ai, getElem?_map → av, mem_map → az, getElem?_eq_some_iff → aC, size_toArray → aD, mem_of_getElem? → aG, range → aH, mem_cons → aI, mem_cons_of_mem → aK, mem_cons_self → aM, length_range → aR, mem_singleton → aT, mem_range → aW, length_eq_zero_iff → aY, mem_append_right → a7, lookup_cons → a8, getElem_mem → a9, all_eq_true → bg, length_append → bj, map_map → bp, mem_filter → bw, replicate → bz, length_cons → bC, getElem_map → bD, getElem?_range → bN, getElem?_append_right → bO, ext_getElem → bR, mem_iff_getElem? → bS, getElem?_eq_none → bT, nodup_cons → bW, mem_append_left → bZ, map_cons → b7, any_eq_true → b8, getElem?_append_left → cq, map_congr_left → cG, mem_iff_getElem → cL, map_append → cQ, length_drop → cR, lookup → cW, mem_append → cX, pairwise_iff_getElem → da, pairwise_map → de, length_singleton → dj, not_mem_nil → dy, length_take → dz, take_add_one → dM, replicate_succ → dP, map_id → dQ, foldl_cons → dR, length_filter_le → dZ, toArray → eA, nodup_append → eG, mem_flatMap → eP, getElem_inj → eQ, append_nil → ff, length_pos_iff → fR, take_length → fS, take_of_length_le → gv, getElem?_drop → gw, filter_eq_nil_iff → gy, ext_getElem? → gT, find?_cons → iZ, getElem_range → i8, nodup_nil → jq, flatten_cons → jr, length_replicate → jJ, mem_reverse → jM, all_cons → j6, length → ke, range_succ → kN, filter_map → kO, flatMap_append → kY, filter_sublist → kZ, map_nil → lz, length_eraseIdx_of_lt → lO, filter_append → lP, flatMap_cons → nj, filter_congr → nq, append_assoc → nr, any_cons → nV, map_snd_zip → n6, all_map → pU, length_nil → qa, perm_cons_erase → rE, mem_erase_of_ne → rF, getElem?_set_ne → rG, mem_map_of_mem → tI, filterMap_cons → tJ, zip_cons_cons → vb, lookup_append → vc, find?_eq_none → vd, take_sublist → vY, reverse_cons → vZ, any_map → v9, eraseIdx_eq_take_drop_succ → yl, nodup_range → yo, flatMap_nil → yp, filter_cons → yq, cons_append → yr, of_mem_zip → z7, nodup_iff_pairwise_ne → BV, forIn_nil → BW, getElem?_eq_none_iff → DV, exists_mem_of_ne_nil → DW, getElem?_take_of_lt → Eb, range_succ_eq_map → Hq, pairwise_lt_range → Hr, getElem?_set_self → Hs, all_nil → Ht, mem_of_mem_take → JG, toList_toArray → Ni, filter_eq_self → Nj
open List.Pairwise renaming nil → kg, and_mem → mM
open List.Perm renaming refl → d7, swap → ym
open List.cons renaming injEq → JH
open Nat renaming le_refl → aw, le_trans → aL, ne_of_lt → aP, lt_of_lt_of_le → aU, zero_le → aV, lt_succ_of_lt → bK, not_lt_zero → du, lt_irrefl → dJ, le_succ → dU, lt_succ_self → eh, ne_of_gt → eN, mod_eq_of_lt → eT, le_succ_of_le → fA, le_of_not_lt → fY, lt_trans → gA, le_of_lt → jA, strongRecOn → kX, eq_of_testBit_eq → tm, lt_of_le_of_lt → vz, zero_add → yk, succ_le_succ → yP, le_add_right → yQ, min_eq_left → BP, le_antisymm → BQ, mod_lt → DU, lt_succ_iff_lt_or_eq → FI, succ_mul → Jz, le_of_eq → JA, and_self → JB
open Nat.succ renaming inj → i7
open Ne renaming symm → bI
open Option renaming isSome_iff_exists → cA, bind_some → fK, isSome_some → gd, isNone_iff_eq_none → iq, map_eq_some_iff → ja, map_some → kc, getD_none → vX, isSome_none → JF
open Option.some renaming inj → bo, injEq → kM
open PyProof.Rows renaming IntsAre → cj, callWith_type1 → di, listUpdate_at → fX, callWith_builtin1 → i6, AllBare → pW, subscriptTail_builtinR → ti, get?_update_seq → tG, seqEpoch_at → vx, boot_tuple → yj, boot_list → yn, boot_int → yO, StrsAre → BJ, entry_list_sort → FF, slot_list_sort → Jo, size_push' → Jp, subscriptTail → MZ
open PyProof.Rows.F renaming plain_set_update_loop → gC, entry_set_update_loop → nU
open PySem renaming wpAny_bind → af, wpAny_pure → aj, mem_of_lookup → bA, starEach → bB, SetTable → bF, mainGlobals → bH, wpAny_holding → bY, wpAny_newObj_type → cg, cellsFrom → cK, wpAny_call_entry → cS, compareOp → cY, wpAny_mono → cZ, wpAny_truthy_bool → dm, wpAny_setField_rec → dF, Fin → dI, NameKind → eD, wpAny_callSpecial?_slot → eK, codeAny_builtin → eL, FuncData → fg, bootBuiltins → fP, binaryOp → fQ, plainId_quiet → fW, scanBound → gz, wpAny_Call_Name_kw → gP, sysModules → gQ, codeAny → gR, wpAny_passesOwn → hO, wpAny_setState_of → iy, wpAny_seqItems → iH, wpAny_rule → iI, wpAny_field → iJ, wpAny_call → iK, strIterType → iM, codeAny_call_builtin → iO, assignEach → iP, wpAny_askSetting → iY, wpAny_attempt → jg, wpAny_pyIter_tuple → jy, pickOrder → jB, wpAny_loadPart_at → jU, recursionLimit → jV, foldedSetIterable → jX, codeAny_mono → jY, Value → jZ, call_meets → kT, Within → kU, sliceBounds → lL, GenState → lN, wpAny_richCompare_same_room → ni, noteFrame → nT, builtinsNs → nZ, wpAny_pyIter_list → pM, wpAny_of_eq → pN, wpAny_letGo → pO, keywordEach → pP, fits_of_scanBound → pQ, excClassObj → pR, atKey_none_of_get → pS, wpAny_standAt → pY, wpAny_newList → pZ, wpAny_isInstance → rm, wpAny_eqBool_int → rq, tupleKind → rA, swapsWith → rB, relayAll → rC, bindArgs → rD, letOwnedTupleGo → tF, wpAny_tryCatch → vn, wpAny_setField → vo, sizeLine_eq → vp, setField → vq, firstArgMember → vy, seqItems? → vV, wpAny_typeOf → BE, backToKw → BH, Addr → BO, setFlight → DO, onTheHeap → DP, checkBuiltinCall → DQ, seqIndex_of → D1, Str → D9, wpAny_updateSeq → FD, wpAny_execs_nil → FE, codeAny_of_tree → FG, Shared → FH, callerA → Hl, wpAny_loadPart → Jm, wpAny_Name → Jn, setsByText → Jq, raiseNew → Jr, isSubtype_type → Js, isInstance → Jt, entryFor → Ju, dictSetDefault → Jv, closureFor → Jw, swapsWithSole → MY, behindInMarks → M0, attributeBase → M1
open PySem.Around renaming under_plainId → dv, under → Ee
open PySem.AutoSeq1 renaming wpAny_loadPart' → lR
open PySem.Builtin renaming bitAnd → i9, bitXor → k6
open PySem.Builtin.Builtins renaming bindParams → fH
open PySem.Builtin.List renaming listTooLong → gW, listTouch → lQ, listLengthHint → uA, listExtendWith → uB
open PySem.Builtin.SmallTypes renaming nextOf → eE
open PySem.Builtin.Str renaming occurrences → iA, strSliceIndices → vg
open PySem.Calls renaming call_function_entry → mO, Name_function_global → BS, spliced_cons → Nk
open PySem.Code renaming quiet_builtin → ve, isFrame → Hu
open PySem.EntryCells renaming newEntry → DZ
open PySem.F renaming attrBase_ValueError → gB, slot_tuple_iterator_next → iG, slot_tuple_lt → rJ, slot_dict_setdefault → yi, excBase_ValueError → yN, args_tuple_iterator_next_1 → DY, entry_bexc_ga → Ea, entry_tuple_iterator_next → Ed
open PySem.Heap renaming get?_push_of_some → ag, get?_push_size → ay, lt_size → aA, get?_update_other → aS, size_push → bG, get?_update_self → ck, SameBut → dq, size_update → n8, get?_none_of_le → rH, MadeExcOf → BX
open PySem.Heap.SameBut renaming update → bQ
open PySem.IsL renaming update → Jy
open PySem.Moved renaming trans → JC
open PySem.NameKind renaming free → b9, cell → cT
open PySem.Obj renaming mapSeq → bf, data_mapFields → eY, mapFields → fG, isFreed_of_fields → jL, data_mapDictKeys → Nh
open PySem.Paired renaming length → mP
open PySem.PyData renaming keyHash → ao
open PySem.SeqAt renaming notIn_listAt → Na, EqAt → Nb
open PySem.SeqAt.EqAt renaming str_int → D4, int_str → D5
open PySem.SetTable renaming below → cC, grown → fC, insertAt → tH, has → BU, orStandIn → Hm, relaid → M2
open PySem.SetTable.below renaming go → BK
open PySem.SetTable.probe renaming go → pT
open PySem.Str renaming ofString → bu, length → DR
open PySem.Value renaming ref → bE, none → bJ, builtin → iQ, str → i5, type → lM, int → yg, bool → BI
open PySem.W renaming Frag → ah, fnOf → aE, keepIn → cP, kia_one → dh, mg_of → dE, nsIn → dG, kas_sort → dX, codeIn → eM, findIn → fF, kitOne → gS, kas_sort → jz, kas_descPart → jW, kmHook → kW, looks_findIn → tj, specialIn → uw, methodObj → uy, findObj → vW, instObj → yh, lookIn → yM, kas_rev → BG, mroIn → BL, cellsFrom_some → DT, looks_clsIn → Hn, codeHd_of_K → Ho, callWith_K → Jx, kitx_list → JD, kitx_dict → JE, plainGet → Nc, openEnds → Nd, km_in_of → Nf, codeHdIn → Ng
open PySem.W.Hook renaming val → D6, obs → D7
open PySem.W.KasT renaming ret → wa
open PySem.W.Looks renaming here → BN
open PySem.Within renaming cons → DS
open PySem.pickOrder renaming go → BF
open Sum renaming inl → dY, inr → fz
set_option compiler.extract_closed false
set_option bootstrap.genMatcherCode false
set_option Elab.async false
set_option linter.all false
set_option maxRecDepth 100000
set_option maxHeartbeats 0
variable {es es' aq:Array (Int×jZ)}{ax s0 s2 s3 sl bn:Array (Option jZ)}{ac bi:Array jZ}{led:Bool}{rows:List (List Int)}{ts:List (Nat×Int)}{pins pins' pn:List (BO×PySem.Obj)}{ns qs r v:List Int}{ch fp tabs:List BO}{N ks loose ps:List D9}{args bmB ds ad its' kv out rest us vs:List jZ}{ep i j k m n p q t':Nat}{nf:Nat->D9}{bq d func o0 o1 o2 o3 od bv:Option BO}{C I L S T a ab ar b be c c' dx f fI fa fo it kS kd l lk nl nw pl x0:BO}{A:PySem.Around}{e iter o tg:PySem.Expr}{Qf:dI->FH->Prop}{base h h' h0 h1:PySem.Heap}{np pos pos' pp:PySem.Pos}{P prog:PySem.Program}{sc sc' scope:PySem.Scope}{s s':FH}{lx qual x z:D9}{mA mN mb mg:D9->Option jZ}{am ct bc dV ap oc pm u:jZ}{E QQ Q₁ xe:jZ->FH->Prop}{K:ah}{w:PySem.World}
namespace L2
open PySem
abbrev bh(s:Stmt):Arguments:=match s with
 |.FunctionDef _ a _ _ _ _ _ _ _ _=>a
 |_=>{posonlyargs:=[],args:=[],vararg:=none,kwonlyargs:=[],kw_defaults:=[],kwarg:=none,defaults:=[]}
abbrev aX(s:Stmt):List Stmt:=match s with
 |.FunctionDef _ _ b _ _ _ _ _ _ _=>b
 |_=>[]
abbrev aO(s:Stmt):Scope:=match s with
 |.FunctionDef _ _ _ _ _ _ sc _ _ _=>sc
 |_=>{kind:=.function,names:=[],isGenerator:=false,isCoroutine:=false}
end L2
namespace K65
open PySem PySem.Spec PySem.Calls PyProof.Rows
abbrev top(i:Nat):Stmt:=PySem.Challenge.pw_copykin_k65_whole_known_places_told.main.body.getD i (.Pass ⟨0,0,0,0⟩)
abbrev jG(i j:Nat):Stmt:=match top i with
 |.ClassDef _ _ _ b .. =>b.getD j (.Pass ⟨0,0,0,0⟩)
 |s=>s
abbrev vw:Program:=
 {PySem.Challenge.pw_copykin_k65_whole_known_places_told with main:={PySem.Challenge.pw_copykin_k65_whole_known_places_told.main with body:=[top 1,top 2,top 3,top 4,top 5,top 7,top 8,top 9,top 10,top 11,top 12,top 13,top 14,top 15,top 16,top 17,top 18,top 19,top 21,top 22,top 23,top 24,top 26,top 27,top 28,top 29,top 31,top 32,top 33,top 34,top 35,top 36,top 37,top 38,top 39,top 41,top 42,top 43,top 44,top 45,top 46,top 47,top 48,top 49,top 50,top 51,top 52,top 53,top 54,top 55,top 56]}}
abbrev loo:List Str:=[]
abbrev xt(s:Shared):Bool:=PySem.W.xlAt vw [] s&&PySem.W.recOk [] s
abbrev lhsA(w:World):=(Nd treeTable PySem.Challenge.pw_copykin_k65_whole_known_places_told w 4922).map
 (PySem.W.openSeen vw loo (importedModules PySem.Challenge.pw_copykin_k65_whole_known_places_told.main.body) xt true)
abbrev rhsA(_:World):=some (PySem.W.openGood vw loo)
abbrev seen{α:Type _}(_:α):Bool:=true
def laidA:(seen lhsA&&seen rhsA)=true:=by k_qdec
def leftA(w:World):lhsA w=rhsA w:=by
 have _:=laidA;rw[PySem.W.Fast.te16252605877763248502,PySem.W.Fast.te4137013919545497642]
 kernel_rfl
def both{c d e:Type}{o:Option c}{f:c->d}{g:c->e}{a:d}{b:e}(h:o.map f=some a)(k:o.map g=some b):(o.map fun s=>(f s,g s))=some (a,b):=by
 cases o with
 |none=>cases h
 |some x=>injection h with h;injection k with k;rw[<-h,<-k];rfl
end K65
namespace K65
open PySem PySem.Spec PySem.Calls PyProof.Rows L2
set_option hygiene false in
local macro_rules
 | `(#v[$x:str,$t,$r])=>`(⟨ao P $x,.str $x $t,.ref $r⟩)
 | `(#v[295])=>`(.str "copykin.tables" 295)
 | `(#v[364])=>`(.str "copykin.clashes" 364)
 | `(#v[401])=>`(.str "copykin.trees" 401)
 | `(#v[435])=>`(.str "copykin.standing" 435)
 | `(#v[506])=>`(.str "law_copykin_k65_whole_known_places_told" 506)
 | `(#v[$c:num,$x,$t,$e,$f,$l,$k,$a,$b,$d,$u,$v,$g:num,$i,$m,$z])=>`((nat_lit $c,⟨.type "code",none,(.fields #[.str $x $t,.str $x $e,.str "/claim/cut.py" $f,.int $l 0,.int $k 0,.int 0 0,.int 0 0,.int 3 0,.ref $a,.bool true,.int 181 0,.ref $b,.none,.none,.none,.ref $d,.int $u 0,.int $l 0,.str "/claim/cut.py" $v]),#[]⟩)::(nat_lit $g,⟨.type "function",none,(.func (aE $x $x (bh (top $i)) (aX (top $i)) (aO (top $i)) .none .none .none $m none (.ref $c) .none)),#[]⟩)::$z)
 | `(#v[$c:num,$x,$t,$e,$f,$l,$k,$a,$b,$d,$u,$v,$g:num,$i,$m,$o,$p,$z])=>`((nat_lit $c,⟨.type "code",none,(.fields #[.str $x $t,.str $x $e,.str "/claim/cut.py" $f,.int $l 0,.int $k 0,.int 0 0,.int 0 0,.int 3 0,.ref $a,.bool true,.int 181 0,.ref $b,.none,.ref $o,.ref $p,.ref $d,.int $u 0,.int $l 0,.str "/claim/cut.py" $v]),#[]⟩)::(nat_lit $g,⟨.type "function",none,(.func (aE $x $x (bh (top $i)) (aX (top $i)) (aO (top $i)) .none .none .none $m none (.ref $c) .none)),#[]⟩)::$z)
abbrev C8(P:PySem.Params):ah:=
 (nat_lit 2,⟨.none,none,(.dict #[] 0),#[]⟩)::
 (nat_lit 3,⟨.type "dict",none,(.dict #[⟨ao P "__name__",.str "__name__" 165,.str "law_copykin_k65_whole_known_places_told" 506⟩,⟨ao P "__doc__",.str "__doc__" 166,.none⟩,⟨ao P "__package__",.str "__package__" 167,.none⟩,⟨ao P "__loader__",.str "__loader__" 168,.builtin "__main__.__loader__#opaque"⟩,⟨ao P "__spec__",.str "__spec__" 169,.none⟩,#v["__annotations__",170,6],#v["__builtins__",171,4],⟨ao P "__file__",.str "__file__" 173,.str "/claim/cut.py" 172⟩,⟨ao P "__cached__",.str "__cached__" 174,.none⟩,#v["KinError",206,24],#v["Clash",235,44],#v["Torn",262,63],#v["NoTable",278,75],#v["NoTelling",294,87],⟨ao P "LETTERS",.str "LETTERS" 298,.str "abcdefghijklmnopqrstuvwxyz" 297⟩,⟨ao P "LONGEST_NAME",.str "LONGEST_NAME" 300,.int 8 299⟩,⟨ao P "MOST_PLACES",.str "MOST_PLACES" 302,.int 60 301⟩,⟨ao P "MOST_COPIES",.str "MOST_COPIES" 304,.int 40 303⟩,#v["is_whole",311,96],#v["is_name",317,101],#v["is_reading",324,108],#v["are_readings",330,113],#v["is_copy",337,120],#v["is_table",343,125],#v["need_table",350,132],#v["table_list",356,137],#v["place_count",363,144],#v["KINDS",374,149],#v["first_of_kinds",380,154],#v["clash",392,161],#v["refuse_clash",400,168],#v["group_at",414,175],#v["turned",420,180],#v["grown",426,185],#v["tree",434,192],#v["is_telling",444,199],#v["are_tellings",450,204],#v["need_tellings",459,211],#v["that_read",465,216],#v["refuse_torn",476,223],#v["told_nodes",485,230],#v["stands",493,237],#v["unknown_places",499,242],#v["first_read",505,247],#v["_law_cell_at",515,254],#v["_law_whole",522,261],#v["_law_mixed",530,268],#v["_law_owners",536,273],#v["_law_grown",551,280],#v["_law_nodes",557,285],#v["_law_name",567,292],#v["_law_copies",573,297],#v["_law_built",579,302],#v["_law_tellings",585,307],#v["_law_bears",591,312],#v["_law_stands",597,317],#v["_law_torn",608,324],#v["_law_known",621,331],#v["_law_unknown",627,336],#v["law",633,341]] 60),#[]⟩)::
 (nat_lit 23,⟨.type "dict",none,(.dict #[⟨ao P "__module__",.str "__module__" 196,.str "copykin.errors" 187⟩,⟨ao P "__firstlineno__",.str "__firstlineno__" 200,.int 2 199⟩,#v["__static_attributes__",201,22],#v["__weakref__",203,25],⟨ao P "__doc__",.str "__doc__" 204,.none⟩] 3),#[]⟩)::
 (nat_lit 24,⟨.type "type",none,(.cls {name:="KinError",bases:=[.type "ValueError"],mro:=[.ref 24,.type "ValueError",.type "Exception",.type "BaseException",.type "object"],ns:=23,qualname:="KinError",hasDict:=true,slotNames:=[],subclasses:=[.ref 44,.ref 63,.ref 75,.ref 87],abstract:=false,collection:=none,hasDel:=false}),#[(some (.ref 15)),none,(some (.str "KinError" 189)),(some (.str "KinError" 197)),(some (.builtin "ValueError.__new__")),(some (.bool true))]⟩)::
 (nat_lit 59,⟨.type "code",none,(.fields #[.str "__init__" 248,.str "Torn.__init__" 249,.str "/claim/cut.py" 250,.int 13 0,.int 3 0,.int 0 0,.int 0 0,.int 3 0,.ref 54,.bool true,.int 181 0,.ref 55,.none,.ref 56,.ref 57,.ref 58,.int 254 0,.int 13 0,.str "/claim/cut.py" 255]),#[]⟩)::
 (nat_lit 60,⟨.type "function",none,(.func (aE "__init__" "Torn.__init__" (bh (jG 3 0)) (aX (jG 3 0)) (aO (jG 3 0)) .none .none .none (.str "copykin.errors" 187) none (.ref 59) .none)),#[]⟩)::
 (nat_lit 62,⟨.type "dict",none,(.dict #[⟨ao P "__module__",.str "__module__" 243,.str "copykin.errors" 187⟩,⟨ao P "__firstlineno__",.str "__firstlineno__" 247,.int 11 246⟩,#v["__init__",256,60],#v["__static_attributes__",259,61],⟨ao P "__doc__",.str "__doc__" 260,.none⟩] 2),#[]⟩)::
 (nat_lit 63,⟨.type "type",none,(.cls {name:="Torn",bases:=[.ref 24],mro:=[.ref 63,.ref 24,.type "ValueError",.type "Exception",.type "BaseException",.type "object"],ns:=62,qualname:="Torn",hasDict:=true,slotNames:=[],subclasses:=[],abstract:=false,collection:=none,hasDel:=false}),#[(some (.ref 47)),none,(some (.str "Torn" 236)),(some (.str "Torn" 244)),(some (.builtin "ValueError.__new__")),(some (.bool true))]⟩)::
 #v[95,"is_whole",305,306,307,26,1,90,91,94,309,310,96,11,#v[295],92,93,
 #v[100,"is_name",312,313,314,28,1,97,98,99,315,316,101,12,#v[295],
 #v[107,"is_reading",318,319,320,34,1,102,103,106,322,323,108,13,#v[295],104,105,
 #v[112,"are_readings",325,326,327,36,1,109,110,111,328,329,113,14,#v[295],
 #v[119,"is_copy",331,332,333,40,1,114,115,118,335,336,120,15,#v[295],116,117,
 #v[124,"is_table",338,339,340,44,1,121,122,123,341,342,125,16,#v[295],
 #v[131,"need_table",344,345,346,52,1,126,127,130,348,349,132,17,#v[295],128,129,
 #v[136,"table_list",351,352,353,55,1,133,134,135,354,355,137,18,#v[295],
 #v[143,"place_count",357,358,359,59,1,138,139,142,361,362,144,19,#v[295],140,141,
 (nat_lit 145,⟨.type "tuple",none,(.seq #[.int 0 366,.int 0 367] 0),#[]⟩)::
 (nat_lit 146,⟨.type "tuple",none,(.seq #[.int 0 368,.int 1 369] 0),#[]⟩)::
 (nat_lit 147,⟨.type "tuple",none,(.seq #[.int 1 370,.int 0 371] 0),#[]⟩)::
 (nat_lit 148,⟨.type "tuple",none,(.seq #[.int 1 372,.int 1 373] 0),#[]⟩)::
 (nat_lit 149,⟨.type "tuple",none,(.seq #[.ref 145,.ref 146,.ref 147,.ref 148] 0),#[]⟩)::
 #v[153,"first_of_kinds",375,376,377,66,3,150,151,152,378,379,154,22,#v[364],
 #v[160,"clash",381,382,383,73,1,155,156,159,390,391,161,23,#v[364],157,158,
 #v[167,"refuse_clash",393,394,395,82,1,162,163,166,398,399,168,24,#v[364],164,165,
 #v[174,"group_at",403,404,405,87,2,169,170,173,412,413,175,26,#v[401],171,172,
 #v[179,"turned",415,416,417,93,2,176,177,178,418,419,180,27,#v[401],
 #v[184,"grown",421,422,423,95,1,181,182,183,424,425,185,28,#v[401],
 #v[191,"tree",427,428,429,110,1,186,187,190,432,433,192,29,#v[401],188,189,
 #v[198,"is_telling",437,438,439,117,2,193,194,197,442,443,199,31,#v[435],195,196,
 #v[203,"are_tellings",445,446,447,123,2,200,201,202,448,449,204,32,#v[435],
 #v[210,"need_tellings",451,452,453,129,2,205,206,209,457,458,211,33,#v[435],207,208,
 #v[215,"that_read",460,461,462,135,2,212,213,214,463,464,216,34,#v[435],
 #v[222,"refuse_torn",466,467,468,137,2,217,218,221,474,475,223,35,#v[435],219,220,
 #v[229,"told_nodes",477,478,479,142,2,224,225,228,483,484,230,36,#v[435],226,227,
 #v[236,"stands",486,487,488,147,2,231,232,235,491,492,237,37,#v[435],233,234,
 #v[241,"unknown_places",494,495,496,150,3,238,239,240,497,498,242,38,#v[435],
 #v[246,"first_read",500,501,502,157,2,243,244,245,503,504,247,39,#v[435],
 #v[253,"_law_cell_at",508,509,510,164,2,248,249,252,513,514,254,41,#v[506],250,251,
 #v[267,"_law_mixed",523,524,525,170,2,262,263,266,528,529,268,43,#v[506],264,265,
 #v[272,"_law_owners",531,532,533,172,4,269,270,271,534,535,273,44,#v[506],
 #v[279,"_law_grown",537,538,539,191,2,274,275,278,549,550,280,45,#v[506],276,277,
 #v[284,"_law_nodes",552,553,554,203,5,281,282,283,555,556,285,46,#v[506],
 #v[291,"_law_name",558,559,560,213,2,286,287,290,565,566,292,47,#v[506],288,289,
 #v[296,"_law_copies",568,569,570,217,5,293,294,295,571,572,297,48,#v[506],
 #v[301,"_law_built",574,575,576,233,2,298,299,300,577,578,302,49,#v[506],
 #v[306,"_law_tellings",580,581,582,248,3,303,304,305,583,584,307,50,#v[506],
 #v[311,"_law_bears",586,587,588,262,2,308,309,310,589,590,312,51,#v[506],
 #v[316,"_law_stands",592,593,594,264,2,313,314,315,595,596,317,52,#v[506],
 #v[323,"_law_torn",598,599,600,266,2,318,319,322,606,607,324,53,#v[506],320,321,
 #v[330,"_law_known",609,610,611,282,5,325,326,329,619,620,331,54,#v[506],327,328,
 #v[335,"_law_unknown",622,623,624,290,5,332,333,334,625,626,336,55,#v[506],
 #v[340,"law",628,629,630,299,1,337,338,339,631,632,341,56,#v[506],
 []]]]]]]]]]]]]]]]]]]]]]]]]]]]]]]]]]]]]]]]]
abbrev C9:List Addr:=[2,3,23,24,59,60,62,63,95,96,100,101,107,108,112,113,119,120,124,125,131,132,136,137,143,144,145,146,147,148,149,153,154,160,161,167,168,174,175,179,180,184,185,191,192,198,199,203,204,210,211,215,216,222,223,229,230,236,237,241,242,246,247,253,254,267,268,272,273,279,280,284,285,291,292,296,297,301,302,306,307,311,312,316,317,323,324,330,331,335,336,340,341]
abbrev lhsB(k:PySem.W.Hook)(w:World):=(Nd treeTable PySem.Challenge.pw_copykin_k65_whole_known_places_told w 4922).map (D7 k)
abbrev rhsB(k:PySem.W.Hook)(w:World):=some (D6 k w)
def laidB:(seen lhsB&&seen rhsB)=true:=by k_qdec
def leftB(w:World):lhsB (kW K65.C8 K65.C9 (fun _=>by kernel_rfl) [134]) w=rhsB (kW K65.C8 K65.C9 (fun _=>by kernel_rfl) [134]) w:=by
 have _:=laidB;rw[PySem.W.Fast.te2803307537129374586]
 kernel_rfl
end K65
namespace L2
open PySem PySem.Spec PyProof.Rows
noncomputable abbrev Key:=Sum Int Str
abbrev xy:Key->Value->Bool
 |.inl k,v=>Value.isInt k v
 |.inr x,v=>Value.isStrOf x v
abbrev keyH(w:World):Key->Int
 |.inl k=>hashInt k
 |.inr x=>hashStr w x
def eW:∀{k:Key}{v:Value},xy k v=true->(∃i t,k=dY i/\v=yg i t)\/(∃x t,k=fz x/\v=i5 x t)
 |.inl i,v,h=>by obtain⟨t,e⟩:=Value.isInt_shape (k:=i) (v:=v) h;exact .inl ⟨i,t,rfl,e⟩
 |.inr x,v,h=>by obtain⟨t,e⟩:=Value.isStrOf_shape (x:=x) (v:=v) h;exact .inr ⟨x,t,rfl,e⟩
def IF(i:Int)(t:Tok):xy (.inl i) (.int i t)=true:=by simp[xy,Value.isInt]
def IE(x:Str)(t:Tok):xy (.inr x) (.str x t)=true:=by simp[xy,Value.isStrOf]
def key_ll(a b:Int):decide ((dY a:Key)=dY b)=(a==b):=by
 by_cases e:a=b;·subst e;simp
 ·have h:¬(dY a:Key)=dY b:=fun q=>e (dY.inj q);rw[decide_eq_false h];exact(beq_eq_false_iff_ne.mpr e).symm
def key_rr(a b:Str):decide ((fz a:Key)=fz b)=decide (a=b):=by
 by_cases e:a=b;·subst e;simp
 ·have h:¬(fz a:Key)=fz b:=fun q=>e (fz.inj q);rw[decide_eq_false h,decide_eq_false e]
def key_lr(a:Int)(b:Str):decide ((dY a:Key)=fz b)=false:=decide_eq_false (fun q=>nomatch q)
def key_rl(a:Str)(b:Int):decide ((fz a:Key)=dY b)=false:=decide_eq_false (fun q=>nomatch q)
abbrev cE(prog:Program)(w:World):PySem.KeyKind prog w Key where
 is:=xy
 hash:=keyH w
 inj:=fun v a b f d=>by
  rcases eW f with⟨i,t,rfl,rfl⟩ |⟨x,t,rfl,rfl⟩
  ·rcases eW d with⟨j,u,rfl,e⟩ |⟨y,u,rfl,e⟩;·injection e with e1 _;rw[e1]
   ·exact nomatch e
  ·rcases eW d with⟨j,u,rfl,e⟩ |⟨y,u,rfl,e⟩;·exact nomatch e
   ·injection e with e1 _;rw[e1]
 byValue:=fun k v h=>by rcases eW h with⟨i,t,rfl,rfl⟩ |⟨x,t,rfl,rfl⟩<;>rfl
 pyHash:=fun c h=>by
  rcases eW c with⟨i,t,rfl,rfl⟩ |⟨x,t,rfl,rfl⟩;·exact wpAny_pyHash_int h
  ·exact wpAny_pyHash_str h
 eqBool:=fun g c h=>by
  rcases eW g with⟨i,t,rfl,rfl⟩ |⟨x,t,rfl,rfl⟩
  ·rcases eW c with⟨j,u,rfl,rfl⟩ |⟨y,u,rfl,rfl⟩;·rw[key_ll]at h;exact rq h
   ·rw[key_lr]at h;exact D5 i t y u _ _ _ _ h
  ·rcases eW c with⟨j,u,rfl,rfl⟩ |⟨y,u,rfl,rfl⟩;·rw[key_rl]at h;exact D4 x t j u _ _ _ _ h
   ·rw[key_rr]at h;exact wpAny_eqBool_str h
 «strs»:=fun k x t v h=>by
  rcases eW h with⟨i,u,rfl,e⟩ |⟨y,u,rfl,e⟩;·exact nomatch e
  ·injection e with e1 _
   subst e1;cases v<;>rfl
theorem ES(prog:Program)(w:World)(k:Key)(v:Value):(cE prog w).is k v=xy k v:=rfl
def oB(prog:Program)(w:World)(i:Int)(t:Tok):(cE prog w).is (.inl i) (.int i t)=true:=IF i t
def CM(prog:Program)(w:World)(x:Str)(t:Tok):(cE prog w).is (.inr x) (.str x t)=true:=IE x t
inductive V where
 |non|bl (b:Bool) |int (i:Int) |str (x:Str) |byt (b:Array UInt8) |flt (b:UInt64) |ref (a:Addr) |ty (n:String)
 deriving DecidableEq
abbrev RelV:V->Value->Prop
 |.non,u=>u=bJ
 |.bl b,u=>u=BI b
 |.int i,u=>∃t,u=yg i t
 |.str x,u=>∃t,u=i5 x t
 |.byt b,u=>∃t,u=Value.bytes b t
 |.flt b,u=>∃t,u=Value.float b t
 |.ref a,u=>u=bE a
 |.ty n,u=>u=lM n
noncomputable abbrev bM:List V->List Value->Prop:=Paired RelV
theorem bM.length{xs:List V}(r:bM xs us):xs.length=us.length:=mP r
theorem bM.get:∀{xs:List V}{us:List Value}{i:Nat}{x:V},bM xs us->xs[i]? =some x->∃u,us[i]? =some u/\RelV x u
 |_,_,_,_,.nil,e=>by simp at e
 |_,_,0,_,.cons r _,e=>by simp at e;subst e;exact⟨_,rfl,r⟩
 |_,_,i+1,x,.cons _ t,e=>by obtain⟨u,a,b⟩:=bM.get (i:=i) (x:=x) t (by simpa using e);exact⟨u,by simpa using a,b⟩
theorem bM.append:∀{xs ys:List V}{us ws:List Value},bM xs us->bM ys ws->bM (xs++ys) (us++ws)
 |_,_,_,_,.nil,s=>s
 |_,_,_,_,.cons r t,s=>.cons r (bM.append t s)
theorem bM.take:∀{xs:List V}{us:List Value}(n:Nat),bM xs us->bM (xs.take n) (us.take n)
 |_,_,0,_=>.nil
 |_,_,_+1,.nil=>.nil
 |_,_,n+1,.cons r t=>.cons r (bM.take n t)
theorem bM.drop:∀{xs:List V}{us:List Value}(n:Nat),bM xs us->bM (xs.drop n) (us.drop n)
 |_,_,0,r=>r
 |_,_,_+1,.nil=>.nil
 |_,_,n+1,.cons _ t=>bM.drop n t
abbrev ur:Option V->Option Value->Prop
 |some v,some u=>RelV v u
 |none,none=>True
 |_,_=>False
abbrev KV{κ:Type}:List (κ×V)->List (κ×Value)->Prop:=Paired fun(p:κ×V)(q:κ×Value)=>p.1=q.1/\RelV p.2 q.2
abbrev kV:Key->V
 |.inl i=>.int i
 |.inr x=>.str x
inductive HO where
 |lst (xs:List V)
 |tup (xs:List V)
 |dK (kvs:List (Key×V)) |dT (kvs:List (List Key×V))
 |set (S:Int->Bool) (n:Nat)
 |ins (C dx:Addr) (fs:List (Str×V))
 |own (x:Addr)
 |xd (fs:List (Str×V))
 |met (f x:Addr)
 |rng (lo hi:Int)
 |frz (o:Obj) (u:HO)
 |tbl (ps:Array Value)
 |ext (φ:Heap->Prop)
noncomputable abbrev Hp:=Addr->Option HO
abbrev upd(H:Hp)(a:Addr)(o:HO):Hp:=fun b=>if b=a then some o else H b
def au{H:Hp}{o:HO}:upd H a o a=some o:=by unfold upd;rw[if_pos rfl]
def ba{H:Hp}{o:HO}(h:b≠a):upd H a o b=H b:=by unfold upd;rw[if_neg h]
def ne_of{H:Hp}{o u:HO}(h:H a=some o)(h':H b=some u)(d:o≠u):a≠b:=by intro e;subst e;rw[h]at h';exact d (bo h')
def bL{H:Hp}{o:HO}(h:H a=some o)(h':H b=none):a≠b:=by intro e;subst e;rw[h]at h';cases h'
section
variable(P:Program)(w:World)
abbrev dO(H:Hp)(h:Heap)(a:Addr):HO->Prop
 |.lst xs=>xs.length<=sizeLine/\∃(ad:List Value)(n:Nat),bM xs ad/\h.get? a=some {cls:=.type "list",data:=.seq ad.toArray n}
 |.tup xs=>xs.length<=sizeLine/\∃ad:List Value,bM xs ad/\IsTup h a ad.toArray
 |.dK kvs=>kvs.length<=sizeLine/\(a==gQ)=false/\∃vs,KV kvs vs/\h.DictOf (cE P w) a vs
 |.dT kvs=>kvs.length<=sizeLine/\(a==gQ)=false/\∃xs:List (List Key×Addr×Value),
   Paired (fun(p:List Key×V)(q:List Key×Addr×Value)=>p.1=q.1/\H q.2.1=some (.tup (p.1.map kV))/\RelV p.2 q.2.2) kvs xs/\
   ∃o es ep,h.get? a=some o/\o.ExactDict/\o.data=.dict es ep/\es.toList=xs.map (entryOfKey (rA (cE P w)))/\(xs.map (·.1)).Nodup
 |.set S n=>h.SetOf (intKind P w) a S n
 |.ins C dx fs=>H dx=some (.own a)/\fs.length<=1000/\dx≠a/\h.get? a=some (yh C dx)/\
   ∃mA,h.Ns1 dx mA/\(∀f,ur (fs.lookup f) (mA f))/\kU mA (fs.map (·.1))
 |.own _=>∃o,h.get? a=some o
 |.xd fs=>∃mA,h.Ns1 a mA/\∀f,ur (fs.lookup f) (mA f)
 |.rng lo hi=>∃t u v,h.get? a=some {cls:=.type "range",data:=.fields #[.int lo t,.int hi u,.int 1 v]}
 |.frz o u=>h.get? a=some o/\dO H h a u
 |.tbl ps=>h.get? a=some {cls:=.none,data:=.fields ps}
 |.met f x=>h.get? a=some (uy (.ref f) (.ref x))
 |.ext φ=>φ h/\(∃o,h.get? a=some o)/\∀h1 h2:Heap,φ h1->(∀o,h1.get? a=some o->h2.get? a=some o)->φ h2
def HOk(H:Hp)(h:Heap):Prop:=∀a o,H a=some o->dO P w H h a o
end
section
variable {H H':Hp}{a:Addr}{o:HO}
theorem dO.lt(x:dO P w H h a o):a<h.objs.size:=by
 cases o with
 |lst xs=>obtain⟨_,_,_,_,e⟩:=x;exact aA e
 |tup xs=>obtain⟨_,_,_,p⟩:=x;exact p.lt
 |dK kvs=>obtain⟨_,_,_,_,o,_,_,e,_⟩:=x;exact aA e
 |dT kvs=>obtain⟨_,_,_,_,o,_,_,e,_⟩:=x;exact aA e
 |set S n=>obtain⟨o,_,_,_,e,_⟩:=x;exact aA e
 |ins C dx fs=>obtain⟨_,_,_,e,_⟩:=x;exact aA e
 |own y=>obtain⟨_,e⟩:=x;exact aA e
 |xd fs=>obtain⟨_,⟨_,_,_,e,_⟩,_⟩:=x;exact aA e
 |rng lo hi=>obtain⟨_,_,_,e⟩:=x;exact aA e
 |frz ob u=>obtain⟨e,_⟩:=x;exact aA e
 |tbl ps=>exact aA (show h.get? a=some _ from x)
 |met f y=>exact aA (show h.get? a=some _ from x)
 |ext φ=>obtain⟨_,⟨_,e⟩,_⟩:=x;exact aA e
theorem Paired.mZ{e g:Type}{F G:e->g->Prop}:∀{c:List e}{d:List g},Paired F c d->(∀a b,F a b->G a b)->Paired G c d
 |_,_,.nil,_=>.nil
 |_,_,.cons r t,f=>.cons (f _ _ r) (Paired.mZ t f)
def dO.mS(x:dO P w H h a o)(k:∀b u,(b=a\/H b=some (.own a))->h.get? b=some u->h'.get? b=some u)
  (D:∀b,H b=some (.own a)->H' b=some (.own a))(E:∀b xs,H b=some (.tup xs)->H' b=some (.tup xs)):dO P w H' h' a o:=by
 induction o with
 |lst xs=>obtain⟨z,l,n,r,e⟩:=x;exact⟨z,l,n,r,k _ _ (.inl rfl) e⟩
 |tup xs=>obtain⟨z,l,r,g,e,c⟩:=x;exact⟨z,l,r,g,k _ _ (.inl rfl) e,c⟩
 |dK kvs=>obtain⟨z,y,F,r,g,j,i,e,c⟩:=x;exact⟨z,y,F,r,g,j,i,k _ _ (.inl rfl) e,c⟩
 |dT kvs=>obtain⟨z,y,xs,r,g,j,i,e,c⟩:=x;exact⟨z,y,xs,Paired.mZ r fun p q z=>⟨z.1,E _ _ z.2.1,z.2.2⟩,g,j,i,k _ _ (.inl rfl) e,c⟩
 |set S n=>obtain⟨g,j,i,t,e,c⟩:=x;exact⟨g,j,i,t,k _ _ (.inl rfl) e,c⟩
 |ins C dx fs=>obtain⟨d,z,ne,e,m,⟨s,j,i,B,c⟩,r⟩:=x;exact⟨D _ d,z,ne,k _ _ (.inl rfl) e,m,⟨s,j,i,k _ _ (.inr d) B,c⟩,r⟩
 |own y=>obtain⟨g,e⟩:=x;exact⟨g,k _ _ (.inl rfl) e⟩
 |xd fs=>obtain⟨m,⟨s,j,i,e,c⟩,r⟩:=x;exact⟨m,⟨s,j,i,k _ _ (.inl rfl) e,c⟩,r⟩
 |rng lo hi=>obtain⟨t,u,v,e⟩:=x;exact⟨t,u,v,k _ _ (.inl rfl) e⟩
 |frz g u ih=>obtain⟨e,q⟩:=x;exact⟨k _ _ (.inl rfl) e,ih q⟩
 |tbl ps=>have e:h.get? a=some {cls:=.none,data:=.fields ps}:=x;show h'.get? a=some {cls:=.none,data:=.fields ps};exact k a _ (.inl rfl) e
 |met f y=>have e:h.get? a=some (uy (.ref f) (.ref y)):=x;show h'.get? a=some (uy (.ref f) (.ref y));exact k a _ (.inl rfl) e
 |ext φ=>obtain⟨p,⟨o,e⟩,A⟩:=x;exact⟨A _ _ p fun o q=>k _ _ (.inl rfl) q,⟨o,k _ _ (.inl rfl) e⟩,A⟩
theorem HOk.lt(x:HOk P w H h)(e:H a=some o):a<h.objs.size:=(x a o e).lt
def HOk.fresh(x:HOk P w H h)(e:h.objs.size<=a):H a=none:=by
 cases q:H a with
 |none=>rfl
 |some u=>exact absurd (aU (x.lt q) e) (dJ _)
def HOk.kept(x:HOk P w H h)(k:∀b u,h.get? b=some u->h'.get? b=some u):HOk P w H h':=fun a o e=>
 (x a o e).mS (fun b u _ q=>k b u q) (fun _ q=>q) fun _ _ q=>q
def HOk.laid(x:HOk P w H h)(k:∀b u,h.get? b=some u->h'.get? b=some u)(hp:h.objs.size<=a)(f:dO P w (upd H a o) h' a o):HOk P w (upd H a o) h':=fun b u e=>by
 have d:=x.fresh hp;by_cases hb:b=a;·subst hb;rw[au]at e;cases e;exact f
 ·rw[ba hb]at e;exact(x b u e).mS (fun c v _ q=>k c v q) (fun c q=>by rw[ba (bL q d)];exact q) fun c g q=>by rw[ba (bL q d)];exact q
end
def Rd(H:Hp)(a:Addr)(u:HO):Prop:=H a=some u\/∃o,H a=some (.frz o u)
def Rd.ok{H:Hp}{u:HO}(r:Rd H a u)(x:HOk P w H h):dO P w H h a u:=by
 rcases r with r|⟨o,r⟩;·exact x a u r
 ·obtain⟨_,q⟩:=x a _ r;exact q
abbrev Mut:Option HO->Prop
 |some (.lst _)=>True
 |some (.dK _)=>True
 |some (.dT _)=>True
 |some (.set _ _)=>True
 |some (.ins _ _ _)=>True
 |some (.ext _)=>True
 |_=>False
section
variable {H:Hp}{x e:Addr}{o':HO}
def HOk.write(ok:HOk P w H h)(a:Mut (H x))(f:e=x\/H e=some (.own x))(k:∀b u,b≠e->h.get? b=some u->h'.get? b=some u)(j:∃u,h'.get? e=some u)
  (m:dO P w (upd H x o') h' x o'):HOk P w (upd H x o') h':=fun b u q=>by
 have g:∀c y,H c=some (.own y)->c≠x:=fun c y r z=>by subst z;rw[r]at a;exact a
 have n:∀c d,H c=some (.tup d)->c≠x:=fun c d r z=>by subst z;rw[r]at a;exact a
 by_cases hb:b=x;·subst hb;rw[au]at q;cases q;exact m
 ·rw[ba hb]at q;by_cases hbe:b=e
  ·have i:H b=some (.own x):=by
    rcases f with z|z;·exact absurd (hbe.trans z) hb
    ·rw[hbe];exact z
   rw[q]at i;cases i;obtain⟨v,l⟩:=j;exact⟨v,by rw[hbe];exact l⟩
  ·refine(ok b u q).mS (fun c v hc r=>k c v ?_ r) (fun c r=>by rw[ba (g c b r)];exact r) fun c d r=>by rw[ba (n c d r)];exact r
   rcases hc with rfl|hc;·exact hbe
   ·rintro rfl;rcases f with z|z;·exact g c b hc z
    ·rw[hc]at z;cases z;exact hb rfl
end
structure Un(fs ex:List Addr)(H H':Hp)(h h':Heap):Prop where
 keep:∀b o,h.get? b=some o->H b=none->b∉fs->b∉ex->h'.get? b=some o
 slot:∀b o,h.get? b=some o->H b=none->b∈fs->b∉ex->∃sl,h'.get? b=some {o with slots:=sl}
 free:∀b o,h.get? b=some o->H b=none->b∉ex->H' b=none
 there:∀b o,h.get? b=some o->b∉ex->∃o',h'.get? b=some o'
 tups:∀b xs,H b=some (.tup xs)->H' b=some (.tup xs)
 frzs:∀b o u,H b=some (.frz o u)->H' b=some (.frz o u)
 tbls:∀b ps,H b=some (.tbl ps)->∃more,H' b=some (.tbl (ps++more))
section
variable {fs fs' ex ex':List Addr}{H H1 H2:Hp}{h2:Heap}{a x e:Addr}{o:HO}
def Un.any(u:Un fs ex H H1 h h1){ob:Obj}(q:h.get? b=some ob)(n:H b=none)(a:b∉ex):∃sl,h1.get? b=some {ob with slots:=sl}:=by
 by_cases hb:b∈fs;·exact u.slot b ob q n hb a
 ·exact⟨ob.slots,u.keep b ob q n hb a⟩
def Un.kept(k:∀b u,h.get? b=some u->h'.get? b=some u):Un fs ex H H h h':=
 ⟨fun b a q _ _ _=>k b a q,fun b a q _ _ _=>⟨a.slots,k b a q⟩,fun _ _ _ n _=>n,fun b a q _=>⟨a,k b a q⟩,fun _ _ q=>q,fun _ _ _ q=>q,fun _ c q=>⟨#[],by rw[q];simp⟩⟩
def Un.refl:Un fs ex H H h h:=Un.kept fun _ _ q=>q
def Un.laid(k:∀b u,h.get? b=some u->h'.get? b=some u)(hp:h.objs.size<=a)(c:H a=none):Un fs ex H (upd H a o) h h' where
 keep:=fun b u q _ _ _=>k b u q
 slot:=fun b u q _ _ _=>⟨u.slots,k b u q⟩
 free:=fun b u q n _=>by rw[ba (aP (aU (aA q) hp))];exact n
 there:=fun b u q _=>⟨u,k b u q⟩
 tups:=fun b d q=>by rw[ba (bL q c)];exact q
 frzs:=fun b u d q=>by rw[ba (bL q c)];exact q
 tbls:=fun b e q=>⟨#[],by rw[ba (bL q c),q];simp⟩
def Un.write(a:Mut (H x))(g:e=x\/H e=some (.own x))(k:∀b u,b≠e->h.get? b=some u->h'.get? b=some u)(i:∃u,h'.get? e=some u):Un fs ex H (upd H x o) h h':=by
 have f:∀b,H b=none->b≠x:=fun b n z=>by subst z;rw[n]at a;exact a
 have d:∀b,H b=none->b≠e:=fun b n z=>by
  subst z;rcases g with r|r;·exact f b n r
  ·rw[n]at r;cases r
 have c:∀b u,H b=some u->¬Mut (some u)->b≠x:=fun b u q j z=>by subst z;rw[q]at a;exact j a
 refine⟨fun b u q n _ _=>k b u (d b n) q,fun b u q n _ _=>⟨u.slots,k b u (d b n) q⟩,fun b u q n _=>by rw[ba (f b n)];exact n,fun b u q _=>?_,
  fun b l q=>by rw[ba (c b _ q fun z=>z)];exact q,fun b u l q=>by rw[ba (c b _ q fun z=>z)];exact q,fun b m q=>⟨#[],by rw[ba (c b _ q fun z=>z),q];simp⟩⟩
 by_cases hbe:b=e;·subst hbe;exact i
 ·exact⟨u,k b u hbe q⟩
end
abbrev trk(h:Heap)(H:Hp):List Addr:=(aH h.objs.size).filter fun a=>(H a).isSome
abbrev C7(h:Heap)(H:Hp):Heap:=PySem.W.hideAll h (trk h H)
def IK(h:Heap)(H:Hp):(C7 h H).objs.size=h.objs.size:=PySem.W.hideAll_size _ _
def xC{H:Hp}{o:Obj}(e:h.get? b=some o)(n:H b=none):(C7 h H).get? b=some o:=
 PySem.W.hideAll_get _ e fun a=>by have q:(H b).isSome=true:=(bw.mp a).2;rw[n]at q;simp at q
def of_hidT{H:Hp}{o:Obj}(e:(C7 h H).get? b=some o):h.get? b=some o/\H b=none:=by
 have a:h.get? b=some o:=PySem.W.of_hideAll (trk h H) e;refine⟨a,?_⟩;cases q:H b with
 |none=>rfl
 |some x=>have c:b∈trk h H:=bw.mpr ⟨aW.mpr (aA a),by simp[q]⟩;have z:(C7 h H).get? b=none:=PySem.W.hideAll_none (trk h H) c;rw[z]at e;cases e
structure Mod(K:ah)(mg:Str->Option Value)(base:Heap):Prop where
 kin:K.In base
 glob:base.Ns bH mg
 blt:∃mb,base.Ns nZ mb/\∀x:Str,x≠"__name__"->mb x=fP x
 nolimit:base.NoLimit
structure Cx where
 prog:Program
 w:World
 K:ah
 mg:Str->Option Value
 base:Heap
 A:Around
 N:List Str
 s₀:Shared
 H₀:Hp
 env:Env
 outer:List Env
 stack:List Env
 ex:List Addr
 fn:Str->Bool
 calm:Bool
 pn:List (Addr×Obj)
 xe:Value->Shared->Prop
abbrev frs(l:List Env):List Addr:=l.filterMap (·.frame)
noncomputable abbrev Cx.fs(X:Cx):List Addr:=frs X.outer
def Vis(sc:Scope)(x:Str):Prop:=sc.names.lookup x=some .local\/sc.names.lookup x=some .cell\/sc.names.lookup x=some .free
def Loc(sc:Scope)(x:Str):Prop:=sc.names.lookup x=some .local\/sc.names.lookup x=some .cell
def Look(env:Env)(h:Heap)(m:Str->Option Value)(x:Str)(u:Value):Prop:=
 (env.kindOf x=some .local/\m x=some u)\/((env.kindOf x=some .cell\/env.kindOf x=some .free)/\∃c,env.cells.lookup x=some c/\h.IsCell c (some u))
structure Cx.Ok(X:Cx):Prop where
 mod:Mod X.K X.mg X.base
 kind:X.env.scope.kind=.function
 glob:X.env.globals=bH
 blt:X.env.builtins=nZ
 above:X.s₀.heap.objs.size<=X.env.locals
 inj:∀x y c,X.env.cells.lookup x=some c->X.env.cells.lookup y=some c->x=y
 has:∀x,(X.env.kindOf x=some .cell\/X.env.kindOf x=some .free)->∃c,X.env.cells.lookup x=some c
 cab:∀x c,X.fn x=true->X.env.cells.lookup x=some c->X.s₀.heap.objs.size<=c
 hd:X.calm=true->X.A.handled=none
 frames:X.A.frames=some X.stack
 stk:X.stack=X.outer\/(X.stack=X.env::X.outer/\X.env.frame=some X.env.locals)
 exf:∀b∈X.ex,b≠X.env.locals/\∀x c,X.env.cells.lookup x=some c->c≠b
 bs:∀b o,X.base.get? b=some o->X.s₀.heap.get? b=some o/\X.H₀ b=none
 bsz:X.base.objs.size<=X.s₀.heap.objs.size
 noex:∀b o,X.base.get? b=some o->b∉X.ex
 exfs:∀b∈X.ex,b∉X.fs
 xE:X.s₀.heap.FunFrames X.base X.outer
 frf:∀b∈X.fs,X.H₀ b=none
structure Inv(X:Cx)(pins:List (Addr×Obj))(σ:List (Option V))(H:Hp)(s:Shared):Prop where
 ok:X.Ok
 os:s.os=X.s₀.os
 bare:pW s.gens
 base:Un X.fs X.ex X.H₀ H X.s₀.heap s.heap
 loc:∃m,s.heap.Ns X.env.locals m/\∀(i:Nat)(x:Str)(v:V),X.N[i]? =some x->σ[i]? =some (some v)->Vis X.env.scope x->∃u,RelV v u/\Look X.env s.heap m x u
 cell:∀x c,X.env.cells.lookup x=some c->∃v,s.heap.IsCell c v
 free:H X.env.locals=none
 freeC:∀x c,X.env.cells.lookup x=some c->H c=none
 pin:∀p∈X.pn++pins,s.heap.get? p.1=some p.2/\H p.1=none/\p.1≠X.env.locals/\p.1∉X.fs/\∀v,p.2.data≠.cell v
 hok:HOk X.prog X.w H s.heap
 len:σ.length=X.N.length
section
variable {X:Cx}{pins:List (Addr×Obj)}{σ:List (Option V)}{H H':Hp}{s:Shared}
def Cx.Ok.nofr(ok:X.Ok){o:Obj}(e:X.base.get? b=some o):b∉X.fs:=fun a=>by have :=(ok.xE.mem a).1;rw[e]at this;cases this
theorem Inv.bs(I:Inv X pins σ H s):∀b o,X.base.get? b=some o->s.heap.get? b=some o/\H b=none:=fun b o e=>
 ⟨I.base.keep b o (I.ok.bs b o e).1 (I.ok.bs b o e).2 (I.ok.nofr e) (I.ok.noex b o e),I.base.free b o (I.ok.bs b o e).1 (I.ok.bs b o e).2 (I.ok.noex b o e)⟩
def Inv.bk(I:Inv X pins σ H s):∀b o,X.base.get? b=some o->s.heap.get? b=some o:=fun b o e=>(I.bs b o e).1
theorem Inv.mod(I:Inv X pins σ H s):Mod X.K X.mg X.base:=I.ok.mod
def Inv.kIn(I:Inv X pins σ H s):X.K.In s.heap:=I.ok.mod.kin.keeps I.bk
theorem Inv.nolimit(I:Inv X pins σ H s):s.heap.NoLimit:=I.ok.mod.nolimit.keeps I.bk
theorem Inv.lt(I:Inv X pins σ H s):X.env.locals<s.heap.objs.size:=let⟨_,hn,_⟩:=I.loc;hn.lt
def Inv.sz(I:Inv X pins σ H s):X.s₀.heap.objs.size<=s.heap.objs.size:=aL I.ok.above (jA I.lt)
def Inv.nofs(I:Inv X pins σ H s)(h:s.heap.objs.size<=a):a∉X.fs:=fun b=>by obtain⟨_,o,c,_⟩:=I.ok.xE.mem b;exact absurd (aU (aA c) (aL I.sz h)) (dJ _)
def Inv.cne(I:Inv X pins σ H s):∀x c,X.env.cells.lookup x=some c->c≠X.env.locals:=fun x c e z=>by obtain⟨v,o,b,a⟩:=I.cell x c e;obtain⟨m,⟨i,h,g,f,d,_⟩,_⟩:=I.loc;rw[z,f]at b;cases b;rw[d]at a;cases a
theorem Inv.xE(I:Inv X pins σ H s):s.heap.FunFrames X.base X.outer:=by
 have all:∀(l:List Env),(∀b∈frs l,b∈X.fs)->X.s₀.heap.FunFrames X.base l->s.heap.FunFrames X.base l:=by
  intro l
  induction l with
  |nil=>intro _ _;trivial
  |cons env r ih=>intro d h;obtain⟨g,⟨L,o,hf,i,j,f⟩,k⟩:=h;have a:L∈X.fs:=d L (by unfold frs;rw[tJ,hf];exact aM);obtain⟨m,e⟩:=I.base.slot L o j (I.ok.frf L a) a fun z=>I.ok.exfs L z a;exact⟨g,⟨L,_,hf,i,e,f⟩,ih (fun b c=>d b (by unfold frs;rw[tJ,hf];exact aK _ c)) k⟩
 exact all X.outer (fun _ c=>c) I.ok.xE
theorem Inv.stack(I:Inv X pins σ H s):s.heap.FunFrames X.base X.stack:=by
 rcases I.ok.stk with e|⟨e,hf⟩;·rw[e];exact I.xE
 ·rw[e];obtain⟨m,a,_⟩:=I.loc;refine .cons (by rw[I.ok.kind];decide) hf a ?_ I.xE;exact rH (aL I.ok.bsz I.ok.above)
def Inv.Ep(I:Inv X pins σ H s):∀b∈frs X.stack,b∈X.env.locals::X.fs:=fun b a=>by
 rcases I.ok.stk with e|⟨e,hf⟩;·rw[e]at a;exact aK _ a
 ·rw[e]at a;unfold frs at a;rw[tJ,hf]at a;exact a
def Inv.Ag(I:Inv X pins σ H s):∀b∈frs X.stack,H b=none:=fun b hb=>by
 rcases aI.mp (I.Ep b hb)with e|hb;·rw[e];exact I.free
 ·obtain⟨_,o,a,_⟩:=I.ok.xE.mem hb;exact I.base.free b o a (I.ok.frf b hb) fun z=>I.ok.exfs b z hb
def Inv.step{g':Array lN}{d':Drawn}(I:Inv X pins σ H s)
  (t:∀b∈ch,(b∈X.ex\/X.s₀.heap.objs.size<=b)/\b≠X.env.locals/\(∀x c,X.env.cells.lookup x=some c->c≠b)/\∀p∈X.pn++pins,p.1≠b)
  (B:∀b o,b≠X.env.locals->b∉X.fs->b∉ch->s.heap.get? b=some o->H b=none->h'.get? b=some o)
  (slot:∀b o,b≠X.env.locals->b∈X.fs->b∉ch->s.heap.get? b=some o->H b=none->∃sl,h'.get? b=some {o with slots:=sl}) (free:∀b o,b∉ch->s.heap.get? b=some o->H b=none->H' b=none)
  (there:∀b o,b∉ch->s.heap.get? b=some o->∃o',h'.get? b=some o')
  (R:∀b xs,H b=some (.tup xs)->H' b=some (.tup xs)) (F:∀b o u,H b=some (.frz o u)->H' b=some (.frz o u)) (Q:∀b ps,H b=some (.tbl ps)->∃more,H' b=some (.tbl (ps++more)))
  (O:∀m,s.heap.Ns X.env.locals m->h'.Ns X.env.locals m) (L:HOk X.prog X.w H' h') (G:pW g'):
  Inv X pins σ H' {s with heap:=h',gens:=g',drawn:=d',toks:=t'}:=by
 have neL:∀b o,X.s₀.heap.get? b=some o->b≠X.env.locals:=fun b o e=>aP (aU (aA e) I.ok.above);have y:∀b o,X.s₀.heap.get? b=some o->b∉X.ex->b∉ch:=fun b o e a g=>by
  rcases(t b g).1 with z|z;·exact a z
  ·exact absurd (aU (aA e) z) (dJ _)
 have C:∀x c,X.env.cells.lookup x=some c->∀v,s.heap.IsCell c v->h'.IsCell c v:=fun x c e v ⟨o,h,A⟩=>by
  have w:c∉ch:=fun z=>(t c z).2.2.1 x c e rfl;by_cases hc:c∈X.fs;·obtain⟨sl,q⟩:=slot c o (I.cne x c e) hc w h (I.freeC x c e);exact⟨_,q,A⟩
  ·exact⟨o,B c o (I.cne x c e) hc w h (I.freeC x c e),A⟩
 refine⟨I.ok,I.os,G,⟨fun b o e n g a=>?_,fun b o e n g a=>?_,fun b o e n a=>?_,fun b o e a=>?_,fun b xs e=>R b xs (I.base.tups b xs e),fun b o xs e=>F b o xs (I.base.frzs b o xs e),fun b ps e=>?_⟩,?_,fun x c e=>?_,?_,fun x c e=>?_,fun p hp=>?_,L,I.len⟩;·exact B b o (neL b o e) g (y b o e a) (I.base.keep b o e n g a) (I.base.free b o e n a)
 ·obtain⟨sl,f⟩:=I.base.slot b o e n g a;obtain⟨P,j⟩:=slot b _ (neL b o e) g (y b o e a) f (I.base.free b o e n a);exact⟨P,j⟩
 ·obtain⟨o',f⟩:=I.base.there b o e a;exact free b o' (y b o e a) f (I.base.free b o e n a)
 ·obtain⟨o',f⟩:=I.base.there b o e a;exact there b o' (y b o e a) f
 ·obtain⟨M,f⟩:=I.base.tbls b ps e;obtain⟨N,j⟩:=Q b _ f;exact⟨M++N,by rw[j,Array.append_assoc]⟩
 ·obtain⟨m,K,J⟩:=I.loc;refine⟨m,O m K,fun i x v f j E=>?_⟩;obtain⟨u,r,l⟩:=J i x v f j E;refine⟨u,r,?_⟩;rcases l with l|⟨k,c,e,z⟩;·exact .inl l
  ·exact .inr ⟨k,c,e,C x c e _ z⟩
 ·obtain⟨v,z⟩:=I.cell x c e;exact⟨v,C x c e v z⟩
 ·obtain⟨m,⟨o,_,_,h,_⟩,_⟩:=I.loc;exact free _ o (fun z=>(t _ z).2.1 rfl) h I.free
 ·obtain⟨v,o,h,A⟩:=I.cell x c e;exact free c o (fun z=>(t c z).2.2.1 x c e rfl) h (I.freeC x c e)
 ·obtain⟨e,n,ne,D,d⟩:=I.pin p hp;have w:p.1∉ch:=fun z=>(t p.1 z).2.2.2 p hp rfl;exact⟨B p.1 p.2 ne D w e n,free p.1 p.2 w e n,ne,D,d⟩
def Inv.un(I:Inv X pins σ H s)(u:Un X.fs [] H H' s.heap h')(j:HOk X.prog X.w H' h'):Inv X pins σ H' {s with heap:=h',toks:=t'}:=by obtain⟨m,⟨o,p,l,c,r⟩,_⟩:=id I.loc;obtain⟨v,h⟩:=u.any c I.free (by simp);exact I.step (g':=s.gens) (d':=s.drawn) (ch:=[]) (fun _ z=>nomatch z) (fun b o _ a _ e n=>u.keep b o e n a (by simp)) (fun b o _ a _ e n=>u.slot b o e n a (by simp)) (fun b o _ e n=>u.free b o e n (by simp)) (fun b o _ e=>u.there b o e (by simp)) u.tups u.frzs u.tbls (fun q i=>by obtain⟨t,g,f,d,k⟩:=i;rw[c]at d;cases d;exact⟨_,g,f,h,k⟩) j I.bare
def Inv.call{g':Array lN}{d':Drawn}(I:Inv X pins σ H s)(u:Un (frs X.stack) ch H H' s.heap h')(t:HOk X.prog X.w H' h')(l:pW g')
  (f:∀b∈ch,(b∈X.ex\/X.s₀.heap.objs.size<=b)/\b≠X.env.locals/\(∀x c,X.env.cells.lookup x=some c->c≠b)/\∀p∈X.pn++pins,p.1≠b):
  Inv X pins σ H' {s with heap:=h',gens:=g',drawn:=d',toks:=t'}:=by
 obtain⟨m,⟨o,y,w,g,r⟩,_⟩:=id I.loc;obtain⟨C,d⟩:=u.any g I.free fun z=>(f _ z).2.1 rfl;exact I.step (ch:=ch) f (fun b o d k a e n=>u.keep b o e n (fun z=>(aI.mp (I.Ep b z)).elim d k) a) (fun b o _ _ a e n=>u.any e n a) (fun b o a e n=>u.free b o e n a) (fun b o a e=>u.there b o e a) u.tups u.frzs u.tbls (fun A q=>by obtain⟨B,j,i,h,v⟩:=q;rw[g]at h;cases h;exact⟨_,j,i,d,v⟩) t l
def Inv.turned(I:Inv X pins σ H s)(k:∀b o,b≠it->s.heap.get? b=some o->h'.get? b=some o)(y:H it=none)(d:it≠X.env.locals)
  (i:it∈X.ex\/X.s₀.heap.objs.size<=it)(j:∀x c,X.env.cells.lookup x=some c->c≠it)(l:∀p∈X.pn++pins,p.1≠it):Inv X pins σ H {s with heap:=h',toks:=t'}:=by
 have f:∀b u,H b=some u->b≠it:=fun b u e z=>by rw[z,y]at e;cases e
 refine I.step (g':=s.gens) (d':=s.drawn) (ch:=[it]) (fun b t=>?_) (fun b o _ _ a e _=>k b o (fun z=>a (by simp[z])) e) (fun b o _ _ a e _=>⟨o.slots,k b o (fun z=>a (by simp[z])) e⟩) (fun _ _ _ _ n=>n)
  (fun b o a e=>⟨o,k b o (fun z=>a (by simp[z])) e⟩) (fun _ _ e=>e) (fun _ _ _ e=>e) (fun b B e=>⟨#[],by rw[e];simp⟩) (fun m w=>?_) (fun b u e=>?_) I.bare
 ·have e:b=it:=by simpa using t
  subst e;exact⟨i,d,j,l⟩
 ·obtain⟨o,h,g,A,r⟩:=w;exact⟨o,h,g,k _ o (bI d) A,r⟩
 ·refine(I.hok b u e).mS (fun c v a q=>k c v ?_ q) (fun _ q=>q) fun _ _ q=>q;rcases a with z|z;·rw[z];exact f b u e
  ·exact f c _ z
def Inv.tok(I:Inv X pins σ H s)(t:Nat):Inv X pins σ H {s with toks:=t}:=I.un (h':=s.heap) (t':=t) Un.refl I.hok
theorem Inv.kept(I:Inv X pins σ H s)(k:∀b u,s.heap.get? b=some u->h'.get? b=some u):Inv X pins σ H {s with heap:=h',toks:=t'}:=I.un (Un.kept k) (I.hok.kept k)
theorem Inv.laid{o:HO}(I:Inv X pins σ H s)(k:∀b u,s.heap.get? b=some u->h'.get? b=some u)(hp:s.heap.objs.size<=a)(c:dO X.prog X.w (upd H a o) h' a o):
  Inv X pins σ (upd H a o) {s with heap:=h',toks:=t'}:=I.un (Un.laid k hp (I.hok.fresh hp)) (I.hok.laid k hp c)
theorem Inv.write{x e:Addr}{o:HO}(I:Inv X pins σ H s)(d:Mut (H x))(a:e=x\/H e=some (.own x))(k:∀b u,b≠e->s.heap.get? b=some u->h'.get? b=some u)(c:∃u,h'.get? e=some u)
  (f:dO X.prog X.w (upd H x o) h' x o):Inv X pins σ (upd H x o) {s with heap:=h',toks:=t'}:=I.un (Un.write d a k c) (I.hok.write d a k c f)
def Inv.AG(I:Inv X pins σ H s)(h:∀p∈pins',s.heap.get? p.1=some p.2/\H p.1=none/\p.1≠X.env.locals/\p.1∉X.fs/\∀v,p.2.data≠.cell v):Inv X pins' σ H s:=
 ⟨I.ok,I.os,I.bare,I.base,I.loc,I.cell,I.free,I.freeC,fun p hp=>(cX.mp hp).elim (fun z=>I.pin p (bZ _ z)) (h p),I.hok,I.len⟩
def w6(e:N.Nodup)(a:N[i]? =some x)(b:N[j]? =some x):i=j:=by obtain⟨f,c⟩:=aC.mp a;obtain⟨g,d⟩:=aC.mp b;exact(eQ e).mp (c.trans d.symm)
def HF{M:Model}{v:V}{Q:Unit->Shared->Prop}(I:Inv X pins σ H s)(R:X.N.Nodup)(hi:X.N[i]? =some x)(l:Loc X.env.scope x)(r:RelV v u)
  (h:∀s',Inv X pins (σ.set i (some v)) H s'->(∃a,dq a s.heap s'.heap/\(a=X.env.locals\/X.env.cells.lookup x=some a))->Q () s')(hf:X.fn x=true\/X.env.scope.names.lookup x=some .local:=by first |exact .inl rfl|exact .inr rfl|assumption):wpAny M A (storeName X.env x u) Q E s:=by
 obtain⟨a5,G,W⟩:=id I.loc;have a1:(X.env.scope.kind== .class||(X.env.scope.kind== .module&&X.env.locals != X.env.globals))=false:=by rw[I.ok.kind];rfl
 have U:i<σ.length:=by rw[I.len];exact(aC.mp hi).1
 have cne:=I.cne;have a0:∀{a:Addr}{w:Heap},(∃o,s.heap.get? a=some o/\H a=none)->dq a s.heap w->HOk X.prog X.w H w:=fun{a w} ha f b ob e=>by
  obtain⟨_,_,T⟩:=ha;refine(I.hok b ob e).mS (fun c C hc q=>(f.2 c ?_).trans q) (fun _ q=>q) fun _ _ q=>q;rintro rfl;rcases hc with rfl|hc;·rw[T]at e;cases e
  ·rw[T]at hc;cases hc
 rcases l with hk|hk
 ·refine wpAny_storeName_local hk G (fun w a2 f=>?_) a1;obtain⟨oL,_,_,a3,_⟩:=id G;refine h _ ⟨I.ok,I.os,I.bare,⟨fun b o e n t l=>?_,fun b o e n t l=>?_,I.base.free,fun b o e l=>?_,I.base.tups,I.base.frzs,I.base.tbls⟩,⟨_,a2,fun j y P g m D=>?_⟩,fun y c e=>?_,I.free,I.freeC,fun p hp=>?_,a0 ⟨oL,a3,I.free⟩ f,by simpa using I.len⟩ ⟨_,f,.inl rfl⟩;·exact(f.2 b (aP (aU (aA e) I.ok.above))).trans (I.base.keep b o e n t l)
  ·obtain⟨N,g⟩:=I.base.slot b o e n t l;exact⟨N,(f.2 b (aP (aU (aA e) I.ok.above))).trans g⟩
  ·obtain⟨K,g⟩:=I.base.there b o e l;exact⟨K,(f.2 b (aP (aU (aA e) I.ok.above))).trans g⟩
  ·by_cases hj:j=i;·subst hj;rw[hi]at g;cases g;rw[Hs U]at m;cases m;exact⟨u,r,.inl ⟨hk,by simp⟩⟩
   ·rw[rG (bI hj)]at m;obtain⟨O,L,q⟩:=W j y P g m D;refine⟨O,L,?_⟩;rcases q with⟨k,e⟩ |⟨k,c,e,z⟩;·refine .inl ⟨k,?_⟩;have :y≠x:=fun e=>hj (w6 R g (e▸hi));simp[this,e]
    ·exact .inr ⟨k,c,e,z.sameBut f (cne y c e)⟩
  ·obtain⟨C,z⟩:=I.cell y c e;exact⟨C,z.sameBut f (cne y c e)⟩
  ·obtain⟨e,n,ne,J,d⟩:=I.pin p hp;exact⟨(f.2 p.1 ne).trans e,n,ne,J,d⟩
 ·have F:X.fn x=true:=by
   rcases hf with z|z;·exact z
   ·rw[z]at hk;cases hk
  obtain⟨c,hc⟩:=I.ok.has x (.inl hk);obtain⟨C,z⟩:=I.cell x c hc;refine wpAny_storeName_cell I.ok.kind hk hc z (fun w S f=>?_);obtain⟨Z,Y,a4⟩:=id z;refine h {s with heap:=w} ⟨I.ok,I.os,I.bare,⟨fun b o e n t l=>?_,fun b o e n t l=>?_,I.base.free,fun b o e l=>?_,I.base.tups,I.base.frzs,I.base.tbls⟩,⟨a5,G.sameBut f (bI (cne x c hc)),fun j y P g m D=>?_⟩,fun y B e=>?_,I.free,I.freeC,fun p hp=>?_,a0 ⟨Z,Y,I.freeC x c hc⟩ f,by simpa using I.len⟩ ⟨c,f,.inr hc⟩;·exact(f.2 b (aP (aU (aA e) (I.ok.cab x c F hc)))).trans (I.base.keep b o e n t l)
  ·obtain⟨N,g⟩:=I.base.slot b o e n t l;exact⟨N,(f.2 b (aP (aU (aA e) (I.ok.cab x c F hc)))).trans g⟩
  ·obtain⟨K,g⟩:=I.base.there b o e l;exact⟨K,(f.2 b (aP (aU (aA e) (I.ok.cab x c F hc)))).trans g⟩
  ·by_cases hj:j=i;·subst hj;rw[hi]at g;cases g;rw[Hs U]at m;cases m;exact⟨u,r,.inr ⟨.inl hk,c,hc,S⟩⟩
   ·rw[rG (bI hj)]at m;obtain⟨O,L,q⟩:=W j y P g m D;refine⟨O,L,?_⟩;rcases q with q|⟨k,B,e,z'⟩;·exact .inl q
    ·refine .inr ⟨k,B,e,z'.sameBut f ?_⟩;rintro rfl;exact hj (w6 R g (I.ok.inj _ _ _ e hc▸hi))
  ·by_cases hcc:B=c;·subst hcc;exact⟨_,S⟩
   ·obtain⟨w2,z2⟩:=I.cell y B e;exact⟨w2,z2.sameBut f hcc⟩
  ·obtain⟨e,n,ne,J,d⟩:=I.pin p hp;refine⟨(f.2 p.1 ?_).trans e,n,ne,J,d⟩;intro q;rw[q,Y]at e;have q':Z=p.2:=bo e;exact d C (by rw[<-q'];exact a4)
def wu{M:Model}{v:V}{Q:Unit->Shared->Prop}(I:Inv X pins σ H s)(b:X.N.Nodup)(hi:X.N[i]? =some x)(c:Loc X.env.scope x)(r:RelV v u)
  (h:∀s',Inv X pins (σ.set i (some v)) H s'->Q () s')(hf:X.fn x=true\/X.env.scope.names.lookup x=some .local:=by first |exact .inl rfl|exact .inr rfl|assumption):wpAny M A (storeName X.env x u) Q E s:=
 HF I b hi c r (fun s' a _=>h s' a) hf
def Inv.call'(I:Inv X pins σ H s)(f:s'.os=s.os)(u:Un (frs X.stack) ch H H' s.heap s'.heap)(g:HOk X.prog X.w H' s'.heap)(d:pW s'.gens)
  (a:∀b∈ch,(b∈X.ex\/X.s₀.heap.objs.size<=b)/\b≠X.env.locals/\(∀x c,X.env.cells.lookup x=some c->c≠b)/\∀p∈X.pn++pins,p.1≠b):Inv X pins σ H' s':=by
 obtain⟨i,g',d',t',h⟩:=s';have e:h=s.os:=f;subst e;exact I.call (g':=g') (t':=t') (d':=d') u g d a
end
noncomputable abbrev XK:=Value->Option Addr->Hp->Prop
noncomputable abbrev St:=List (Option V)
noncomputable abbrev VK:=V->Hp->Prop
noncomputable abbrev TE:=St->Hp->VK->Prop
noncomputable abbrev TT:=St->Hp->(Bool->Hp->Prop)->Prop
noncomputable abbrev TA:=St->Hp->(List V->Hp->Prop)->Prop
structure Ends where
 nx:St->Hp->Prop
 rt:VK
 bk:St->Hp->Prop:=fun _ _=>False
 ct:St->Hp->Prop:=fun _ _=>False
noncomputable abbrev TS:=Ends->St->Hp->Prop
def EP(X:Cx)(pins:List (Addr×Obj))(σ:St)(Q:VK)(u:Value)(s':Shared):Prop:=∃v H',Inv X pins σ H' s'/\RelV v u/\Q v H'
def TP(X:Cx)(pins:List (Addr×Obj))(σ:St)(Q:Bool->Hp->Prop)(b:Bool)(s':Shared):Prop:=∃H',Inv X pins σ H' s'/\Q b H'
def AP(X:Cx)(pins:List (Addr×Obj))(σ:St)(Q:List V->Hp->Prop)(us:List Value)(s':Shared):Prop:=∃vs H',Inv X pins σ H' s'/\bM vs us/\Q vs H'
def SP(X:Cx)(pins:List (Addr×Obj))(D:Ends)(f:Flow)(s':Shared):Prop:=
 match f with
 |.next=>∃a H',Inv X pins a H' s'/\D.nx a H'
 |.brk=>∃a H',Inv X pins a H' s'/\D.bk a H'
 |.cont=>∃a H',Inv X pins a H' s'/\D.ct a H'
 |.ret u=>∃v a H',Inv X pins a H' s'/\RelV v u/\D.rt v H'
def PE(X:Cx)(e:Expr)(t:TE):Prop:=
 ∀(pins:List (Addr×Obj))(s:Shared)(σ:St)(H:Hp)(Q:VK),Inv X pins σ H s->t σ H Q->wpAny (model X.prog X.w) X.A (eval e X.env) (EP X pins σ Q) X.xe s
def PT(X:Cx)(e:Expr)(t:TT):Prop:=
 ∀(pins:List (Addr×Obj))(s:Shared)(σ:St)(H:Hp)(Q:Bool->Hp->Prop),Inv X pins σ H s->t σ H Q->wpAny (model X.prog X.w) X.A (isTrue e X.env (eval e X.env)) (TP X pins σ Q) X.xe s
def PW(X:Cx)(e:Expr)(t:TT):Prop:=
 ∀(a:Sem Value)(pins:List (Addr×Obj))(s:Shared)(σ:St)(H:Hp)(Q:Bool->Hp->Prop),Inv X pins σ H s->t σ H Q->wpAny (model X.prog X.w) X.A (isTrue e X.env a) (TP X pins σ Q) X.xe s
def PW.pt{X:Cx}{t:TT}(h:PW X e t):PT X e t:=h _
def PA(X:Cx)(es:List Expr)(t:TA):Prop:=
 ∀(pos:Pos)(pins:List (Addr×Obj))(s:Shared)(σ:St)(H:Hp)(Q:List V->Hp->Prop),Inv X pins σ H s->t σ H Q->wpAny (model X.prog X.w) X.A (spliced (backTo pos (bB es X.env))) (AP X pins σ Q) X.xe s
def PS(X:Cx)(st:Stmt)(t:TS):Prop:=
 ∀(pins:List (Addr×Obj))(s:Shared)(σ:St)(H:Hp)(D:Ends),Inv X pins σ H s->t D σ H->wpAny (model X.prog X.w) X.A (exec st X.env) (SP X pins D) X.xe s
def PSs(X:Cx)(st:List Stmt)(t:TS):Prop:=
 ∀(pins:List (Addr×Obj))(s:Shared)(σ:St)(H:Hp)(D:Ends),Inv X pins σ H s->t D σ H->wpAny (model X.prog X.w) X.A (execs st X.env) (SP X pins D) X.xe s
def thn{c:Type}{t:Sem c}{Q b:c->Shared->Prop}{M:Model}(h:wpAny M A t Q E s)(d:∀a s,Q a s->b a s):wpAny M A t b E s:=cZ h d fun _ _ x=>x
section
variable {X:Cx}
def rM(i:Nat):TE:=fun σ H Q=>∃v,σ[i]? =some (some v)/\Q v H
def tC(v:V):TE:=fun _ H Q=>Q v H
def K1(g:X.N[i]? =some x)(p:Vis X.env.scope x)(b:(x==("__debug__":Str))=false:=by decide) (j:(x==("__classdict__":Str))=false:=by decide):PE X (.Name x pos) (rM i):=by
 intro q s t H Q I h;obtain⟨v,e,h⟩:=h;obtain⟨m,o,k⟩:=I.loc;obtain⟨u,r,l⟩:=k i x v g e p;have a:EP X q t Q u s:=⟨v,H,I,r,h⟩;rcases l with⟨hk,n⟩ |⟨hk,c,d,f⟩;·exact Jn (wpAny_loadName_local I.ok.kind hk o n a) b
 ·rcases hk with hk|hk;·exact Jn (wpAny_loadName_cell I.ok.kind hk d f a) b
  ·exact Jn (wpAny_loadName_free I.ok.kind hk d f a j) b
def pe_int{i j pos}:PE X (.Constant (.int i) j pos) (tC (.int i)):=fun _ _ _ H _ I h=>wpAny_Constant_int ⟨.int i,H,I.tok _,⟨_,rfl⟩,h⟩
def pe_bl{b j pos}:PE X (.Constant (.bool b) j pos) (tC (.bl b)):=fun _ _ _ H _ I h=>Constant_bool ⟨.bl b,H,I,rfl,h⟩
def pe_non{j pos}:PE X (.Constant .none j pos) (tC .non):=fun _ _ _ H _ I h=>Constant_none ⟨.non,H,I,rfl,h⟩
def pe_str{x j pos}:PE X (.Constant (.str x) j pos) (tC (.str x)):=fun _ _ _ H _ I h=>Calls.Constant_str ⟨.str x,H,I.tok _,⟨_,rfl⟩,h⟩
def Gl(X:Cx)(x:Str):Prop:=X.env.kindOf x=some .globalImplicit
def pH{σ:St}{H:Hp}{Q:Value->Shared->Prop}(I:Inv X pins σ H s)(b:Gl X x)(c:X.mg x=some u)(h:Q u s)
  (a:(x==("__debug__":Str))=false:=by decide):wpAny (model X.prog X.w) X.A (eval (.Name x pos) X.env) Q E s:=
 BS I.ok.kind b (Calls.loadGlobal_global (by rw[I.ok.glob];exact I.mod.glob.keeps I.bk) c h) a
def lC{σ:St}{H:Hp}{Q:Value->Shared->Prop}(I:Inv X pins σ H s)(d:Gl X x)(e:X.mg x=none)(g:fP x=some u)(h:Q u s)
  (f:x≠"__name__":=by decide) (c:(x==("__debug__":Str))=false:=by decide):wpAny (model X.prog X.w) X.A (eval (.Name x pos) X.env) Q E s:=by
 obtain⟨i,a,b⟩:=I.mod.blt;exact BS I.ok.kind d (Calls.loadGlobal_builtin (by rw[I.ok.glob];exact I.mod.glob.keeps I.bk) e (by rw[I.ok.blt];exact a.keeps I.bk) ((b x f).trans g) h) c
def pe_glob{v:V}(b:Gl X x)(c:X.mg x=some u)(r:RelV v u)(a:(x==("__debug__":Str))=false:=by decide):PE X (.Name x pos) (tC v):=
 fun _ _ _ H _ I h=>pH I b c ⟨v,H,I,r,h⟩ a
def pe_bltn{v:V}(b:Gl X x)(c:X.mg x=none)(e:fP x=some u)(r:RelV v u)(d:x≠"__name__":=by decide) (a:(x==("__debug__":Str))=false:=by decide):PE X (.Name x pos) (tC v):=
 fun _ _ _ H _ I h=>lC I b c e ⟨v,H,I,r,h⟩ d a
variable {a b:Expr}{ta tb:TE}
variable {tA tB':TT}{rest:List Expr}
def tAnd(t u:TT):TT:=fun σ H Q=>t σ H fun c H1=>if c=true then u σ H1 Q else Q false H1
def tOr(t u:TT):TT:=fun σ H Q=>t σ H fun c H1=>if c=true then Q true H1 else u σ H1 Q
def tNot(t:TT):TT:=fun σ H Q=>t σ H fun c H1=>Q (!c) H1
def pw_and1(b:PT X a tA):PW X (.BoolOp .And [a] pos) tA:=by
 intro i d s f H Q I h;refine isTrue_and (thn (b d s f H Q I h) fun c g e=>?_);cases c with
 |true=>exact isTrue_and_nil e
 |false=>exact e
def pw_or1(b:PT X a tA):PW X (.BoolOp .Or [a] pos) tA:=by
 intro i d s f H Q I h;refine isTrue_or (thn (b d s f H Q I h) fun c g e=>?_);cases c with
 |false=>exact isTrue_or_nil e
 |true=>exact e
def KO(j:PT X a tA)(k:PW X (.BoolOp .And (b::rest) pos) tB'):PW X (.BoolOp .And (a::b::rest) pos) (tAnd tA tB'):=by
 intro m f s i H Q I h;refine isTrue_and (thn (j f s i H _ I h) fun c l ⟨d,e,g⟩=>?_);cases c with
 |true=>exact k m f l i d Q e g
 |false=>exact⟨d,e,g⟩
def pw_or(j:PT X a tA)(k:PW X (.BoolOp .Or (b::rest) pos) tB'):PW X (.BoolOp .Or (a::b::rest) pos) (tOr tA tB'):=by
 intro m f s i H Q I h;refine isTrue_or (thn (j f s i H _ I h) fun c l ⟨d,e,g⟩=>?_);cases c with
 |true=>exact⟨d,e,g⟩
 |false=>exact k m f l i d Q e g
def pt_not(d:PT X a tA):PT X (.UnaryOp .Not a pos) (tNot tA):=by intro e s f H Q I h;exact isTrue_not (d e s f H (fun c b=>Q (!c) b) I h)
def J6(ta tb:TE):TE:=fun σ H Q=>ta σ H fun x H1=>∃c,x=.bl c/\if c=true then tb σ H1 Q else Q (.bl false) H1
def tOrV(ta tb:TE):TE:=fun σ H Q=>ta σ H fun x H1=>∃c,x=.bl c/\if c=true then Q (.bl true) H1 else tb σ H1 Q
def J1(ta:TE):TE:=fun σ H Q=>ta σ H fun x H1=>∃c,x=.bl c/\Q (.bl (!c)) H1
def K4{op}{t:TE}(h:PE X a t):PE X (.BoolOp op [a] pos) t:=fun c s d H Q I b=>BoolOp_one (h c s d H Q I b)
def Lb(j:PE X a ta)(k:PE X (.BoolOp .And (b::rest) pos) tb):PE X (.BoolOp .And (a::b::rest) pos) (J6 ta tb):=by
 intro g s i H Q I h;refine BoolOp_and (thn (j g s i H _ I h) fun v m ⟨x,e,f,l,d⟩=>?_);obtain⟨c,rfl,d⟩:=d;cases l;refine dm ?_;cases c with
 |true=>exact k g m i e Q f d
 |false=>exact⟨.bl false,e,f,rfl,d⟩
def pe_or(j:PE X a ta)(k:PE X (.BoolOp .Or (b::rest) pos) tb):PE X (.BoolOp .Or (a::b::rest) pos) (tOrV ta tb):=by
 intro g s i H Q I h;refine BoolOp_or (thn (j g s i H _ I h) fun v m ⟨x,e,f,l,d⟩=>?_);obtain⟨c,rfl,d⟩:=d;cases l;refine dm ?_;cases c with
 |false=>exact k g m i e Q f d
 |true=>exact⟨.bl true,e,f,rfl,d⟩
def pe_not(f:PE X a ta):PE X (.UnaryOp .Not a pos) (J1 ta):=by intro g s j H Q I h;refine UnaryOp_ (thn (f g s j H _ I h) fun v k ⟨x,d,e,i,b⟩=>?_);obtain⟨c,rfl,b⟩:=b;cases i;exact not_of (dm ⟨.bl (!c),d,e,rfl,b⟩)
def tIf(t:TT)(ta tb:TE):TE:=fun σ H Q=>t σ H fun c H1=>if c=true then ta σ H1 Q else tb σ H1 Q
def K6{c:Expr}(n:PT X c tA)(l:PE X a ta)(m:PE X b tb):PE X (.IfExp c a b pos) (tIf tA ta tb):=by
 intro e s f H Q I h;refine wpAny_IfExp (thn (n e s f H _ I h) fun d k ⟨g,i,j⟩=>?_);cases d with
 |true=>exact l e k f g Q i j
 |false=>exact m e k f g Q i j
end
def SqL(K:ah)(H:Hp)(a:Addr)(xs:List V):Prop:=
 Rd H a (.lst xs)\/
  ∃(o:Obj)(ad:Array Value)(n:Nat),K.lookup a=some o/\o.cls=.type "list"/\o.dict=none/\o.data=.seq ad n/\ad.size<=sizeLine/\bM xs ad.toList
def SqT(K:ah)(H:Hp)(a:Addr)(xs:List V):Prop:=
 Rd H a (.tup xs)\/
  ∃(o:Obj)(ad:Array Value)(n:Nat),K.lookup a=some o/\o.cls=.type "tuple"/\o.data=.seq ad n/\ad.size<=sizeLine/\bM xs ad.toList
abbrev absV:Value->Option V
 |.none=>some .non
 |.bool b=>some (.bl b)
 |.int i _=>some (.int i)
 |.str x _=>some (.str x)
 |.bytes b _=>some (.byt b)
 |.float b _=>some (.flt b)
 |.ref a=>some (.ref a)
 |.type n=>some (.ty n)
 |_=>none
def RelV.abs{x:V}(r:RelV x u):absV u=some x:=by
 cases x with
 |non=>cases r;rfl
 |bl _=>cases r;rfl
 |int _=>obtain⟨t,rfl⟩:=r;rfl
 |str _=>obtain⟨t,rfl⟩:=r;rfl
 |byt _=>obtain⟨t,rfl⟩:=r;rfl
 |flt _=>obtain⟨t,rfl⟩:=r;rfl
 |ref _=>cases r;rfl
 |ty _=>cases r;rfl
def RelV.inj{x y:V}(r:RelV x u)(q:RelV y u):x=y:=bo (r.abs.symm.trans q.abs)
theorem bM.inj{xs ys:List V}(h:bM xs us):bM ys us->xs=ys:=by
 induction h generalizing ys with
 |nil=>intro k;cases k;rfl
 |cons r k ih=>
  intro w;cases w with
  |cons r' w'=>rw[r.inj r',ih w']
section
variable {X:Cx}{pins:List (Addr×Obj)}{σ:St}{H:Hp}{s:Shared}{a:Addr}{xs ys:List V}
def SqL.of(h:H a=some (.lst xs)):SqL K H a xs:=.inl (.inl h)
def SqT.of(h:H a=some (.tup xs)):SqT K H a xs:=.inl (.inl h)
def Inv.list(I:Inv X pins σ H s)(h:SqL X.K H a xs):∃ad:List Value,bM xs ad/\PlainL s.heap a ad.toArray/\xs.length<=sizeLine:=by
 rcases h with h|⟨o,ad,n,d,b,c,f,g,r⟩;·obtain⟨z,ad,n,r,e⟩:=h.ok I.hok;exact⟨ad,r,⟨_,n,e,rfl,rfl,rfl⟩,z⟩
 ·refine⟨ad.toList,r,⟨o,n,I.kIn a o d,b,c,by simpa using f⟩,?_⟩;have e:=r.length;simp only[cD]at e;lia
def Inv.tuple(I:Inv X pins σ H s)(h:SqT X.K H a xs):∃ad:List Value,bM xs ad/\IsTup s.heap a ad.toArray/\xs.length<=sizeLine:=by
 rcases h with h|⟨o,ad,n,c,b,d,f,r⟩;·obtain⟨z,ad,r,p⟩:=h.ok I.hok;exact⟨ad,r,p,z⟩
 ·refine⟨ad.toList,r,⟨o,I.kIn a o c,b,n,by simpa using d⟩,?_⟩;have e:=r.length;simp only[cD]at e;lia
def Inv.xv(I:Inv X pins σ H s)(h:SqL X.K H a xs)(h':SqL X.K H a ys):xs=ys:=by
 obtain⟨f,r,⟨o,n,e,_,_,d⟩,_⟩:=I.list h;obtain⟨g,i,⟨k,j,c,_,_,b⟩,_⟩:=I.list h';rw[e]at c;cases c;rw[d]at b;injection b with d1 _
 have :f=g:=by simpa using congrArg Array.toList d1
 subst this;exact r.inj i
def Inv.tL(I:Inv X pins σ H s)(h:SqT X.K H a xs)(h':SqT X.K H a ys):xs=ys:=by
 obtain⟨f,r,⟨o,e,_,n,d⟩,_⟩:=I.tuple h;obtain⟨g,i,⟨k,c,_,j,b⟩,_⟩:=I.tuple h';rw[e]at c;cases c;rw[d]at b;injection b with d1 _
 have :f=g:=by simpa using congrArg Array.toList d1
 subst this;exact r.inj i
end
section
variable {X:Cx}{st:Stmt}{rest:List Stmt}{t u:TS}{te:TE}
def B5:TS:=fun D σ H=>D.nx σ H
def yx(t u:TS):TS:=fun D σ H=>t {D with nx:=u D} σ H
def AF:PSs X [] B5:=fun _ _ a H _ I h=>FE ⟨a,H,I,h⟩
def rT(d:PS X st t)(e:PSs X rest u):PSs X (st::rest) (yx t u):=by
 intro a s i H D I h;refine wpAny_execs_cons (thn (d a s i H {D with nx:=u D} I h) fun f g q=>?_);cases f with
 |next =>obtain⟨j,b,c,q⟩:=q;exact e a g j b D c q
 |ret v=>exact q
 |brk=>exact q
 |cont=>exact q
def J4:TS:=fun D σ H=>D.bk σ H
def tCont:TS:=fun D σ H=>D.ct σ H
def ps_pass:PS X (.Pass pos) B5:=fun _ _ a H _ I h=>wpAny_Pass ⟨a,H,I,h⟩
def KY:PS X (.Break pos) J4:=fun _ _ a H _ I h=>wpAny_Break ⟨a,H,I,h⟩
def Cg:PS X (.Continue pos) tCont:=fun _ _ a H _ I h=>wpAny_Continue ⟨a,H,I,h⟩
def Inv.quiet{σ:St}{H:Hp}(I:Inv X pins σ H s):interactive X.env=false:=by simp[interactive,I.ok.kind]
def J2(te:TE):TS:=fun D σ H=>te σ H fun _ H1=>D.nx σ H1
def ps_expr(d:PE X e te)(f:rB e none pos.line X.env=pure false:=by rfl):PS X (.Expr e pos) (J2 te):=by intro g s a H D I h;exact wpAny_Expr_any (thn (d g s a H _ I h) fun v k ⟨x,b,c,j,i⟩=>⟨a,b,c,i⟩) I.quiet f
def tRet(te:TE):TS:=fun D σ H=>te σ H D.rt
def ps_ret(d:PE X e te):PS X (.Return (some e) pos) (tRet te):=by intro f s a H D I h;exact wpAny_Return_some (thn (d f s a H _ I h) fun v j ⟨x,b,c,i,g⟩=>⟨x,a,b,c,i,g⟩)
def JZ:TS:=fun D _ H=>D.rt .non H
def ps_retN:PS X (.Return none pos) JZ:=fun _ _ a H _ I h=>wpAny_Return_none ⟨.non,a,H,I,rfl,h⟩
def tIfS(c:TT)(t u:TS):TS:=fun D σ H=>c σ H fun b H1=>if b=true then t D σ H1 else u D σ H1
def ps_if{c:Expr}{a b:List Stmt}{l:TT}(o:PT X c l)(m:PSs X a t)(n:PSs X b u):PS X (.If c a b pos) (tIfS l t u):=by
 intro e s f H D I h;refine wpAny_If (thn (o e s f H _ I h) fun d k ⟨g,i,j⟩=>?_);cases d with
 |true=>exact m e k f g D i j
 |false=>exact n e k f g D i j
end
noncomputable abbrev TG:=V->St->Hp->(St->Hp->Prop)->Prop
noncomputable abbrev TGs:=List V->St->Hp->(St->Hp->Prop)->Prop
def PG(X:Cx)(b:Expr)(t:TG):Prop:=
 ∀(pins:List (Addr×Obj))(s:Shared)(σ:St)(H:Hp)(v:V)(u:Value)(Q:St->Hp->Prop),Inv X pins σ H s->RelV v u->t v σ H Q->
  wpAny (model X.prog X.w) X.A (assign b X.env u) (fun _ s'=>∃a H',Inv X pins a H' s'/\Q a H') X.xe s
def PGs(X:Cx)(ts:List Expr)(t:TGs):Prop:=
 ∀(pins:List (Addr×Obj))(s:Shared)(σ:St)(H:Hp)(vs:List V)(us:List Value)(Q:St->Hp->Prop),Inv X pins σ H s->bM vs us->t vs σ H Q->
  wpAny (model X.prog X.w) X.A (assignInOrder ((iP ts X.env).map (·.2)) us) (fun _ s'=>∃a H',Inv X pins a H' s'/\Q a H') X.xe s
section
variable {X:Cx}
def nC(i:Nat):TG:=fun v σ H Q=>Q (σ.set i (some v)) H
def AH(b:X.N.Nodup)(hi:X.N[i]? =some x)(c:Loc X.env.scope x)(hf:X.fn x=true\/X.env.scope.names.lookup x=some .local:=by first |exact .inl rfl|exact .inr rfl|assumption):PG X (.Name x pos) (nC i):=by intro d s f H v u Q I r h;exact wpAny_assign_Name (wu I b hi c r (fun e a=>⟨_,H,a,h⟩) hf)
def gNil:TGs:=fun vs σ H Q=>vs=[]/\Q σ H
def Mh(t:TG)(u:TGs):TGs:=fun vs σ H Q=>∃v r,vs=v::r/\t v σ H fun a H'=>u r a H' Q
def pgs_nil:PGs X [] gNil:=by intro b s a H d c Q I r h;obtain⟨e,h⟩:=h;subst e;cases r;exact assignInOrder_nil ⟨a,H,I,h⟩
def K0{a:List Expr}{t:TG}{u:TGs}(g:PG X e t)(i:PGs X a u)
  (j:(iP (e::a) X.env).map (·.2)=assign e X.env::(iP a X.env).map (·.2):=by rfl):PGs X (e::a) (Mh t u):=by
 intro b s m H q o Q I r h;obtain⟨v,p,f,h⟩:=h;subst f;cases r with
 |cons r rr=>rw[j];refine assignInOrder_cons (thn (g b s m H _ _ _ I r h) fun _ l ⟨n,c,d,k⟩=>?_);exact i b l n c _ _ Q d rr k
def gTup(K:ah)(n:Nat)(t:TGs):TG:=fun v σ H Q=>∃a xs,v=.ref a/\SqT K H a xs/\xs.length=n/\t xs σ H Q
def pg_tup{c:List Expr}{t:TGs}(p:X.calm=true)(h:PGs X c t)
  (w:(iP c X.env).length=n:=by rfl) (x:(iP c X.env).findIdx? (·.1)=none:=by rfl):PG X (.Tuple c k pos) (gTup X.K n t):=by
 intro f s i H v u Q I r d;obtain⟨a,A,l,hq,q,d⟩:=d;subst l;cases r;obtain⟨C,g,y,B⟩:=I.tuple hq;refine assign_Tuple_tuple (I.ok.hd p) y (by simp[w,<-q,g.length]) x fun m z=>?_;have j:Inv X f i H {s with heap:=m}:=I.kept (t':=s.toks) fun b o e=>z b o (aP (aA e)) e;exact h f _ i H A _ Q j (by simpa using g) d
def Af(te:TE)(g:TG):TS:=fun D σ H=>te σ H fun x H1=>g x σ H1 D.nx
def ED{b:TE}{g:TG}(j:PE X e b)(k:PG X tg g)(l:MY [tg] e pos.line X.env=pure false:=by rfl) (m:swappedStores [tg] e X.env=pure none:=by rfl)
  (i:(iP [tg] X.env).map (·.2)=[assign tg X.env]:=by rfl):PS X (.Assign [tg] e pos) (Af b g):=by
 intro a s c H D I h;refine wpAny_Assign_stores (thn (j a s c H _ I h) fun v p ⟨x,d,f,o,n⟩=>?_) l m;rw[i];exact thn (k a p c d x v _ f o n) fun _ r q=>q
def ps_set{a:TE}(f:X.N.Nodup)(hi:X.N[i]? =some x)(k:Loc X.env.scope x)(g:PE X e a)(j:rB e (some (.Name x pos')) pos.line X.env=pure false:=by rfl) (hf:X.fn x=true\/X.env.scope.names.lookup x=some .local:=by first |exact .inl rfl|exact .inr rfl|assumption):
  PS X (.Assign [.Name x pos'] e pos) (Af a (nC i)):=by
 intro l s o H D I h;refine wpAny_Assign_Name (thn (g l s o H _ I h) fun v p ⟨y,b,c,n,m⟩=>?_) j;exact wu c f hi k n (fun q d=>⟨_,b,d,m⟩) hf
end
section
variable {X:Cx}
def JY(c:TT)(tb:TS):TS:=fun D σ H=>∃W:Nat->St->Hp->Prop,(∃m,W m σ H)/\∀m σ H,W m σ H->
 c σ H fun b H1=>if b=true then ∃N:St->Hp->Prop,(∀d H',N d H'->∃a,a<m/\W a d H')/\tb {D with nx:=N,ct:=N,bk:=D.nx} σ H1 else D.nx σ H1
def KW{c:Expr}{w:List Stmt}{y:TT}{tb:TS}(hp:PassesOwn (model X.prog X.w) X.A X.env X.xe)(C:PT X c y)(B:PSs X w tb):PS X (.While c w [] pos) (JY y tb):=by
 intro o s M H D I h;obtain⟨W,⟨E,K⟩,turn⟩:=h;refine wpAny_While (codeAny_whileLoop (fun n F=>∃z q,Inv X o z q F/\W n z q) ?_ E ⟨M,H,I,K⟩);rintro n G ⟨i,r,A,L⟩;refine hO hp (thn (C o G i r _ A (turn n i r L)) fun b J ⟨t,u,e⟩=>?_);cases b with
 |true=>
  obtain⟨N,x,e⟩:=e;rw[if_pos rfl];refine hO hp (thn (B o J i t _ u e) fun f O g=>?_);cases f with
  |next =>obtain⟨d,a,j,m⟩:=g;obtain⟨l,k,p⟩:=x d a m;exact⟨l,k,d,a,j,p⟩
  |cont=>obtain⟨d,a,j,m⟩:=g;obtain⟨l,k,p⟩:=x d a m;exact⟨l,k,d,a,j,p⟩
  |brk=>exact g
  |ret v=>exact g
 |false=>rw[if_neg ak];exact FE ⟨i,t,u,e⟩
end
structure It where
 go:Nat->Hp->Prop
 yld:Nat->Hp->V->Hp->Prop
 stop:Nat->Hp->Prop
def pq(X:Cx)(pins:List (Addr×Obj))(H:Hp)(b:Addr):Prop:=
 H b=none/\b≠X.env.locals/\b∉X.fs/\(b∈X.ex\/X.s₀.heap.objs.size<=b)/\(∀x c,X.env.cells.lookup x=some c->c≠b)/\∀p∈X.pn++pins,p.1≠b
def Inv.Bb{X:Cx}{σ:St}{H H':Hp}(I:Inv X pins σ H s)(a:s.heap.objs.size<=b)(d:H' b=none):pq X pins H' b:=by
 refine⟨d,eN (aU I.lt a),I.nofs a,.inr (aL I.sz a),fun x c e z=>?_,fun p hp z=>?_⟩;·obtain⟨v,q⟩:=I.cell x c e;exact absurd (aU q.lt (by rw[z];exact a)) (dJ _)
 ·exact absurd (aU (aA (I.pin p hp).1) (by rw[z];exact a)) (dJ _)
structure Turn(P:Program)(w:World)(K:ah)(tg:Expr)(J:It)(fp:List Addr)(it:Addr)(tn:Nat->Heap->Prop):Prop where
 mem:it∈fp
 obj:∀i h,tn i h->∀b∈fp,∃o,h.get? b=some o/\∀v,o.data≠.cell v
 keep:∀i h h',tn i h->(∀b∈fp,∀o,h.get? b=some o->h'.get? b=some o)->tn i h'
 item:∀(X:Cx),X.prog=P->X.w=w->X.K=K->X.calm=true->∀(i:Nat)(pins:List (Addr×Obj))(s:Shared)(σ:St)(H:Hp)(E:Value->Shared->Prop),Inv X pins σ H s->(∀b∈fp,pq X pins H b)->tn i s.heap->J.go i H->
  wpAny (model P w) X.A (pyNext (.ref it)) (fun r s1=>∃u,r=some u/\
   wpAny (model P w) X.A (tF tg (.ref it) u) (fun _ s2=>∃x H',Inv X pins σ H' s2/\RelV x u/\J.yld i H x H'/\tn (i+1) s2.heap/\∀b∈fp,H' b=none) E s1) E s
 done:∀(X:Cx),X.prog=P->X.w=w->X.K=K->X.calm=true->∀(i:Nat)(pins:List (Addr×Obj))(s:Shared)(σ:St)(H:Hp)(E:Value->Shared->Prop),Inv X pins σ H s->(∀b∈fp,pq X pins H b)->tn i s.heap->J.stop i H->
  wpAny (model P w) X.A (pyNext (.ref it)) (fun r s1=>r=none/\Inv X pins σ H s1) E s
 self:∀(A:Around)(i:Nat)(s:Shared)(Q:Value->Shared->Prop)(E:Value->Shared->Prop),tn i s.heap->Q (.ref it) s->wpAny (model P w) A (pyIter (.ref it)) Q E s
noncomputable abbrev TI:=St->Hp->(It->Hp->Prop)->Prop
def PIE(X:Cx)(pins:List (Addr×Obj))(σ:St)(tg:Expr)(R:It->Hp->Prop)(a:Value)(s2:Shared):Prop:=
 ∃(it:Addr)(fp:List Addr)(tn:Nat->Heap->Prop)(J:It)(H':Hp),a=.ref it/\Inv X pins σ H' s2/\Turn X.prog X.w X.K tg J fp it tn/\tn 0 s2.heap/\(∀b∈fp,pq X pins H' b)/\R J H'
def PI(X:Cx)(tg iter:Expr)(wi:TI):Prop:=
 ∀(pins:List (Addr×Obj))(s:Shared)(σ:St)(H:Hp)(R:It->Hp->Prop),Inv X pins σ H s->wi σ H R->
  wpAny (model X.prog X.w) X.A (eval iter X.env) (fun v a=>wpAny (model X.prog X.w) X.A (pyIter v) (PIE X pins σ tg R) X.xe a) X.xe s
def GO{M:Model}{o:Obj}{n:String}{vs:Array Value}{Q:Unit->Shared->Prop}(e:s.heap.get? it=some o)(b:o.cls=.type n)(c:o.data=.fields vs)
  (d:["enumerate","zip","dict_itemiterator","dict_reverseitemiterator","odict_iterator","itertools.zip_longest","itertools.pairwise"].contains n=false)(a:Q () s):wpAny M A (tF tg (.ref it) u) Q E s:=by
 unfold tF;cases tg<;>first
  |exact aj a
  | (cases u<;>first
    |exact aj a
    | (refine af (wpAny_load e ?_)
       rw[b,c];show wpAny M A (if(["enumerate","zip","dict_itemiterator","dict_reverseitemiterator","odict_iterator","itertools.zip_longest","itertools.pairwise"].contains n&&vs[0]? ==some (rawInt _))=true then _ else _) Q E s;rw[if_neg (by intro h;rw[d,dk]at h;cases h)];exact aj a))
abbrev Itl(K:ah)(a:Addr):It:=
 ⟨fun i H=>∃xs x,SqL K H a xs/\xs[i]? =some x,fun i H x H'=>H'=H/\∀xs,SqL K H a xs->xs[i]? =some x,fun i H=>∃xs,SqL K H a xs/\xs.length<=i⟩
abbrev Itt(K:ah)(a:Addr):It:=
 ⟨fun i H=>∃xs x,SqT K H a xs/\xs[i]? =some x,fun i H x H'=>H'=H/\∀xs,SqT K H a xs->xs[i]? =some x,fun i H=>∃xs,SqT K H a xs/\xs.length<=i⟩
abbrev Itr(lo:Int)(n:Nat):It:=⟨fun i _=>i<n,fun i H x H'=>H'=H/\x=.int (lo+i),fun i _=>n<=i⟩
def yS(a j:Addr):Turn P w K tg (Itl K a) [j] j (fun i h=>h.IsListIter j a i) where
 mem:=by simp
 obj:=fun i h f b g=>by
  have e:b=j:=by simpa using g
  subst e;obtain⟨o,e,c,d⟩:=f;exact⟨o,e,fun v z=>by rw[d]at z;cases z⟩
 keep:=fun i h l f k=>f.at fun o e=>k j (by simp) o e
 item:=by intro X A C y G i J s M H E I hf f B;subst A C y;obtain⟨Y,x,hq,D⟩:=B;obtain⟨U,F,p,T⟩:=I.list hq;obtain⟨u,R,V⟩:=F.get D;obtain⟨m,n,Q,q,r,t⟩:=hf j (by simp);refine wpAny_pyNext_list_item f p.isList (x:=u) (by simpa using R) fun l L W=>?_;have N:Inv X J M H {s with heap:=l}:=I.turned (t':=s.toks) (fun b o g e=>(W.2 b g).trans e) m n q r t;obtain⟨o,e,c,d⟩:=id L;exact⟨u,rfl,GO (s:={s with heap:=l}) e c d (by decide) ⟨x,H,N,V,⟨rfl,fun ys S=>by rw[I.xv S hq];exact D⟩,L,fun b g=>(hf b g).1⟩⟩
 done:=by intro X A C y G i J s M H E I hf f B;subst A C y;obtain⟨Y,hq,D⟩:=B;obtain⟨U,F,p,T⟩:=I.list hq;obtain⟨m,n,Q,q,r,t⟩:=hf j (by simp);have Z:=F.length;exact wpAny_pyNext_list_end (I.ok.hd G) f p.isList (by simp;lia) fun l O=>⟨rfl,I.turned (t':=s.toks) (fun b o g e=>O b o g e) m n q r t⟩
 self:=fun _ _ _ _ _ f h=>wpAny_pyIter_listiter f h
def Ei(a j:Addr):Turn P w K tg (Itt K a) [j] j (fun i h=>h.IsTupleIter j a i) where
 mem:=by simp
 obj:=fun i h f b g=>by
  have e:b=j:=by simpa using g
  subst e;obtain⟨o,e,c,d⟩:=f;exact⟨o,e,fun v z=>by rw[d]at z;cases z⟩
 keep:=fun i h l f k=>f.at fun o e=>k j (by simp) o e
 item:=by intro X A C y J i L s N H E I hf f B;subst A C y;obtain⟨Y,x,hq,D⟩:=B;obtain⟨F,G,p,U⟩:=I.tuple hq;obtain⟨u,S,V⟩:=G.get D;obtain⟨m,n,R,q,r,t⟩:=hf j (by simp);refine wpAny_pyNext_tuple_item f (show s.heap.IsTuple a F.toArray from p) (x:=u) (by simpa using S) fun l M W=>?_;have O:Inv X L N H {s with heap:=l}:=I.turned (t':=s.toks) (fun b o g e=>(W.2 b g).trans e) m n q r t;obtain⟨o,e,c,d⟩:=id M;exact⟨u,rfl,GO (s:={s with heap:=l}) e c d (by decide) ⟨x,H,O,V,⟨rfl,fun ys T=>by rw[I.tL T hq];exact D⟩,M,fun b g=>(hf b g).1⟩⟩
 done:=by intro X A C y J i L s N H E I hf f B;subst A C y;obtain⟨Y,hq,D⟩:=B;obtain⟨F,G,p,U⟩:=I.tuple hq;obtain⟨m,n,R,q,r,t⟩:=hf j (by simp);have Z:=G.length;exact wpAny_pyNext_tuple_end (I.ok.hd J) f (show s.heap.IsTuple a F.toArray from p) (by simp;lia) fun l Q=>⟨rfl,I.turned (t':=s.toks) (fun b o g e=>Q b o g e) m n q r t⟩
 self:=fun _ _ _ _ _ f h=>wpAny_pyIter_tupleiter f h
def Ej(c:Addr)(lo:Int)(n:Nat):Turn P w K tg (Itr lo n) [c] c (fun i h=>IsRangeIter h c (lo+(i:Nat)*1) ((n:Int)-(i:Nat)) 1) where
 mem:=by simp
 obj:=fun i h a b d=>by
  have e:b=c:=by simpa using d
  subst e;exact⟨_,a,fun v z=>by have M:Data.fields _=Data.cell v:=z;cases M⟩
 keep:=fun i h f a k=>k c (by simp) _ a
 item:=by intro X r y q u i A s C H E I hf a x;subst r y q;obtain⟨g,j,G,l,m,p⟩:=hf c (by simp);have W:=Walks.range (prog:=X.prog) (w:=X.w) (I.ok.hd u) c lo 1 n;refine W.item i s _ _ x a fun v f tk J B L=>?_;obtain⟨t,rfl⟩:=J;have D:Inv X A C H {s with heap:=f,toks:=tk}:=I.turned (fun b o d e=>L b o (by simpa using d) e) g j l m p;refine⟨_,rfl,GO (s:={s with heap:=f,toks:=tk}) (n:="range_iterator") B rfl rfl (by decide) ⟨.int (lo+i),H,D,⟨t,?_⟩,⟨rfl,rfl⟩,B,fun b d=>(hf b d).1⟩⟩;rw[Int.mul_one]
 done:=by intro X r y q u i A s C H E I hf a x;subst r y q;obtain⟨g,j,G,l,m,p⟩:=hf c (by simp);exact wpAny_pyNext_range_end (I.ok.hd u) a (by have :n<=i:=x;lia) fun f F=>⟨rfl,I.turned (t':=s.toks) (fun b o d e=>F b o d e) g j l m p⟩
 self:=fun _ _ _ _ _ a h=>wpAny_pyIter_rangeiter a h
section
variable {X:Cx}
def Ma(K:ah)(tl:TE):TI:=fun σ H R=>tl σ H fun x H1=>∃a,x=.ref a/\(∃xs,SqL K H1 a xs)/\R (Itl K a) H1
def pi_list{l:Expr}{f:TE}(j:PE X l f):PI X tg l (Ma X.K f):=by
 intro k s r H R I h;refine thn (j k s r H _ I h) fun v d ⟨x,g,c,n,m⟩=>?_;obtain⟨a,e,⟨y,hq⟩,q⟩:=m;subst e;cases n;obtain⟨u,w,p,t⟩:=c.list hq;refine pM p.isList ?_;refine⟨d.heap.objs.size,[d.heap.objs.size],_,_,g,rfl,c.kept (t':=d.toks) fun b o e=>ag _ e,yS a _,⟨_,ay _ rfl,rfl,rfl⟩,fun b i=>?_,q⟩;have e:b=d.heap.objs.size:=by simpa using i
 subst e;exact c.Bb (aw _) (c.hok.fresh (aw _))
def Ce{σ:St}{H:Hp}{R:It->Hp->Prop}{lo hi:Int}{t u v:Tok}{tk:Nat}(I:Inv X pins σ H s)(f: -(2^62)<=lo)(g:lo<2^62)(h: -(2^62)<=hi)(i:hi<2^62)
  (q:R (Itr lo (hi-lo).toNat) H):wpAny (model X.prog X.w) X.A (pyIter (.ref s.heap.objs.size)) (PIE X pins σ tg R) E {s with heap:=s.heap.push {cls:=.type "range",data:=.fields #[.int lo t,.int hi u,.int 1 v]},toks:=tk}:=by
 refine wpAny_pyIter_range (IsRange.new ..) (small_one f g h i) ?_;have a:Inv X pins σ H {s with heap:=s.heap.push {cls:=.type "range",data:=.fields #[.int lo t,.int hi u,.int 1 v]},toks:=tk}:=I.kept fun b o e=>ag _ e;refine⟨(s.heap.push {cls:=.type "range",data:=.fields #[.int lo t,.int hi u,.int 1 v]}).objs.size,[(s.heap.push {cls:=.type "range",data:=.fields #[.int lo t,.int hi u,.int 1 v]}).objs.size],_,_,H,rfl,
  a.kept (t':=tk) fun b o e=>ag _ e,Ej _ lo (hi-lo).toNat,?_,fun b j=>?_,q⟩
 ·have c:lo+((0:Nat):Int)*1=lo:=by simp
  have d:(((hi-lo).toNat:Nat):Int)-((0:Nat):Int)=Builtin.Range.rangeSize lo hi 1:=by rw[rangeSize_one];split <;>lia
  show IsRangeIter _ _ (lo+((0:Nat):Int)*1) ((((hi-lo).toNat:Nat):Int)-((0:Nat):Int)) 1;rw[c,d];exact ay _ rfl
 ·have e:b=(s.heap.push {cls:=.type "range",data:=.fields #[.int lo t,.int hi u,.int 1 v]}).objs.size:=by simpa using j
  subst e;exact a.Bb (aw _) (a.hok.fresh (aw _))
def L9(ta:TA):TI:=fun σ H R=>ta σ H fun vs H1=>∃j:Int,vs=[.int j]∧-(2^62)<=j/\j<2^62/\R (Itr 0 j.toNat) H1
def L8(ta:TA):TI:=fun σ H R=>ta σ H fun vs H1=>∃i j:Int,vs=[.int i,.int j]/\(-(2^62)<=i/\i<2^62∧-(2^62)<=j/\j<2^62)/\R (Itr i (j-i).toNat) H1
def Ic{a:Expr}{c:TA}{p:Pos}(g:Gl X "range")(i:X.mg "range"=none)(f:PA X [a] c)(k:bB [a] X.env=[(false,eval a X.env)]:=by rfl):PI X tg (.Call (.Name "range" p) [a] [] pos) (L9 c):=by
 intro l s o H R I h;refine Call_ (lC I g i boot_range (di (thn (f pos l s o H _ I h) fun w v ⟨x,u,d,n,b⟩=>?_) k rfl));obtain⟨j,e,b,m,q⟩:=b;subst e;cases n with
 |cons r rr=>cases rr;obtain⟨t,rfl⟩:=r;exact call_range_1 (Ce d (by lia) (by lia) b m (by simpa using q))
def Ib{a b:Expr}{f:TA}{p:Pos}(l:Gl X "range")(m:X.mg "range"=none)(k:PA X [a,b] f)(n:bB [a,b] X.env=[(false,eval a X.env),(false,eval b X.env)]:=by rfl) (d:bB [b] X.env=[(false,eval b X.env)]:=by rfl):
  PI X tg (.Call (.Name "range" p) [a,b] [] pos) (L8 f):=by
 intro o s y H R I h;refine Call_ (lC I l m boot_range (di (thn (k pos o s y H _ I h) fun C A ⟨D,z,g,x,c⟩=>?_) (by rw[n,d]) (by rw[d];rfl)));obtain⟨i,j,e,⟨c,u,v,w⟩,q⟩:=c;subst e;cases x with
 |cons r rr=>
  cases rr with
  |cons r' rr=>cases rr;obtain⟨t,rfl⟩:=r;obtain⟨B,rfl⟩:=r';exact call_range_2 (Ce g c u v w q)
def tFor(wi:TI)(g:TG)(tb:TS):TS:=fun D σ H=>wi σ H fun J H1=>∃W:Nat->Nat->St->Hp->Prop,(∃m,W 0 m σ H1)/\∀i m σ H,W i m σ H->
 (J.stop i H/\D.nx σ H)\/(J.go i H/\∃N:St->Hp->Prop,(∀b H',N b H'->∃a,a<m/\W (i+1) a b H')/\∀x H',J.yld i H x H'->g x σ H' fun c H2=>tb {D with nx:=N,ct:=N,bk:=D.nx} c H2)
abbrev jD(fp:List Addr)(h:Heap):List (Addr×Obj):=fp.filterMap fun b=>(h.get? b).map fun o=>(b,o)
def jc{o:Obj}(a:b∈fp)(e:h.get? b=some o):(b,o)∈jD fp h:=List.mem_filterMap.mpr ⟨b,a,by rw[e];rfl⟩
def tS{p:Addr×Obj}(hp:p∈jD fp h):p.1∈fp/\h.get? p.1=some p.2:=by
 obtain⟨b,c,e⟩:=List.mem_filterMap.mp hp;cases q:h.get? b with
 |none=>rw[q]at e;cases e
 |some o=>rw[q]at e;have a:(b,o)=p:=bo e;subst a;exact⟨c,q⟩
def Inv.pinned{σ:St}{H:Hp}(I:Inv X pins σ H s)(hf:∀b∈fp,pq X pins H b)(i:∀b∈fp,∃o,s.heap.get? b=some o/\∀v,o.data≠.cell v):Inv X (pins++jD fp s.heap) σ H s:=
 I.AG fun p hp=>(cX.mp hp).elim (fun z=>I.pin p (a7 _ z)) fun z=>by obtain⟨c,e⟩:=tS z;obtain⟨f,g,h,_⟩:=hf p.1 c;obtain⟨o,a,d⟩:=i p.1 c;rw[e]at a;cases a;exact⟨e,f,g,h,d⟩
def Inv.iR{a:List (Addr×Obj)}{σ:St}{H:Hp}(I:Inv X (pins++a) σ H s):Inv X pins σ H s:=I.AG fun p hp=>I.pin p (a7 _ (bZ _ hp))
def ps_for{C:List Stmt}{O:TI}{g:TG}{tb:TS}(hp:PassesOwn (model X.prog X.w) X.A X.env X.xe)(G:X.calm=true)(hi:PI X tg iter O)(hg:PG X tg g)(d:PSs X C tb)
  (hs:∀x,jX iter X.env x=pure x:=by intro _;rfl):PS X (.For tg iter C [] pos) (tFor O g tb):=by
 intro l a3 P H D I a1;refine wpAny_For (thn (hi l a3 P H _ I a1) fun a8 s1 h1=>thn h1 fun b2 s2 h2=>?_) hs;obtain⟨it,p,tn,b0,Q,e,S,T,a4,E,W,⟨m0,w0⟩,turn⟩:=h2;subst e
 --what stays true of the iterator's objects through the loop
 have y:∀{j:Hp},(∀b∈p,j b=none)->∀b∈p,pq X l j b:=fun hn b d=>⟨hn b d,(E b d).2⟩;refine codeAny_forLoop_any (fun n J=>∃i r j,Inv X l r j J/\tn i J.heap/\(∀b∈p,j b=none)/\W i n r j) ?_ m0 ⟨0,P,Q,S,a4,fun b d=>(E b d).1,w0⟩;rintro n K ⟨i,s,t,A,M,F,w3⟩;rcases turn i n s t w3 with⟨a5,qn⟩ |⟨go,N,hN,step⟩;·refine hO hp (thn (T.done X rfl rfl rfl G i l K s t X.xe A (y F) M a5) fun a2 s4 ⟨u,U⟩=>?_);subst u;exact FE ⟨s,t,U,qn⟩
 ·refine hO hp (thn (T.item X rfl rfl rfl G i l K s t X.xe A (y F) M go) fun a2 s4 ⟨a6,u,h4⟩=>?_);subst u;refine hO hp (thn h4 fun _ L ⟨x,z,V,r5,y5,w,a0⟩=>?_);have Y:=V.pinned (y a0) (T.obj _ _ w);refine hO hp (thn (hg _ L s z x a6 _ Y r5 (step x z y5)) fun _ s6 ⟨a9,R,Z,q6⟩=>?_);refine hO hp (thn (d _ s6 a9 R _ Z q6) fun f v k=>?_);have B:∀{h:St}{a:Hp},Inv X (l++jD p L.heap) h a v->N h a->∃m,m<n/\∃i r j,Inv X l r j v/\tn i v.heap/\(∀b∈p,j b=none)/\W i m r j:=fun{h a} c q=>by obtain⟨m',hm,w7⟩:=hN h a q;refine⟨m',hm,i+1,h,a,c.iR,T.keep _ _ _ w fun b d o e=>(c.pin (b,o) (a7 _ (a7 _ (jc d e)))).1,fun b d=>?_,w7⟩;obtain⟨o,e,b1⟩:=T.obj _ _ w b d;exact(c.pin (b,o) (a7 _ (a7 _ (jc d e)))).2.1
  cases f with
  |next =>obtain⟨h,a,c,q⟩:=k;exact B c q
  |cont=>obtain⟨h,a,c,q⟩:=k;exact B c q
  |brk=>obtain⟨h,a,c,k⟩:=k;exact⟨h,a,c.iR,k⟩
  |ret a8=>obtain⟨x7,h,a,c,r7,k⟩:=k;exact⟨x7,h,a,c.iR,r7,k⟩
end
noncomputable abbrev R2:=V->V->Hp->VK->Prop
def OpR(X:Cx)(f:Value->Value->Sem Value)(r:R2):Prop:=
 ∀(pins:List (Addr×Obj))(s:Shared)(σ:St)(H:Hp)(x y:V)(v u:Value)(Q:VK),Inv X pins σ H s->RelV x v->RelV y u->r x y H Q->
  wpAny (model X.prog X.w) X.A (f v u) (EP X pins σ Q) X.xe s
def fV(X:Cx)(f:Value)(r:List V->Hp->VK->Prop):Prop:=
 ∀(pins:List (Addr×Obj))(s:Shared)(σ:St)(H:Hp)(xs:List V)(us:List Value)(Q:VK),Inv X pins σ H s->bM xs us->r xs H Q->
  wpAny (model X.prog X.w) X.A (call f us) (EP X pins σ Q) X.xe s
def TruR(X:Cx)(r:V->Hp->(Bool->Hp->Prop)->Prop):Prop:=
 ∀(pins:List (Addr×Obj))(s:Shared)(σ:St)(H:Hp)(x:V)(v:Value)(Q:Bool->Hp->Prop),Inv X pins σ H s->RelV x v->r x H Q->
  wpAny (model X.prog X.w) X.A (truthy v) (TP X pins σ Q) X.xe s
def tOp(r:R2)(ta tb:TE):TE:=fun σ H Q=>ta σ H fun x H1=>tb σ H1 fun y H2=>r x y H2 Q
def rI(C:Int->Int->Prop)(g:Int->Int->V):R2:=fun x y H Q=>∃i j,x=.int i/\y=.int j/\C i j/\Q (g i j) H
def rI0(g:Int->Int->V):R2:=fun x y H Q=>∃i j,x=.int i/\y=.int j/\Q (g i j) H
section
variable {X:Cx}{a b c:Expr}{ta tb tc:TE}
def binT(e:PE X a ta)(g:PE X b tb){σ:St}{H:Hp}{R:V->V->Hp->Prop}(I:Inv X pins σ H s)
  (h:ta σ H fun x H1=>tb σ H1 fun y H2=>R x y H2){Q:Value->Shared->Prop}{f:Value->Value->Sem Value}
  (hf:∀v u s2 x y H2,Inv X pins σ H2 s2->RelV x v->RelV y u->R x y H2->wpAny (model X.prog X.w) X.A (f v u) Q X.xe s2):
  wpAny (model X.prog X.w) X.A (eval a X.env) (fun v n=>wpAny (model X.prog X.w) X.A (eval b X.env) (fun u o=>wpAny (model X.prog X.w) X.A (f v u) Q X.xe o) X.xe n) X.xe s:=by
 refine thn (e pins s σ H _ I h) fun v m ⟨x,H1,c,k,i⟩=>?_;refine thn (g pins m σ H1 _ c i) fun u s2 ⟨y,H2,d,l,j⟩=>?_;exact hf v u s2 x y H2 d k l j
def pe_op{op:Operator}{r:R2}(g:OpR X (fQ op) r)(e:PE X a ta)(f:PE X b tb):PE X (.BinOp a op b pos) (tOp r ta tb):=by intro i s m H Q I h;exact wpAny_BinOp (binT e f I h fun v u l x y c d j k q=>g i l m c x y v u Q d j k q)
def opI{f:Value->Value->Sem Value}{C:Int->Int->Prop}{g:Int->Int->Int}
  (b:∀(i j:Int)(t u:Tok)(s:Shared)(Q:Value->Shared->Prop)(E:Value->Shared->Prop),C i j->Q (.int (g i j) s.toks) {s with toks:=s.toks+1}->wpAny (model X.prog X.w) X.A (f (.int i t) (.int j u)) Q E s):
  OpR X f (rI C fun i j=>.int (g i j)):=by
 intro k s l H x y v u Q I c d h;obtain⟨i,j,rfl,rfl,a,q⟩:=h;obtain⟨t,rfl⟩:=c;obtain⟨e,rfl⟩:=d;exact b i j t e s _ _ a ⟨.int (g i j),H,I.tok _,⟨_,rfl⟩,q⟩
def opI0{f:Value->Value->Sem Value}{g:Int->Int->Int}
  (a:∀(i j:Int)(t u:Tok)(s:Shared)(Q:Value->Shared->Prop)(E:Value->Shared->Prop),Q (.int (g i j) s.toks) {s with toks:=s.toks+1}->wpAny (model X.prog X.w) X.A (f (.int i t) (.int j u)) Q E s):
  OpR X f (rI0 fun i j=>.int (g i j)):=by
 intro e s k H x y v u Q I b c h;obtain⟨i,j,rfl,rfl,q⟩:=h;obtain⟨t,rfl⟩:=b;obtain⟨d,rfl⟩:=c;exact a i j t d s _ _ ⟨.int (g i j),H,I.tok _,⟨_,rfl⟩,q⟩
def opB0{f:Value->Value->Sem Value}{g:Int->Int->Bool}
  (a:∀(i j:Int)(t u:Tok)(s:Shared)(Q:Value->Shared->Prop)(E:Value->Shared->Prop),Q (.bool (g i j)) s->wpAny (model X.prog X.w) X.A (f (.int i t) (.int j u)) Q E s):
  OpR X f (rI0 fun i j=>.bl (g i j)):=by
 intro e s k H x y v u Q I b c h;obtain⟨i,j,rfl,rfl,q⟩:=h;obtain⟨t,rfl⟩:=b;obtain⟨d,rfl⟩:=c;exact a i j t d s _ _ ⟨.bl (g i j),H,I,rfl,q⟩
def CDiv(i j:Int):Prop:=0<j/\j<1073741824
def MX(i j:Int):Prop:=0<=j/\j<=1000000/\i.natAbs<2^64
def FC(i j:Int):Prop:=(-(2^64)<i/\i<2^64)\/(-(2^64)<j/\j<2^64)
def FC.ok{i j:Int}(h:FC i j):IntMulOk i j:=by
 rcases h with⟨a,b⟩ |⟨a,b⟩;·exact .of_left (intBits_le_64 a b)
 ·exact .of_right (intBits_le_64 a b)
def Eh(k:Nat):(0:Int)<=2^k:=by rw[two_pow_cast];exact Int.natCast_nonneg _
def op_add:OpR X (fQ .Add) (rI0 fun i j=>.int (i+j)):=opI0 fun _ _ _ _ _ _ _ q=>add_int q
def op_sub:OpR X (fQ .Sub) (rI0 fun i j=>.int (i-j)):=opI0 fun _ _ _ _ _ _ _ q=>sub_int q
def op_mul:OpR X (fQ .Mult) (rI FC fun i j=>.int (i*j)):=opI fun _ _ _ _ _ _ _ a q=>mul_int q a.ok
def op_fdiv:OpR X (fQ .FloorDiv) (rI CDiv fun i j=>.int (i/j)):=opI fun i j _ _ _ _ _ a q=>by have b:(0:Int)<j:=a.1;have c:j<1073741824:=a.2;exact floordiv_int (by lia) (by rw[DX i (by lia)];exact q) (.inl (PyProof.noPylong_small (by lia)))
def op_mod:OpR X (fQ .Mod) (rI (fun _ j=>0<j) fun i j=>.int (i%j)):=opI fun i j _ _ _ _ _ a q=>by have b:(0:Int)<j:=a;exact mod_int' (by lia) (by rw[Int.fmod_eq_emod_of_nonneg i (by lia)];exact q)
def op_pow:OpR X (fQ .Pow) (rI MX fun i j=>.int (i^j.toNat)):=opI fun _ _ _ _ _ _ _ a q=>pow_int_small a.1 a.2.1 a.2.2 q
def op_shl:OpR X (fQ .LShift) (rI MX fun i j=>.int (i*2^j.toNat)):=opI fun _ _ _ _ _ _ _ a q=>lshift_int_small a.1 a.2.1 a.2.2 q
def op_shr:OpR X (fQ .RShift) (rI (fun _ j=>0<=j) fun i j=>.int (i/2^j.toNat)):=opI fun i j _ _ _ _ _ a q=>
 rshift_int a (by rw[DX i (Eh _)];exact q)
def op_and:OpR X (fQ .BitAnd) (rI0 fun i j=>.int (i9 i j)):=opI0 fun _ _ _ _ _ _ _ q=>and_int q
def op_xor:OpR X (fQ .BitXor) (rI0 fun i j=>.int (k6 i j)):=opI0 fun _ _ _ _ _ _ _ q=>xor_int q
end
section
variable {X:Cx}{a b c:Expr}{ta tb tc:TE}
def xI{σ:St}{H:Hp}{Q:VK}{k a:Bool}(I:Inv X pins σ H s)(q:Q (.bl k) H)(e:k=a):EP X pins σ Q (.bool a) s:=by subst e;exact⟨.bl k,H,I,rfl,q⟩
def op_lt:OpR X (cY .Lt) (rI0 fun i j=>.bl (decide (i<j))):=opB0 fun _ _ _ _ _ _ _ q=>lt_int q
def op_le:OpR X (cY .LtE) (rI0 fun i j=>.bl (decide (i<=j))):=opB0 fun _ _ _ _ _ _ _ q=>le_int q
def op_gt:OpR X (cY .Gt) (rI0 fun i j=>.bl (decide (j<i))):=opB0 fun _ _ _ _ _ _ _ q=>gt_int q
def op_ge:OpR X (cY .GtE) (rI0 fun i j=>.bl (decide (j<=i))):=opB0 fun _ _ _ _ _ _ _ q=>ge_int q
def Ik:OpR X (cY .In) (fun x y H Q=>∃i j,x=.str i/\y=.str j/\Q (.bl (!(iA j i 0 j.length 1).isEmpty)) H):=by intro c s e H x y v u Q I a b h;obtain⟨i,j,rfl,rfl,q⟩:=h;obtain⟨t,rfl⟩:=a;obtain⟨d,rfl⟩:=b;exact in_str (xI I q rfl)
def op_isN:OpR X (cY .Is) (fun x y H Q=>y=.non/\Q (.bl (decide (x=.non))) H):=by
 intro c s d H x y v u Q I a b h;obtain⟨rfl,q⟩:=h;cases b;refine is_none_gen (xI I q ?_);cases x<;>first
  | (cases a;rfl)
  | (obtain⟨t,rfl⟩:=a;rfl)
def op_notN:OpR X (cY .IsNot) (fun x y H Q=>y=.non/\Q (.bl (!decide (x=.non))) H):=by
 intro c s d H x y v u Q I a b h;obtain⟨rfl,q⟩:=h;cases b;refine isnot_none_gen (xI I q ?_);cases x<;>first
  | (cases a;rfl)
  | (obtain⟨t,rfl⟩:=a;rfl)
def OpR.or{f:Value->Value->Sem Value}{r r':R2}(h:OpR X f r)(h':OpR X f r'):OpR X f (fun x y H Q=>r x y H Q\/r' x y H Q):=by
 intro a s d H x y v u Q I b c q;rcases q with q|q;·exact h a s d H x y v u Q I b c q
 ·exact h' a s d H x y v u Q I b c q
def pe_cmpR{op:CmpOp}{r:R2}(i:OpR X (cY op) r)(e:PE X a ta)(f:PE X b tb)(g:M0 op b=false):PE X (.Compare a [op] [b] pos) (tOp r ta tb):=by intro j s n H Q I h;exact wpAny_Compare1 (binT e f I h fun v u m x y c d k l q=>i j m n c x y v u Q d k l q) g
def yU(t:TE):TT:=fun σ H Q=>t σ H fun x H'=>∃k,x=.bl k/\Q k H'
def pt_cmpR{op:CmpOp}{r:R2}(t:OpR X (cY op) r)(o:PE X a ta)(p:PE X b tb)(q:M0 op b=false):PT X (.Compare a [op] [b] pos) (yU (tOp r ta tb)):=by
 intro d s f H Q I h;refine wpAny_isTrue_Compare1 (thn (o d s f H _ I h) fun v F ⟨x,g,l,C,w⟩=>thn (p d F f g _ l w) fun u G ⟨y,i,m,D,A⟩=>
  thn (t d G f i x y v u _ m C D A) fun c J ⟨z,j,n,E,k,e,B⟩=>?_) q
 subst e;cases E;exact dm ⟨j,n,B⟩
def wq(r r':R2)(ta tb tc:TE):TE:=fun σ H Q=>ta σ H fun x H1=>tb σ H1 fun y H2=>r x y H2 fun z a=>∃k,z=.bl k/\
 (if k=true then tc σ a fun c b=>r' y c b Q else Q (.bl false) a)
def K8{op i:CmpOp}{r r':R2}(F:OpR X (cY op) r)(G:OpR X (cY i) r')(B:PE X a ta)(C:PE X b tb)(D:PE X c tc)
  (E:lastMarks [op,i] [b,c]=false:=by with_unfolding_all rfl):PE X (.Compare a [op,i] [b,c] pos) (wq r r' ta tb tc):=by
 intro f s g H Q I h;refine Compare_chain (thn (B f s g H _ I h) fun v P ⟨x,o,t,M,J⟩=>chain_link (thn (C f P g o _ t J) fun u R ⟨y,p,w,n,K⟩=>
  thn (F f R g p x y v u _ w M n K) fun d S ⟨z,j,l,N,k,e,m⟩=>?_)) E
 subst e;cases N;refine dm ?_;cases k with
 |false=>exact ite_ff ⟨.bl false,j,l,rfl,m⟩
 |true=>exact ite_tt (chain_last (thn (D f S g j _ l m) fun U T ⟨V,q,A,O,L⟩=>G f T g q y V u U Q A n O L))
def KU{op g:CmpOp}{r r':R2}(J:OpR X (cY op) r)(K:OpR X (cY g) r')(D:PE X a ta)(E:PE X b tb)(F:PE X c tc)
  (G:lastMarks [op,g] [b,c]=false:=by with_unfolding_all rfl):PT X (.Compare a [op,g] [b,c] pos) (yU (wq r r' ta tb tc)):=by
 intro d s f H a0 I h;refine isTrue_chain (thn (D d s f H _ I h) fun v U ⟨x,n,t,Q,M⟩=>test_link (thn (E d U f n _ t M) fun u V ⟨y,o,w,m,N⟩=>
  thn (J d V f o x y v u _ w Q m N) fun a1 W ⟨a2,i,j,R,k,e,l⟩=>?_)) G
 subst e;cases R;refine dm ?_;cases k with
 |false=>obtain⟨k',B,L⟩:=l;cases B;exact ite_ff ⟨i,j,L⟩
 |true=>refine ite_tt (test_last (thn (F d W f i _ j l) fun Z Y ⟨z',p,z,S,O⟩=>thn (K d Y f p y z' u Z _ z m S O) fun d' s5 ⟨z2,q,A,T,k2,C,P⟩=>?_));subst C;cases T;exact dm ⟨q,A,P⟩
def TruV(K:ah)(x:V)(H:Hp)(k:Bool):Prop:=
 match x with
 |.non=>k=false
 |.bl b=>k=b
 |.int i=>k=(i != 0)
 |.str y=>y.length<=sizeLine/\k=((y.length:Int) != 0)
 |.byt y=>y.size<=sizeLine/\k=((y.size:Int) != 0)
 |.ref p=>(∃xs,SqL K H p xs/\k= !xs.isEmpty)\/(∃xs,SqT K H p xs/\k= !xs.isEmpty)\/∃kvs,H p=some (.dK kvs)/\k= !kvs.isEmpty
 |_=>False
def E5{κ:Type}{a:List (κ×V)}{vs:List (κ×Value)}(r:KV a vs):(!vs.isEmpty)= !a.isEmpty:=by cases r<;>rfl
def xA{xs:List V}(r:bM xs ad):(!ad.toArray.isEmpty)= !xs.isEmpty:=by cases r<;>simp
def tU:(sizeLine:Nat)<2^63:=by rw[vp];decide
def tru_ok:TruR X (fun x H Q=>∃k,TruV X.K x H k/\Q k H):=by
 intro C s D H x v Q I f h;obtain⟨k,e,q⟩:=h;have A:=tU;have B:sizeLine=16777216:=vp;cases x with
 |non=>cases f;have a:k=false:=e;subst a;exact truthy_none ⟨H,I,q⟩
 |bl b=>cases f;have a:k=b:=e;subst a;exact dm ⟨H,I,q⟩
 |int i=>obtain⟨t,rfl⟩:=f;have a:k=(i != 0):=e;subst a;exact PySem.P.truthy_int ⟨H,I,q⟩
 |str y=>obtain⟨t,rfl⟩:=f;obtain⟨w,a⟩:y.length<=sizeLine/\k=((y.length:Int) != 0):=e;subst a;exact PySem.P.truthy_str (by lia) ⟨H,I.tok _,q⟩
 |byt y=>obtain⟨t,rfl⟩:=f;obtain⟨w,a⟩:y.size<=sizeLine/\k=((y.size:Int) != 0):=e;subst a;exact PySem.W.truthy_bytes (by lia) ⟨H,I.tok _,q⟩
 |ref p=>
  cases f;have a:(∃c,SqL X.K H p c/\k= !c.isEmpty)\/(∃c,SqT X.K H p c/\k= !c.isEmpty)\/∃d,H p=some (.dK d)/\k= !d.isEmpty:=e;rcases a with⟨c,g,a⟩ |⟨c,g,a⟩ |⟨d,g,a⟩;·subst a;obtain⟨z,r,l,o⟩:=I.list g;have n:=r.length;exact wpAny_truthy_list l.isList (by simp only[aD];lia) ⟨H,I.tok _,by rw[xA r];exact q⟩
  ·subst a;obtain⟨z,r,l,o⟩:=I.tuple g;have n:=r.length;exact truthy_tuple l (by simp only[aD];lia) ⟨H,I.tok _,by rw[xA r];exact q⟩
  ·subst a;obtain⟨o,u,j,r,m⟩:d.length<=sizeLine/\(p==gQ)=false/\∃j,KV d j/\s.heap.DictOf (cE X.prog X.w) p j:=I.hok p _ g;have n:d.length=j.length:=mP r;exact wpAny_truthy_dict u m (by lia) ⟨H,I.tok _,by rw[E5 r];exact q⟩
 |_=>exact(show False from e).elim
def lU(f:PE X a ta)(g:∀c,isTrue a X.env c=(do let v<-c;standAt a.pos;holding [v] (truthy v))):
  PT X a (fun σ H Q=>ta σ H fun x H'=>∃k,TruV X.K x H' k/\Q k H'):=by
 intro b s σ H Q I h;exact isTrue_plain (thn (f b s σ H _ I h) fun v l ⟨x,d,e,j,i⟩=>tru_ok b l σ d x v Q e j i) (g _)
def EM:OpR X (fQ .Add) (fun x y H Q=>∃i j,x=.str i/\y=.str j/\i.length+j.length<=sizeLine/\Q (.str (i++j)) H):=by intro e s f H x y v u Q I b c h;obtain⟨i,j,rfl,rfl,a,q⟩:=h;obtain⟨t,rfl⟩:=b;obtain⟨d,rfl⟩:=c;exact add_str (fun d tk=>⟨.str (i++j),H,I.tok _,⟨_,rfl⟩,q⟩) a
def vals1{x:V}(r:bM [x] us):∃u,us=[u]/\RelV x u:=by
 cases r with
 |cons r1 r2=>cases r2;exact⟨_,rfl,r1⟩
def vals2{x y:V}(r:bM [x,y] us):∃u a,us=[u,a]/\RelV x u/\RelV y a:=by
 cases r with
 |cons r1 r2=>
  cases r2 with
  |cons r3 r4=>cases r4;exact⟨_,_,rfl,r1,r3⟩
def ui(a:X.calm=true):fV X (.builtin "min") (fun xs H Q=>∃i j,xs=[.int i,.int j]/\Q (.int (if j<i then j else i)) H):=by
 intro c s g H xs e Q I r h;obtain⟨i,j,rfl,q⟩:=h;obtain⟨u,f,rfl,⟨t,rfl⟩,⟨d,rfl⟩⟩:=vals2 r;refine min_two_ints (I.ok.hd a) fun b tk k=>⟨_,H,I.kept k,?_,q⟩;by_cases hj:j<i;·rw[if_pos hj,if_pos hj];exact⟨_,rfl⟩
 ·rw[if_neg hj,if_neg hj];exact⟨_,rfl⟩
def Jb:fV X (.type "int") (fun xs H Q=>(∃i,xs=[.int i]/\Q (.int i) H)\/∃k,xs=[.bl k]/\Q (.int (if k then 1 else 0)) H):=by
 intro b s d H xs c Q I r h;rcases h with⟨i,rfl,q⟩ |⟨k,rfl,q⟩;·obtain⟨u,rfl,t,rfl⟩:=vals1 r;exact call_int_int ⟨.int i,H,I,⟨_,rfl⟩,q⟩
 ·obtain⟨u,rfl,a⟩:=vals1 r;cases a;exact call_int_bool ⟨.int (if k then 1 else 0),H,I.tok _,⟨_,rfl⟩,q⟩
end
structure ObjM(h:Heap)(x dx C:Addr)(mA:Str->Option Value):Prop where
 obj:h.get? x=some (yh C dx)
 ns:h.Ns1 dx mA
 ne:dx≠x
def IA(n:h.Ns1 dx mA):∃od,h.get? dx=some od/\∀name,yM name od=some (mA name):=by
 obtain⟨o,b,l,j,d,f,_,i⟩:=n;refine⟨o,j,fun name=>?_⟩;have e:=i name;unfold nsFind findBy at e;rw[<-uD]at e;unfold yM;rw[d];dsimp only;split;·rename_i y q;rw[q]at e;exact congrArg some e
 ·rename_i q;rw[q]at e;have a:b.toList.any (·.refKey)=false:=by rw[List.any_eq_false];intro y k;obtain⟨z,t,g⟩:=f y (j7.mp k);simp[DictEntry.refKey,g]
  have c:¬b.toList.any (·.refKey)=true:=by rw[a];exact ak
  rw[if_neg c];exact congrArg some e
def ObjM.look{x:Addr}(I:ObjM h x dx C mA):∃od,PySem.W.InstAt h x (yh C dx) C (some od)/\∀name,yM name od=some (mA name):=
 let⟨od,ho,hl⟩:=IA I.ns
 ⟨od,⟨I.obj,rfl,rfl,ho⟩,hl⟩
abbrev qS(f:Str)(v:V):List (Str×V)->List (Str×V)
 | []=>[(f,v)]
 | (g,x)::r=>if g=f then(g,v)::r else(g,x)::qS f v r
theorem uO(f g:Str)(v:V):∀fs:List (Str×V),(qS f v fs).lookup g=if g=f then some v else fs.lookup g
 | []=>by
  show cW g [(f,v)]=_;by_cases h:g=f;·have a:(g==f)=true:=beq_iff_eq.mpr h;simp only[cW,a,if_pos h]
  ·have a:(g==f)=false:=beq_eq_false_iff_ne.mpr h;simp only[cW,a,if_neg h]
 | (k,x)::r=>by
  have b:=uO f g v r;rw[show qS f v ((k,x)::r)=(if k=f then(k,v)::r else(k,x)::qS f v r)from rfl];by_cases hk:k=f
  ·rw[if_pos hk];by_cases h:g=k;·have a:(g==k)=true:=beq_iff_eq.mpr h;simp only[cW,a,if_pos (h.trans hk)]
   ·have a:(g==k)=false:=beq_eq_false_iff_ne.mpr h;simp only[cW,a,if_neg (fun e:g=f=>h (e.trans hk.symm))]
  ·rw[if_neg hk];by_cases h:g=k;·have a:(g==k)=true:=beq_iff_eq.mpr h;simp only[cW,a,if_neg (fun e:g=f=>hk (h.symm.trans e))]
   ·have a:(g==k)=false:=beq_eq_false_iff_ne.mpr h;simp only[cW,a];exact b
theorem tV(f:Str)(v:V):∀fs:List (Str×V),f∈(qS f v fs).map (·.1)/\∀g,g∈fs.map (·.1)->g∈(qS f v fs).map (·.1)
 | []=>⟨by simp[qS],fun g h=>by simp at h⟩
 | (k,x)::r=>by
  obtain⟨a,b⟩:=tV f v r;rw[show qS f v ((k,x)::r)=(if k=f then(k,v)::r else(k,x)::qS f v r)from rfl];by_cases hk:k=f;·rw[if_pos hk];subst hk;exact⟨by simp,fun g h=>by simpa using h⟩
  ·rw[if_neg hk];refine⟨?_,fun g h=>?_⟩;·rw[b7];exact aK _ a
   ·rw[b7]at h⊢;rcases aI.mp h with e|e;·exact aI.mpr (.inl e)
    ·exact aK _ (b g e)
def ur.some_of{v:V}{o:Option Value}(r:ur (some v) o):∃u,o=some u/\RelV v u:=by
 cases o with
 |none=>exact(show False from r).elim
 |some u=>exact⟨u,rfl,r⟩
section
variable {H H':Hp}{a C dx:Addr}{fs fs':List (Str×V)}
def ins_get(b:HOk P w H h)(e:H a=some (.ins C dx fs)):∃mA,ObjM h a dx C mA/\(∀f,ur (fs.lookup f) (mA f))/\kU mA (fs.map (·.1))/\fs.length<=1000/\H dx=some (.own a):=by obtain⟨d,z,ne,c,mA,n,r,q⟩:=(show dO P w H h a (.ins C dx fs)from b a _ e);exact⟨mA,⟨c,n,ne⟩,r,q,z,d⟩
end
structure Cls(K:ah)(C:Addr):Prop where
 pg:Nc K C Str.empty=true
 hd:PySem.W.hasDictIn K C=true
 po:PySem.W.plainOver K C=true
 sa:fF K (.ref C) "__setattr__"=some (some (.builtin "object.__setattr__"))
def Cls.get(c:Cls K C)(f:Str):Nc K C f=true:=c.pg
structure Meth(K:ah)(C:Addr)(m:Str)(f:Addr):Prop where
 at_:fF K (.ref C) m=some (some (.ref f))
 fn:PySem.W.isFn K (.ref f)=true
 kp:cP K (.ref f)=true
section
variable {X:Cx}{pins:List (Addr×Obj)}{σ:St}{H:Hp}{s:Shared}{E:Value->Shared->Prop}{Q:Value->Shared->Prop}{c:Value}{b:Bool}
inductive nY (K:ah) (H:Hp):V->Value->Prop where
 |non:nY K H .non (.type "NoneType")
 |bl (x:Bool):nY K H (.bl x) (.type "bool")
 |int (i:Int):nY K H (.int i) (.type "int")
 |str (x:Str):nY K H (.str x) (.type "str")
 |flt (x:UInt64):nY K H (.flt x) (.type "float")
 |lst {a:Addr} {xs:List V} (e:H a=some (.lst xs)):nY K H (.ref a) (.type "list")
 |frz {a:Addr} {o:Obj} {xs:List V} (e:H a=some (.frz o (.lst xs))):nY K H (.ref a) (.type "list")
 |tup {a:Addr} {xs:List V} (e:H a=some (.tup xs)):nY K H (.ref a) (.type "tuple")
 |dK {a:Addr} {kvs:List (Key×V)} (e:H a=some (.dK kvs)):nY K H (.ref a) (.type "dict")
 |dT {a:Addr} {kvs:List (List Key×V)} (e:H a=some (.dT kvs)):nY K H (.ref a) (.type "dict")
 |ins {a C dx:Addr} {fs:List (Str×V)} (e:H a=some (.ins C dx fs)) (cl:Cls K C) (ha:fF K (.ref C) "__class__"=some (some (.builtin "object.__class__")))
   (hn:uw K (.builtin "object.__class__") "__get__"=some (some (.builtin "getset_descriptor.__get__"))) (htk:PySem.W.takesIn K (.builtin "object.__class__")=some true)
   (hm:BL K C (.type "object")=some true):nY K H (.ref a) (.ref C)
def zy{x:V}{t:Value}(I:Inv X pins σ H s)(d:RelV x u)(ty:nY X.K H x t)(e:gS X.K t c=some b)(h:∀tk,Q (.bool b) {s with toks:=tk}):
  wpAny (model X.prog X.w) A (call (.builtin "isinstance") [u,c]) Q E s:=by
 cases ty with
 |non=>cases(show u=bJ from d);exact dh PySem.W.kitx_none I.kIn True.intro e (fun z=>nomatch z) h
 |bl y=>cases(show u=BI y from d);exact dh PySem.W.kitx_bool I.kIn True.intro e (fun z=>nomatch z) h
 |int i=>obtain⟨t,q⟩:=(show ∃t,u=yg i t from d);cases q;exact dh PySem.W.kitx_int I.kIn True.intro e (fun z=>nomatch z) h
 |str y=>obtain⟨t,q⟩:=(show ∃t,u=i5 y t from d);cases q;exact dh PySem.W.kitx_str I.kIn True.intro e (fun z=>nomatch z) h
 |flt y=>obtain⟨t,q⟩:=(show ∃t,u=Value.float y t from d);cases q;exact dh PySem.W.kitx_float I.kIn True.intro e (fun z=>nomatch z) h
 | @lst a g ea=>cases(show u=bE a from d);obtain⟨_,_,n,_,f⟩:=(show dO X.prog X.w H s.heap a (.lst g)from I.hok a _ ea);exact dh JD I.kIn ⟨_,f,rfl⟩ e (fun z=>nomatch z) h
 | @frz a ob g ea=>cases(show u=bE a from d);obtain⟨_,_,_,n,_,f⟩:=(show dO X.prog X.w H s.heap a (.frz ob (.lst g))from I.hok a _ ea);exact dh JD I.kIn ⟨_,f,rfl⟩ e (fun z=>nomatch z) h
 | @tup a g ea=>cases(show u=bE a from d);obtain⟨_,_,_,p⟩:=(show dO X.prog X.w H s.heap a (.tup g)from I.hok a _ ea);obtain⟨o,f,j,_⟩:=p;exact dh PySem.W.kitx_tuple I.kIn ⟨o,f,j⟩ e (fun z=>nomatch z) h
 | @dK a kvs ea=>cases(show u=bE a from d);obtain⟨_,_,v,_,p⟩:=(show dO X.prog X.w H s.heap a (.dK kvs)from I.hok a _ ea);obtain⟨o,l,k,f,j,_⟩:=p;exact dh JE I.kIn ⟨o,f,j.1⟩ e (fun z=>nomatch z) h
 | @dT a kvs ea=>cases(show u=bE a from d);obtain⟨_,_,g,_,o,l,k,f,j,_⟩:=(show dO X.prog X.w H s.heap a (.dT kvs)from I.hok a _ ea);exact dh JE I.kIn ⟨o,f,j.1⟩ e (fun z=>nomatch z) h
 | @ins a C dx fs ea cl ha hn htk hm=>cases(show u=bE a from d);obtain⟨m,O,_⟩:=ins_get I.hok ea;obtain⟨r,J,_⟩:=O.look;exact dh (PySem.W.kitx_own (cl.get _) cl.hd ha hn htk hm) I.kIn J e (fun z=>nomatch z) h
end
structure jf(k:Nat)(A:Around):Prop where
 hd:A.handled=none
 dp:A.depth+3*k+5<jV
 un:A.units+16*k+200<cLine
def jf.mono(r:jf k A)(h:j<=k):jf j A:=⟨r.hd,by have :=r.dp;lia,by have :=r.un;lia⟩
theorem jf.deeper(r:jf (k+1) A)(env:Env):jf k (A.deeper env):=
 ⟨r.hd,by have :=r.dp;show A.depth+1+3*k+5<_;lia,by have :=r.un;show A.units+3+16*k+200<_;lia⟩
def EV{a:List (Str×Value)}:(A.under (.builtin "type.__call__" ⟨.ref C::us,a⟩)).depth=A.depth+1:=by first |rfl|simp[Ee,Code.weight,Code.isCreation,Code.isGuard,Code.isCaller,Code.frames,Hu,guardIds]
def EU{a:List (Str×Value)}:(A.under (.builtin "type.__call__" ⟨.ref C::us,a⟩)).units=A.units+1:=by first |rfl|simp[Ee,Code.cUnits,Code.frames,Hu]
def jf.make(r:jf (k+1) A)(C:Addr)(us:List Value)(a:List (Str×Value)):jf k (A.under (.builtin "type.__call__" ⟨.ref C::us,a⟩)):=
 ⟨r.hd,by have :=r.dp;rw[EV];lia,by have :=r.un;rw[EU];lia⟩
theorem jf.depth(r:jf k A):A.depth<jV:=by have :=r.dp;lia
theorem jf.units(r:jf k A):A.units+64<cLine:=by have :=r.un;lia
def vi:TA:=fun _ H Q=>Q [] H
def lS(ta:TE)(a:TA):TA:=fun σ H Q=>ta σ H fun x H1=>a σ H1 fun xs H2=>Q (x::xs) H2
section
variable {X:Cx}{es:List Expr}{te:TE}{t:TA}
def lB:PA X [] vi:=fun _ _ _ _ H Q I h=>Calls.spliced_nil ⟨[],H,I,.nil,h⟩
def iu(j:PE X e te)(k:PA X es t)(l:bB (e::es) X.env=(false,eval e X.env)::bB es X.env:=by rfl):PA X (e::es) (lS te t):=by intro b a s c H Q I h;rw[l];show wpAny _ _ (spliced ((false,eval e X.env)::backTo b (bB es X.env))) _ _ s;refine Nk (thn (j a s c H _ I h) fun u q ⟨x,d,g,o,m⟩=>?_);exact thn (k b a q c d _ g m) fun w v ⟨r,f,i,p,n⟩=>⟨x::r,f,i,.cons o p,n⟩
def tTup(t:TA):TE:=fun σ H Q=>t σ H fun xs H1=>xs.length<=sizeLine/\∀p,H1 p=none->Q (.ref p) (upd H1 p (.tup xs))
def tLst(t:TA):TE:=fun σ H Q=>t σ H fun xs H1=>xs.length<=sizeLine/\∀p,H1 p=none->Q (.ref p) (upd H1 p (.lst xs))
def pe_tup{x1}(h:PA X es t):PE X (.Tuple es x1 pos) (tTup t):=by intro f s j H Q I hq;refine wpAny_Tuple_spliced (thn (h pos f s j H _ I hq) fun g a ⟨i,c,d,r,z,q⟩=>⟨by rw[<-r.length];exact z,?_⟩);have hf:c a.heap.objs.size=none:=d.hok.fresh (aw _);refine⟨.ref a.heap.objs.size,upd c a.heap.objs.size (.tup i),d.laid (t':=a.toks) (fun b u e=>ag _ e) (aw _) ?_,rfl,q _ hf⟩;exact⟨z,g,r,⟨_,ay _ rfl,rfl,_,rfl⟩⟩
def K5(h:PA X es t):PE X (.List es pos) (tLst t):=by intro f s j H Q I hq;refine wpAny_List_spliced (thn (h pos f s j H _ I hq) fun g a ⟨i,c,d,r,z,q⟩=>⟨by rw[<-r.length];exact z,?_⟩);have hf:c a.heap.objs.size=none:=d.hok.fresh (aw _);refine⟨.ref a.heap.objs.size,upd c a.heap.objs.size (.lst i),d.laid (t':=a.toks) (fun b u e=>ag _ e) (aw _) ?_,rfl,q _ hf⟩;exact⟨z,g,0,r,ay _ rfl⟩
end
noncomputable abbrev Sp:=List V->Hp->VK->XK->Prop
noncomputable abbrev CXT:=List Env->Hp->Shared->XK->Value->Shared->Prop
structure FA(P:Program)(w:World)(K:ah)(mg:Str->Option Value)(base:Heap)(A:Around)(outer:List Env)(s:Shared)(H:Hp):Prop where
 frames:A.frames=some outer
 mod:Mod K mg base
 bs:∀b o,base.get? b=some o->s.heap.get? b=some o/\H b=none
 bsz:base.objs.size<=s.heap.objs.size
 xE:s.heap.FunFrames base outer
 frf:∀b∈frs outer,H b=none
 hok:HOk P w H s.heap
 bare:pW s.gens
def CE(outer:List Env)(P:Program)(w:World)(H:Hp)(s:Shared)(Q:VK)(u:Value)(s':Shared):Prop:=
 ∃v H',s'.os=s.os/\pW s'.gens/\Un (frs outer) [] H H' s.heap s'.heap/\HOk P w H' s'.heap/\RelV v u/\Q v H'
def CR(CX:CXT)(outer:List Env)(P:Program)(w:World)(H:Hp)(s:Shared)(Q:VK)(E:XK)(r:Result)(s':Shared):Prop:=
 match r with
 |.ok (.ret u)=>CE outer P w H s Q u s'
 |.ok _=>False
 |.error e=>CX outer H s E e s'
structure jx(P:Program)(w:World)(K:ah)(mg:Str->Option Value)(base:Heap)(CX:CXT)(k:Nat)(f:Addr)(fd:fg)(ps:List Str)(sp:Sp):Prop where
 len:∀vs H Q E,sp vs H Q E->vs.length=ps.length
 run:∀(A:Around)(outer:List Env)(s:Shared)(H:Hp)(args:Args)(us:List Value)(vs:List V)(Q:VK)(E:XK),jf k A->FA P w K mg base A outer s H->BindsTo s fd args (ps.zip us)->bM vs us->sp vs H Q E->
  gR (model P w) A (.call (.ref f) args) (CR CX outer P w H s Q E) s
def FA.make{outer:List Env}{H:Hp}(e:FA P w K mg base A outer s H)(C:Addr)(us:List Value)(a:List (Str×Value)):
  FA P w K mg base (A.under (.builtin "type.__call__" ⟨.ref C::us,a⟩)) outer s H:=⟨by first |exact e.frames| (simpa[Ee,Code.envs,Hu,pushEnvs]using e.frames),e.mod,e.bs,e.bsz,e.xE,e.frf,e.hok,e.bare⟩
section
variable {X:Cx}{pins:List (Addr×Obj)}{σ:St}{H:Hp}{s s':Shared}
def Inv.env0(I:Inv X pins σ H s):FA X.prog X.w X.K X.mg X.base X.A X.stack s H:=
 ⟨I.ok.frames,I.ok.mod,I.bs,aL I.ok.bsz I.sz,I.stack,I.Ag,I.hok,I.bare⟩
def Inv.after{Q:VK}(I:Inv X pins σ H s)(h:CE X.stack X.prog X.w H s Q u s'):EP X pins σ Q u s':=by obtain⟨v,a,i,c,un,f,r,q⟩:=h;obtain⟨e,g,d,t,j⟩:=s';obtain rfl:j=s.os:=i;exact⟨v,a,I.call (h':=e) (g':=g) (d':=d) (t':=t) (ch:=[]) un f c (fun b z=>absurd z (by simp)),r,q⟩
end
def B6(sp:Sp)(al:List V)(E:XK)(t:TA):TE:=fun σ H Q=>t σ H fun vs H1=>sp (vs++al) H1 Q E
def Binds(K:ah)(fd:fg)(ps:List Str)(ds:List Value):Prop:=
 ∀(s:Shared)(us:List Value),K.In s.heap->(us++ds).length=ps.length->BindsTo s fd ⟨us,[]⟩ (ps.zip (us++ds))
def Binds.all{a:fg}(h:∀us:List Value,us.length=ps.length->rD a ⟨us,[]⟩=pure (ps.zip us)):Binds K a ps []:=fun s us _ b=>by rw[ff]at b⊢;exact .of_eq (h us b)
section
variable {X:Cx}{CX:CXT}{f C:Addr}{fd:fg}{ps:List Str}{sp:Sp}{al:List V}{ds:List Value}{E:XK}{x m:Str}{p apos:Pos}{es:List Expr}{ta:TE}{t:TA}
structure Mk(K:ah)(C f:Addr):Prop where
 makes:PySem.W.makesIn K C=true
 init:fF K (.ref C) "__init__"=some (some (.ref f))
 fn:PySem.W.isFn K (.ref f)=true
 kp:cP K (.ref C)=true
end
structure vU(N P:List Str)(sc:Scope):Prop where
 kind:sc.kind=.function
 co:sc.isCoroutine=false
 gen:sc.isGenerator=false
 nd:N.Nodup
 pre:N.take P.length=P
 par:∀x∈P,sc.names.lookup x=some .local\/sc.names.lookup x=some .cell
 nofree:∀y∈sc.names,y.2≠.free
theorem zU{b:Str->Option eD}:∀{binds:List (Str×Value)}{m:Str->Option Value},(∀v,(x,v)∉binds)->bindL b binds m x=m x
 | [],_,_=>rfl
 | (n,v)::r,m,h=>by
  unfold bindL;rw[zU fun w a=>h w (aK _ a)];split
  ·have :x≠n:=by rintro rfl;exact h v aM
   simp[this]
  ·rfl
theorem zW{b:Str->Option eD}:∀{binds:List (Str×Value)}{m:Str->Option Value},(∀v,(x,v)∉binds)->bindC b binds m x=m x
 | [],_,_=>rfl
 | (n,v)::r,m,h=>by
  unfold bindC;rw[zW fun w a=>h w (aK _ a)];split;·rfl
  ·have :x≠n:=by rintro rfl;exact h v aM
   simp[this]
theorem zV{a:Str->Option eD}{v:Value}:∀{P:List Str}{vs:List Value}{i:Nat}{m:Str->Option Value},P.Nodup->P[i]? =some x->vs[i]? =some v->a x=some .local->
  bindL a (P.zip vs) m x=some v
 | [],_,_,_,_,h,_,_=>by simp at h
 |_::_,[],_,_,_,_,h,_=>by simp at h
 |p::P,w::vs,0,m,nd,h1,h2,hk=>by simp at h1 h2;subst h1;subst h2;show bindL a ((p,w)::P.zip vs) m p=_;unfold bindL;rw[zU fun v b=>(bW.mp nd).1 (z7 b).1,if_pos hk];simp
 |p::P,w::vs,i+1,m,nd,h1,h2,hk=>by show bindL a ((p,w)::P.zip vs) m x=_;unfold bindL;exact zV (i:=i) (bW.mp nd).2 (by simpa using h1) (by simpa using h2) hk
theorem zX{a:Str->Option eD}{v:Value}:∀{P:List Str}{vs:List Value}{i:Nat}{m:Str->Option Value},P.Nodup->P[i]? =some x->vs[i]? =some v->a x≠some .local->
  bindC a (P.zip vs) m x=some v
 | [],_,_,_,_,h,_,_=>by simp at h
 |_::_,[],_,_,_,_,h,_=>by simp at h
 |p::P,w::vs,0,m,nd,h1,h2,hk=>by simp at h1 h2;subst h1;subst h2;show bindC a ((p,w)::P.zip vs) m p=_;unfold bindC;rw[zW fun v b=>(bW.mp nd).1 (z7 b).1,if_neg hk];simp
 |p::P,w::vs,i+1,m,nd,h1,h2,hk=>by show bindC a ((p,w)::P.zip vs) m x=_;unfold bindC;exact zX (i:=i) (bW.mp nd).2 (by simpa using h1) (by simpa using h2) hk
abbrev start(N:List Str)(vs:List V):St:=vs.map some++bz (N.length-vs.length) none
abbrev Bl(CX:CXT)(P:Program)(w:World)(K:ah)(mg:Str->Option Value)(base:Heap)(N:List Str)(qual:Str)(scope:Scope)(f:Addr)(cd:Value)(A:Around)(outer:List Env)(s:Shared)(H:Hp)(E:XK):Cx where
 prog:=P
 w:=w
 K:=K
 mg:=mg
 base:=base
 A:=A.deeper (envOfC qual scope s.heap.objs.size f cd)
 N:=N
 s₀:=s
 H₀:=H
 env:=envOfC qual scope s.heap.objs.size f cd
 outer:=outer
 stack:=envOfC qual scope s.heap.objs.size f cd::outer
 ex:=[]
 calm:=true
 fn:=fun _=>true
 pn:=[]
 xe:=fun e s'=>wpAny (model P w) (A.deeper (envOfC qual scope s.heap.objs.size f cd)) (leaving (envOfC qual scope s.heap.objs.size f cd) e) (fun _ a=>CX outer H s E e a) (fun b a=>CX outer H s E b a) s'
def Dw(h:sc.names.lookup x=some .cell):∃c,(cK n sc.names []).lookup x=some c:=by have q:=DT sc.names n [] (.inl h);exact cA.mp q
def II{CX:CXT}{cd:Value}{outer:List Env}{B:Shared}{H:Hp}{E:XK}{vs:List V}
  (S:vU N ps scope)(D:A.handled=none)(g:FA P w K mg base A outer s H)(I:vs.length=ps.length)(r:bM vs us)
  (x:InCallC s s.heap.objs.size (bindL (envOfC qual scope s.heap.objs.size f cd).kindOf (ps.zip us) fun _=>none) (cK (s.heap.objs.size+1) scope.names []) (bindC (envOfC qual scope s.heap.objs.size f cd).kindOf (ps.zip us) fun _=>none) B):
  Inv (Bl CX P w K mg base N qual scope f cd A outer s H E) [] (start N vs) H B:=by
 have J:ps.length<=N.length:=by have :=congrArg ke S.pre;rw[dz]at this;lia
 obtain⟨j,tk,rfl,m⟩:=x.done;have l:∀b:Addr,b∉(Bl CX P w K mg base N qual scope f cd A outer s H E).ex:=fun b z=>absurd (show b∈([]:List Addr)from z) (by simp);refine⟨⟨g.mod,S.kind,rfl,rfl,aw _,fun y z c j d=>?_,fun y hy=>?_,fun y c _ h=>?_,fun _=>D,Around.frames_deeper g.frames,.inr ⟨rfl,rfl⟩,fun b z=>absurd z (l b),g.bs,g.bsz,fun b _ _=>l b,fun b z=>absurd z (l b),g.xE,g.frf⟩,
  rfl,g.bare,Un.kept m,⟨_,x.toInCall.ns,fun i y v j d G=>?_⟩,fun y c h=>⟨_,x.cell y c h⟩,g.hok.fresh (aw _),fun y c h=>?_,fun p hp=>absurd (show p∈([]:List (Addr×Obj))from hp) (by simp),g.hok.kept m,?_⟩
 ·exact name_of_addr x.apart (bA j) (bA d)
 ·have hy:scope.names.lookup y=some .cell\/scope.names.lookup y=some .free:=hy;rcases hy with hy|hy;·exact Dw hy
  ·exact absurd rfl (S.nofree _ (bA hy))
 ·exact jA (x.above y c (bA h))
 ·have hi:i<vs.length:=by
   unfold start at d;by_cases hi:i<vs.length;·exact hi
   ·rw[bO (by simpa using hi)]at d;rw[List.getElem?_replicate]at d;split at d<;>cases d
  have C:vs[i]? =some v:=by
   unfold start at d;rw[cq (by simpa using hi),av]at d;cases e:vs[i]? with
   |none=>rw[e]at d;cases d
   |some a=>rw[e]at d;cases d;rfl
  obtain⟨u,o,F⟩:=r.get C;have hp:ps[i]? =some y:=by rw[<-S.pre,Eb (by lia)];exact j
  have t:ps.Nodup:=by rw[<-S.pre];exact S.nd.sublist (vY _ _)
  refine⟨u,F,?_⟩;rcases S.par y (aG hp)with k|k;·exact .inl ⟨k,zV t hp o k⟩
  ·obtain⟨c,e⟩:=Dw (n:=s.heap.objs.size+1) k;refine .inr ⟨.inl k,c,e,?_⟩;have q:=x.cell y c e;rw[zX t hp o (by show scope.names.lookup y≠_;rw[k];decide)]at q;exact q
 ·exact g.hok.fresh (jA (x.above y c (bA h)))
 ·unfold start;show _=N.length;rw[bj,ai,jJ];lia
def fn_of{CX:CXT}{name:Str}{B:Arguments}{h:List Stmt}{kV:Value}{an:Option Addr}
  {sp:Sp}(X:K.lookup f=some ⟨oc,od,.func (aE name qual B h scope dV kV ap pm an am ct),ax⟩)(L:eM K am qual=true)(S:vU N ps scope)
  (len:∀vs H Q E,sp vs H Q E->vs.length=ps.length)
  (G:∀(A:Around)(c:List Env)(s:Shared)(H:Hp)(vs:List V)(Q:VK)(E:XK),jf k (A.deeper (envOfC qual scope s.heap.objs.size f am))->sp vs H Q E->
   ∃t,PSs (Bl CX P w K mg base N qual scope f am A c s H E) h t/\t {nx:=fun _ H'=>Q .non H',rt:=Q} (start N vs) H):
  jx P w K mg base CX (k+1) f (aE name qual B h scope dV kV ap pm an am ct) ps sp:=by
 refine⟨len,fun A c s H Z Y vs Q E i d F r z=>?_⟩;have R:=len _ _ _ _ z;have m:K.In s.heap:=d.mod.kin.keeps fun b o e=>(d.bs b o e).1;have W:s.heap.NoLimit:=d.mod.nolimit.keeps fun b o e=>(d.bs b o e).1;have O:∀y∈ps.zip Y,scope.names.lookup y.1=some .local\/(scope.names.lookup y.1=some .cell/\((cK (s.heap.objs.size+1) scope.names []).lookup y.1).isSome=true):=fun⟨n,v⟩ U=>by
  rcases S.par n (z7 U).1 with q|q;·exact .inl q
  ·exact .inr ⟨q,DT _ _ _ (.inl q)⟩
 refine codeAny_call_function i.depth (m _ _ X) rfl S.co S.gen rfl (PySem.W.codeRec_of m L) (F _ _ _ _ ?_);refine wpAny_newFunctionEnv_cells S.kind O fun a0 M C x=>?_;subst M;refine⟨W.keeps x.toInCall.keep,codeAny_func ?_⟩;obtain⟨t,T,hq⟩:=G A c s H vs Q E (i.deeper _) z;have I:Inv (Bl CX P w K mg base N qual scope f am A c s H E) [] (start N vs) H C:=II S i.hd d R r x;refine cZ (T [] C (start N vs) H _ I hq) (fun D l a=>?_) fun e l a=>a;have p:∀{g:St}{H':Hp}{v:V}{u:Value},Inv (Bl CX P w K mg base N qual scope f am A c s H E) [] g H' l->RelV v u->Q v H'->CE c P w H s Q u l:=
  fun{g H' v u} J j q=>⟨v,H',J.os,J.bare,J.base,J.hok,j,q⟩
 cases D with
 |ret u=>obtain⟨v,g,H',J,j,q⟩:=a;exact p J j q
 |next =>obtain⟨g,H',J,q⟩:=a;exact p (v:=V.non) (u:=bJ) J rfl q
 |brk=>obtain⟨_,_,_,q⟩:=a;exact hV q
 |cont=>obtain⟨_,_,_,q⟩:=a;exact hV q
section
variable {X:Cx}{x:Str}{p:Pos}{es:List Expr}{t:TA}{id T:String}{r:List V->Hp->VK->Prop}
def tCB(r:List V->Hp->VK->Prop)(t:TA):TE:=fun σ H Q=>t σ H fun vs H1=>r vs H1 Q
def La(g:fV X (.builtin id) r)(k:Gl X x)(l:X.mg x=none)(o:fP x=some (.builtin id))(f:PA X (e::es) t)(m:x≠"__name__":=by decide) (i:(x==("__debug__":Str))=false:=by decide)
  (j:bB (e::es) X.env=(false,eval e X.env)::bB es X.env:=by rfl) (n:(backTo pos (bB es X.env)).any (·.1)=false:=by rfl):PE X (.Call (.Name x p) (e::es) [] pos) (tCB r t):=by
 intro a s b H Q I h;refine gP (lC I k l o ?_ m i);exact i6 (thn (f pos a s b H _ I h) fun w v ⟨y,c,d,u,q⟩=>g a v b c y w Q d u q) j n
def Ie(g:fV X (.type T) r)(k:Gl X x)(l:X.mg x=none)(o:fP x=some (.type T))(f:PA X (e::es) t)(m:x≠"__name__":=by decide) (i:(x==("__debug__":Str))=false:=by decide)
  (j:bB (e::es) X.env=(false,eval e X.env)::bB es X.env:=by rfl) (n:(backTo pos (bB es X.env)).any (·.1)=false:=by rfl):PE X (.Call (.Name x p) (e::es) [] pos) (tCB r t):=by
 intro a s b H Q I h;refine gP (lC I k l o ?_ m i);exact di (thn (f pos a s b H _ I h) fun w v ⟨y,c,d,u,q⟩=>g a v b c y w Q d u q) j n
end
end L2
variable {X:L2.Cx}{H H' H1:L2.Hp}{σ:L2.St}{y:L2.V}{cs al ws xs ys zs:List L2.V}
namespace HT
open PySem PyProof.Rows
section
open PySem.SeqAt
open PySem.AutoSeq1 (wpAny_loadPart')
open PySem.MeetsSeq PySem.MeetsSeq2 PySem.MeetsSeq3
end
section
variable {E:Value->Shared->Prop}{s:Shared}
abbrev sIx(n d:Nat):Option Int->Nat
 |none=>d
 |some v=>if v<0 then(v+(n:Int)).toNat else min v.toNat n
theorem rQ(n d:Nat):sIx n d none=d:=rfl
def pB(n d k:Nat):sIx n d (some (k:Int))=min k n:=by show(if(k:Int)<0 then((k:Int)+(n:Int)).toNat else min (k:Int).toNat n)=min k n;rw[if_neg (by lia),aN]
def Ko(n d:Nat)(a:d<=n)(o:Option Int):sIx n d o<=n:=by
 cases o with
 |none=>exact a
 |some v=>
  show(if v<0 then(v+(n:Int)).toNat else min v.toNat n)<=n;by_cases hv:v<0;·rw[if_pos hv];lia
  ·rw[if_neg hv];exact Nat.min_le_right _ _
def clip_eq(v:Int)(n d:Nat):(if v<0 then max (v+(n:Int)) 0 else min v (n:Int))=((sIx n d (some v):Nat):Int):=by
 show(if v<0 then max (v+(n:Int)) 0 else min v (n:Int))=(((if v<0 then(v+(n:Int)).toNat else min v.toNat n):Nat):Int);by_cases hv:v<0;·simp only[if_pos hv];lia
 ·simp only[if_neg hv];lia
end
end HT
namespace L2
open PySem PySem.Spec PyProof.Rows
noncomputable abbrev TO:=St->Hp->(Option Int->Hp->Prop)->Prop
def PO(X:Cx)(e:Option Expr)(t:TO):Prop:=
 ∀(pins:List (Addr×Obj))(s:Shared)(σ:St)(H:Hp)(Q:Option Int->Hp->Prop),Inv X pins σ H s->t σ H Q->
  wpAny (model X.prog X.w) X.A (evalPart e X.env) (fun u s'=>∃o H',Inv X pins σ H' s'/\IsPart u o/\Q o H') X.xe s
def Ae:TO:=fun _ H Q=>Q none H
def J0(t:TE):TO:=fun σ H Q=>t σ H fun x H1=>∃i,x=.int i/\Q (some i) H1
def intsAre_of:∀{us:List Value},bM (ns.map V.int) us->cj us ns:=by
 induction ns with
 |nil=>intro us r;rw[lz]at r;cases r;exact .nil
 |cons n ns ih=>
  intro us r;rw[b7]at r;cases r with
  |cons r1 r2=>obtain⟨t,e⟩:=r1;subst e;exact .cons n t (ih r2)
section
variable {te:TE}{lo hi:Option Expr}{tl th:TO}{p2:Pos}
def po_none:PO X none Ae:=by intro a s b H Q I h;rw[evalPart_none];exact aj ⟨none,H,I,.none,h⟩
def po_some(h:PE X e te):PO X (some e) (J0 te):=by intro d s j H Q I c;rw[evalPart_some];refine thn (h d s j H _ I c) fun u k ⟨x,a,b,g,f⟩=>?_;obtain⟨i,rfl,q⟩:=f;obtain⟨t,rfl⟩:=g;exact⟨some i,a,b,.int i t,q⟩
def SlR(X:Cx)(r:V->Option Int->Option Int->Hp->VK->Prop):Prop:=
 ∀(pins:List (Addr×Obj))(s:Shared)(σ:St)(H:Hp)(x:V)(v a b:Value)(lo hi:Option Int)(sl:Addr)(Q:VK),Inv X pins σ H s->RelV x v->s.heap.IsSliceOf sl a b .none->IsPart a lo->IsPart b hi->r x lo hi H Q->
  ∃T id,typeLookup (.type T) "__getitem__"=pure (some (.builtin id))/\s.TypeIs v T/\wpAny (model X.prog X.w) X.A (getItem v (.ref sl)) (EP X pins σ Q) X.xe s
def SlR.or{r r':V->Option Int->Option Int->Hp->VK->Prop}(h:SlR X r)(h':SlR X r'):SlR X (fun x lo hi H Q=>r x lo hi H Q\/r' x lo hi H Q):=by
 intro b s j H x v g i lo hi f Q I e a c d q;rcases q with q|q;·exact h b s j H x v g i lo hi f Q I e a c d q
 ·exact h' b s j H x v g i lo hi f Q I e a c d q
def tSl(r:V->Option Int->Option Int->Hp->VK->Prop)(te:TE)(tl th:TO):TE:=fun σ H Q=>te σ H fun x H1=>tl σ H1 fun l H2=>th σ H2 fun u a=>r x l u a Q
def K3{r:V->Option Int->Option Int->Hp->VK->Prop}(z:SlR X r)(t:PE X e te)(y:PO X lo tl)(B:PO X hi th):PE X (.Subscript e (.Slice lo hi none p2) pos) (tSl r te tl th):=by intro c s d H Q I h;refine Subscript_ (thn (t c s d H _ I h) fun v K ⟨x,i,k,J,E⟩=>?_);refine wpAny_Slice (thn (y c K d i _ k E) fun f L ⟨l,j,m,C,F⟩=>thn (B c L d j _ m F) fun vu a ⟨u,g,n,D,G⟩=>?_);rw[evalPart_none];refine aj ?_;have o:Inv X c d g {a with heap:=a.heap.push {cls:=.type "slice",data:=.fields #[f,vu,.none]}}:=n.kept (t':=a.toks) fun b M q=>ag _ q;obtain⟨T,id,p,A,w⟩:=z c {a with heap:=a.heap.push {cls:=.type "slice",data:=.fields #[f,vu,.none]}} d g x v f vu l u a.heap.objs.size Q o J (Heap.IsSliceOf.new ..) C D G;show wpAny (model X.prog X.w) X.A (MZ e (.Slice lo hi none p2) v (.ref a.heap.objs.size)) (EP X c d Q) X.xe {a with heap:=a.heap.push {cls:=.type "slice",data:=.fields #[f,vu,.none]}};exact tail_any (ops:=[.ref a.heap.objs.size,v]) A p w (by with_unfolding_all rfl)
abbrev pX(xs:List V)(lo hi:Option Int):List V:=(xs.drop (HT.sIx xs.length 0 lo)).take (HT.sIx xs.length xs.length hi-HT.sIx xs.length 0 lo)
def uS(xs:List V)(lo hi:Option Int):(pX xs lo hi).length<=xs.length:=by unfold pX;rw[dz,cR];lia
end
abbrev ixN(n:Nat)(i:Int):Option Nat:=if 0<=i then(if i<n then some i.toNat else none)else if -(n:Int)<=i then some (i+n).toNat else none
abbrev atI{α:Type}(xs:List α)(i:Int):Option α:=(ixN xs.length i).bind fun j=>xs[j]?
def ixN_seq{i:Int}(h:ixN n i=some j):seqIndex? i n=some j/\j<n∧-(n:Int)<=i/\i<n:=by
 unfold ixN at h;by_cases h0:0<=i
 ·rw[if_pos h0]at h;by_cases h1:i<n;·rw[if_pos h1]at h;have e:i.toNat=j:=bo h;exact⟨by rw[D1 h0 h1,e],by lia,by lia,h1⟩
  ·rw[if_neg h1]at h;cases h
 ·rw[if_neg h0]at h;by_cases h1: -(n:Int)<=i;·rw[if_pos h1]at h;have e:(i+n).toNat=j:=bo h;exact⟨by rw[seqIndex_neg (by lia) h1,e],by lia,h1,by lia⟩
  ·rw[if_neg h1]at h;cases h
def By{a:Type}{xs:List a}{i:Int}{v:a}(h:atI xs i=some v):∃j,seqIndex? i xs.length=some j/\xs[j]? =some v/\j<xs.length∧-(xs.length:Int)<=i/\i<xs.length:=by
 unfold atI at h;cases e:ixN xs.length i with
 |none=>rw[e]at h;cases h
 |some j=>rw[e]at h;obtain⟨b,c,d,f⟩:=ixN_seq e;exact⟨j,b,h,c,d,f⟩
def cf{a:Type}{xs:List a}{v:a}(h:xs[j]? =some v):atI xs (j:Int)=some v:=by
 have b:j<xs.length:=(aC.mp h).1;have e:ixN xs.length (j:Int)=some j:=by unfold ixN;rw[if_pos (by lia),if_pos (by lia)];simp
 unfold atI;rw[e];exact h
def Hk(b:Expr):Prop:=∀o i,subscripted b false o i=operate [o,i] (getItem o i)
def IxR(X:Cx)(r:R2):Prop:=
 ∀(value a:Expr)(pins:List (Addr×Obj))(s:Shared)(σ:St)(H:Hp)(x y:V)(v u:Value)(Q:VK),Inv X pins σ H s->RelV x v->RelV y u->r x y H Q->
  subscripted a false v u=operate [v,u] (getItem v u)->wpAny (model X.prog X.w) X.A (MZ value a v u) (EP X pins σ Q) X.xe s
def MtR(X:Cx)(id:String)(r:V->List V->Hp->VK->Prop):Prop:=
 ∀(pins:List (Addr×Obj))(s:Shared)(σ:St)(H:Hp)(x:V)(xs:List V)(v:Value)(us:List Value)(Q:VK),Inv X pins σ H s->RelV x v->bM xs us->r x xs H Q->
  wpAny (model X.prog X.w) X.A (call (.builtin id) (v::us)) (EP X pins σ Q) X.xe s
section
variable {a b:Expr}{ta tb:TE}
def IxR.or{r r':R2}(h:IxR X r)(h':IxR X r'):IxR X (fun x y H Q=>r x y H Q\/r' x y H Q):=by
 intro f e b s g H x y v u Q I c d q a;rcases q with q|q;·exact h f e b s g H x y v u Q I c d q a
 ·exact h' f e b s g H x y v u Q I c d q a
def MtR.or{id:String}{r r':V->List V->Hp->VK->Prop}(h:MtR X id r)(h':MtR X id r'):MtR X id (fun x xs H Q=>r x xs H Q\/r' x xs H Q):=by
 intro a s e H x xs v d Q I c b q;rcases q with q|q;·exact h a s e H x xs v d Q I c b q
 ·exact h' a s e H x xs v d Q I c b q
def pe_ix{r:R2}(g:IxR X r)(e:PE X a ta)(f:PE X b tb)(i:Hk b):PE X (.Subscript a b pos) (tOp r ta tb):=by intro j s n H Q I h;exact Subscript_ (binT e f I h fun v u m x y c d k l q=>g a b j m n c x y v u Q d k l q (i _ _))
def rIxL(K:ah):R2:=fun x y H Q=>∃p xs i v,x=.ref p/\y=.int i/\SqL K H p xs/\atI xs i=some v/\Q v H
def rIxT(K:ah):R2:=fun x y H Q=>∃p xs i v,x=.ref p/\y=.int i/\SqT K H p xs/\atI xs i=some v/\Q v H
def rIxS:R2:=fun x y H Q=>∃z i c,x=.str z/\y=.int i/\z.length<=sizeLine/\atI z.cps.toList i=some c/\Q (.str ⟨#[c]⟩) H
def ix_list:IxR X (rIxL X.K):=by
 intro M L g s k H x y v u Q I D E h f;obtain⟨p,N,i,z,rfl,rfl,hq,o,q⟩:=h;cases D;obtain⟨t,rfl⟩:=E;obtain⟨B,r,c,K⟩:=I.list hq;obtain⟨j,a,l,G,m,n⟩:=By o;obtain⟨w,d,C⟩:=r.get l;have A:=r.length;have J:=tU;have e:EP X g k Q w s:=⟨z,H,I,C,q⟩;by_cases h0:0<=i
 ·have b:i.toNat=j:=by rw[D1 h0 n]at a;exact bo a
  exact item_listR c.isList h0 (by lia) (by rw[b];simpa using d) e f
 ·have b:(i+(B.toArray.size:Int)).toNat=j:=by rw[seqIndex_neg (by lia) m]at a;rw[aD,<-A];exact bo a
  exact ti (x:=w) c.isList.typeIs slot_list_getitem.lookup
   (wpAny_getItem_list_neg (Q:=fun r F=>r=w/\EP X g k Q r F) c.isList (by lia) (by rw[aD]<;>lia) (by lia) (by rw[b];simpa using d) ⟨rfl,e⟩) f
def ix_tup:IxR X (rIxT X.K):=by
 intro L K a s c H x y v u Q I o A h m;obtain⟨p,M,i,z,rfl,rfl,hq,k,q⟩:=h;cases o;obtain⟨t,rfl⟩:=A;obtain⟨J,r,b,G⟩:=I.tuple hq;obtain⟨j,f,g,C,D,E⟩:=By k;obtain⟨w,d,n⟩:=r.get g;have l:=r.length;have F:=tU;have e:EP X a c Q w s:=⟨z,H,I,n,q⟩;exact ti (x:=w) b.typeIs slot_tuple_getitem.lookup
  (getItem_tuple (j:=j) (Q:=fun r B=>r=w/\EP X a c Q r B) b (by lia) (by lia) (by rw[aD,<-l];exact f) (by simpa using d) ⟨rfl,e⟩) m
def ix_str:IxR X rIxS:=by
 intro D B A s E H x y v u Q I n o h m;obtain⟨z,i,c,rfl,rfl,w,k,q⟩:=h;obtain⟨t,rfl⟩:=n;obtain⟨C,rfl⟩:=o;obtain⟨j,a,e,p,f,g⟩:=By k;have l:z.cps.toList.length=z.length:=by simp[DR]
 rw[l]at a f g;have r:=tU;exact tail_any (typeIs_str s z t) slot_str_getitem.lookup (getItem_str (c:=c) (by have b:decide (i< -(2^63:Int))=false:=decide_eq_false (by lia);have d:decide (i≥ 2^63)=false:=decide_eq_false (by lia);rw[b,d,Bool.or_false]) (by rw[a];simpa using e) ⟨.str ⟨#[c]⟩,H,I.tok _,⟨_,rfl⟩,q⟩) m
def rIx(K:ah):R2:=fun x y H Q=>rIxL K x y H Q\/rIxT K x y H Q\/rIxS x y H Q
def ix_seq:IxR X (rIx X.K):=ix_list.or (ix_tup.or ix_str)
def Ar(lo hi:Option Int)(n:Nat):(lL lo hi none n).1=((HT.sIx n 0 lo:Nat):Int)/\(lL lo hi none n).2.1=((HT.sIx n n hi:Nat):Int)/\(lL lo hi none n).2.2=1:=by
 refine⟨?_,?_,rfl⟩
 ·cases lo with
  |none=>simp[lL,HT.sIx]
  |some i=>
   simp only[lL,HT.sIx,vX,show(1:Int)>0 by decide,if_true];by_cases h:i<0;·simp only[h,if_true]<;>lia
   ·simp only[h,if_false]<;>lia
 ·cases hi with
  |none=>simp[lL,HT.sIx]
  |some i=>
   simp only[lL,HT.sIx,vX,show(1:Int)>0 by decide,if_true];by_cases h:i<0;·simp only[h,if_true]<;>lia
   ·simp only[h,if_false]<;>lia
def yz(a:List Value)(lo hi:Option Int):slicePick a.toArray lo hi none=((a.drop (HT.sIx a.length 0 lo)).take (HT.sIx a.length a.length hi-HT.sIx a.length 0 lo)).toArray:=by obtain⟨b,c,d⟩:=Ar lo hi a.toArray.size;unfold slicePick;rw[b,c,d];simp only[sliceRange_one,pick_run,aD]<;>rfl
def rSlL(K:ah):V->Option Int->Option Int->Hp->VK->Prop:=fun x lo hi H Q=>∃a xs,x=.ref a/\SqL K H a xs/\∀p,H p=none->Q (.ref p) (upd H p (.lst (pX xs lo hi)))
def sl_list:SlR X (rSlL X.K):=by intro p s y H x v u w lo hi t Q I l f j k h;obtain⟨a,c,rfl,g,q⟩:=h;cases l;obtain⟨m,r,d,i⟩:=I.list g;have e:=r.length;refine⟨"list",_,slot_list_getitem.lookup,d.isList.typeIs,?_⟩;refine wpAny_getItem_list_slice d.isList f j k .none (by simp) ?_ (by rw[aD]<;>lia);rw[yz,<-e];refine⟨.ref s.heap.objs.size,_,I.laid (t':=s.toks) (o:=.lst (pX c lo hi)) (fun b n q=>ag _ q) (aw _) ?_,rfl,q _ (I.hok.fresh (aw _))⟩;exact⟨aL (uS c lo hi) i,_,0,(r.drop (HT.sIx c.length 0 lo)).take (HT.sIx c.length c.length hi-HT.sIx c.length 0 lo),ay _ rfl⟩
abbrev qk:V->Bool
 |.non=>true
 |.bl _=>true
 |.int _=>true
 |.str _=>true
 |_=>false
abbrev eqV:V->V->Bool
 |.non,.non=>true
 |.bl a,.bl b=>a==b
 |.bl a,.int b=>(if a then 1 else 0)==b
 |.int a,.bl b=>a==(if b then 1 else 0)
 |.int a,.int b=>a==b
 |.str a,.str b=>a==b
 |_,_=>false
def gJ{x:V}{v:Value}(f:RelV y u)(c:RelV x v)(g:qk y=true)(e:qk x=true):Nb A s u v (eqV y x):=by
 cases y with
 |non=>
  cases f;cases x with
  |non=>cases c;exact Nb.same _
  |bl b=>cases c;exact Nb.none_bool b
  |int b=>obtain⟨t,rfl⟩:=c;exact Nb.none_int b t
  |str b=>obtain⟨t,rfl⟩:=c;exact Nb.none_str b t
  |_=>exact absurd (show false=true from e) ak
 |bl a=>
  cases f;cases x with
  |non=>cases c;exact Nb.bool_none a
  |bl b=>cases c;exact Nb.bool_bool a b
  |int b=>obtain⟨t,rfl⟩:=c;exact Nb.bool_int a b t
  |str b=>obtain⟨t,rfl⟩:=c;exact Nb.bool_str a b t
  |_=>exact absurd (show false=true from e) ak
 |int a=>
  obtain⟨d,rfl⟩:=f;cases x with
  |non=>cases c;exact Nb.int_none a d
  |bl b=>cases c;exact Nb.int_bool a d b
  |int b=>obtain⟨t,rfl⟩:=c;exact Nb.int_int a d b t
  |str b=>obtain⟨t,rfl⟩:=c;exact D5 a d b t
  |_=>exact absurd (show false=true from e) ak
 |str a=>
  obtain⟨d,rfl⟩:=f;cases x with
  |non=>cases c;exact Nb.str_none a d
  |bl b=>cases c;exact Nb.str_bool a d b
  |int b=>obtain⟨t,rfl⟩:=c;exact D4 a d b t
  |str b=>obtain⟨t,rfl⟩:=c;exact Nb.str_str a d b t
  |_=>exact absurd (show false=true from e) ak
 |_=>exact absurd (show false=true from g) ak
abbrev eqU(x:V)(u:Value):Bool:=match u with
 |.none=>eqV .non x
 |.bool b=>eqV (.bl b) x
 |.int i _=>eqV (.int i) x
 |.str z _=>eqV (.str z) x
 |_=>false
def Mr{x:V}(r:RelV y u)(f:qk y=true):eqU x u=eqV y x:=by
 cases y with
 |non=>cases r;rfl
 |bl b=>cases r;rfl
 |int i=>obtain⟨t,rfl⟩:=r;rfl
 |str z=>obtain⟨t,rfl⟩:=r;rfl
 |_=>exact absurd (show false=true from f) ak
theorem sY{x:V}:∀{xs:List V}{us:List Value},bM xs us->xs.all qk=true->us.any (eqU x)=xs.any fun y=>eqV y x
 |_,_,.nil,_=>rfl
 |y::xs,u::us,.cons r t,f=>by rw[j6,aF]at f;rw[nV,nV,Mr r f.1,sY t f.2]
theorem oE{x:V}{v:Value}(b:RelV x v)(a:qk x=true):∀{xs:List V}{us:List Value},bM xs us->xs.all qk=true->∀u∈us,Nb A s u v (eqU x u)
 |_,_,.nil,_=>fun u hu=>by cases hu
 |y::xs,u::us,.cons r t,f=>fun c hu=>by
  rw[j6,aF]at f;rcases aI.mp hu with rfl|hu;·rw[Mr r f.1];exact gJ r b f.1 a
  ·exact oE b a t f.2 c hu
abbrev inV(x:V)(xs:List V):Bool:=xs.any fun y=>eqV y x
def rIn(K:ah)(a:Bool):R2:=fun x y H Q=>∃p xs,y=.ref p/\(SqL K H p xs\/SqT K H p xs)/\qk x=true/\xs.all qk=true/\Q (.bl (if a then !inV x xs else inV x xs)) H
def Il:OpR X (cY .In) (rIn X.K false):=by
 intro i s k H x y v u Q I e g h;obtain⟨p,j,rfl,hq,d,fs,q⟩:=h;cases g;rcases hq with hq|hq;·obtain⟨a,r,c,f⟩:=I.list hq;refine SeqAt.in_listAt (eqU x) c.isList (fun w b=>oE e d r fs w (by simpa using b)) ⟨.bl _,H,I,rfl,?_⟩;rw[show a.toArray.any (eqU x)=a.any (eqU x) by simp,sY r fs];exact q
 ·obtain⟨a,r,c,f⟩:=I.tuple hq;refine SeqAt.in_tupleAt (eqU x) c (fun w b=>oE e d r fs w (by simpa using b)) ⟨.bl _,H,I,rfl,?_⟩;rw[show a.toArray.any (eqU x)=a.any (eqU x) by simp,sY r fs];exact q
def AS:OpR X (cY .NotIn) (rIn X.K true):=by
 intro i s k H x y v u Q I e g h;obtain⟨p,j,rfl,hq,d,fs,q⟩:=h;cases g;rcases hq with hq|hq;·obtain⟨a,r,c,f⟩:=I.list hq;refine Na (eqU x) c.isList (fun w b=>oE e d r fs w (by simpa using b)) ⟨.bl _,H,I,rfl,?_⟩;rw[show a.toArray.any (eqU x)=a.any (eqU x) by simp,sY r fs];exact q
 ·obtain⟨a,r,c,f⟩:=I.tuple hq;refine SeqAt.notIn_tupleAt (eqU x) c (fun w b=>oE e d r fs w (by simpa using b)) ⟨.bl _,H,I,rfl,?_⟩;rw[show a.toArray.any (eqU x)=a.any (eqU x) by simp,sY r fs];exact q
def AR:OpR X (cY .NotIn) (fun x y H Q=>∃i j,x=.str i/\y=.str j/\Q (.bl (!(!(iA j i 0 j.length 1).isEmpty))) H):=by intro c s e H x y v u Q I a b h;obtain⟨i,j,rfl,rfl,q⟩:=h;obtain⟨t,rfl⟩:=a;obtain⟨d,rfl⟩:=b;exact notIn_str ⟨.bl _,H,I,rfl,q⟩
def Br:fV X (.builtin "len") (fun xs H Q=>∃p ys,xs=[.ref p]/\(SqL X.K H p ys\/SqT X.K H p ys)/\Q (.int ys.length) H):=by
 intro i s k H xs j Q I r h;obtain⟨p,ys,rfl,hq,q⟩:=h;obtain⟨u,rfl,f⟩:=vals1 r;cases f;have g:=tU;rcases hq with hq|hq;·obtain⟨e,c,b,d⟩:=I.list hq;have a:=c.length;exact Calls.call_len_list b.isList (by simp only[aD]<;>lia) ⟨.int ys.length,H,I.tok _,⟨s.toks+1,by rw[aD,a]⟩,q⟩
 ·obtain⟨e,c,b,d⟩:=I.tuple hq;have a:=c.length;exact len_tuple b (by simp only[aD]<;>lia) ⟨.int ys.length,H,I.tok _,⟨s.toks+1,by rw[aD,a]⟩,q⟩
def Bq:fV X (.builtin "len") (fun xs H Q=>∃z,xs=[.str z]/\z.length<=sizeLine/\Q (.int z.length) H):=by intro c s e H xs d Q I r h;obtain⟨z,rfl,b,q⟩:=h;obtain⟨u,rfl,t,rfl⟩:=vals1 r;have a:=tU;exact len_str (by lia) ⟨.int z.length,H,I.tok _,⟨_,rfl⟩,q⟩
def fV.or{f:Value}{r r':List V->Hp->VK->Prop}(h:fV X f r)(h':fV X f r'):fV X f (fun xs H Q=>r xs H Q\/r' xs H Q):=by
 intro a s d H xs c Q I b q;rcases q with q|q;·exact h a s d H xs c Q I b q
 ·exact h' a s d H xs c Q I b q
def Bp:fV X (.type "list") (fun xs H Q=>∃p ys,xs=[.ref p]/\(SqL X.K H p ys\/SqT X.K H p ys)/\∀l,H l=none->Q (.ref l) (upd H l (.lst ys))):=by
 intro y s A H xs B Q I r h;obtain⟨p,ys,rfl,hq,q⟩:=h;obtain⟨u,rfl,z⟩:=vals1 r;cases z;have v:∀(c:List Value),bM ys c->ys.length<=sizeLine->∀(a:Heap)(d:Nat),(∀b w,s.heap.get? b=some w->a.get? b=some w)->
   a.get? s.heap.objs.size=some {cls:=.type "list",dict:=none,data:=.seq c.toArray d,slots:= #[]}->EP X y A Q (.ref s.heap.objs.size) {s with heap:=a}:=fun c f g a d i e=>
  ⟨.ref s.heap.objs.size,_,I.laid (t':=s.toks) i (aw _) (show dO X.prog X.w _ a _ (.lst ys)from⟨g,c,d,f,e⟩),rfl,q _ (I.hok.fresh (aw _))⟩
 rcases hq with hq|hq;·obtain⟨c,f,t,g⟩:=I.list hq;have x:=f.length;obtain⟨o,m,j,n,k⟩:=t.isList;exact call_list_seq p (.inl rfl) m j k (fun a d i e=>v c f g a d i e) (by simp only[aD]<;>lia)
 ·obtain⟨c,f,t,g⟩:=I.tuple hq;have x:=f.length;obtain⟨o,m,j,n,k⟩:=t;exact call_list_seq p (.inr rfl) m j k (fun a d i e=>v c f g a d i e) (by simp only[aD]<;>lia)
def yJ:fV X (.type "tuple") (fun xs H Q=>∃p ys,xs=[.ref p]/\((SqL X.K H p ys/\∀l,H l=none->Q (.ref l) (upd H l (.tup ys)))\/(SqT X.K H p ys/\Q (.ref p) H))):=by
 intro j s k H xs w Q I r h;obtain⟨p,ys,rfl,h⟩:=h;obtain⟨u,rfl,t⟩:=vals1 r;cases t;rcases h with⟨hq,q⟩ |⟨hq,q⟩
 ·obtain⟨c,f,d,i⟩:=I.list hq;have v:=f.length;refine call_tuple_list d.isList (fun a n=>?_) (by simp only[aD]<;>lia);have g:Inv X j k H {s with heap:=a}:=I.kept (t':=s.toks) n;have m:Inv X j k (upd H a.objs.size (.tup ys)) {s with heap:=a.push {cls:=.type "tuple",data:=.seq c.toArray}}:=
   g.laid (t':=s.toks) (fun b o e=>ag _ e) (aw _) (show dO X.prog X.w _ _ _ (.tup ys)from⟨i,c,f,IsTup.new _ _⟩)
  exact⟨.ref a.objs.size,_,m,rfl,q _ (g.hok.fresh (aw _))⟩
 ·obtain⟨c,f,d,i⟩:=I.tuple hq;exact call_tuple_same d ⟨.ref p,H,I,rfl,q⟩
def tyV(K:ah)(T:String)(x:V)(H:Hp):Prop:=match x with
 |.str _=>T="str"
 |.int _=>T="int"
 |.ref p=>(T="list"/\∃xs,SqL K H p xs)\/(T="tuple"/\∃o,K.lookup p=some o/\o.cls=.type "tuple"/\o.dict=none)\/
   (T="dict"/\((∃kvs,H p=some (.dK kvs))\/∃kvs,H p=some (.dT kvs)))\/(T="set"/\∃S n,H p=some (.set S n))
 |_=>False
def tyV_is{T:String}{x:V}{v:Value}(I:Inv X pins σ H s)(r:RelV x v)(ty:tyV X.K T x H):
  s.TypeIs v T/\∀a,v=.ref a->∃h,s.heap.get? a=some h/\h.dict=none:=by
 cases x with
 |str z=>obtain⟨t,rfl⟩:=r;cases(show T="str" from ty);exact⟨typeIs_str s z t,fun _ e=>nomatch e⟩
 |int i=>obtain⟨t,rfl⟩:=r;cases(show T="int" from ty);exact⟨typeIs_int s i t,fun _ e=>nomatch e⟩
 |ref p=>
  cases r;rcases ty with⟨rfl,q,hq⟩ |⟨rfl,o,b,k,g⟩ |⟨rfl,b⟩ |⟨rfl,S,n,b⟩;·obtain⟨m,_,j,_⟩:=I.list hq;refine⟨j.isList.typeIs,fun a e=>?_⟩;cases e;obtain⟨o,n,e,c,g,_⟩:=j;exact⟨o,e,g⟩
  ·refine⟨⟨o,I.kIn p o b,k⟩,fun a e=>?_⟩;cases e;exact⟨o,I.kIn _ o b,g⟩
  ·have z:∃o,s.heap.get? p=some o/\o.ExactDict:=by
    rcases b with⟨l,b⟩ |⟨l,b⟩;·obtain⟨_,_,_,_,o,_,_,e,d,_⟩:=I.hok p _ b;exact⟨o,e,d⟩
    ·obtain⟨_,_,_,_,o,_,_,e,d,_⟩:=I.hok p _ b;exact⟨o,e,d⟩
   obtain⟨o,e,d⟩:=z;refine⟨⟨o,e,d.1⟩,fun a f=>?_⟩;cases f;exact⟨o,e,d.2.1⟩
  ·obtain⟨o,_,_,_,e,d,_⟩:=I.hok p _ b;refine⟨⟨o,e,d.1⟩,fun a f=>?_⟩;cases f;exact⟨o,e,d.2.1⟩
 |_=>exact hV ty
def tBM(K:ah)(T:String)(r:V->List V->Hp->VK->Prop)(to:TE)(t:TA):TE:=fun σ H Q=>to σ H fun x H1=>tyV K T x H1/\t σ H1 fun xs H2=>r x xs H2 Q
variable {es:List Expr}{to:TE}{t:TA}{name:Str}{apos cpos:Pos}{T id:String}{r:V->List V->Hp->VK->Prop}
def pe_bm(B:PlainAttrs T)(slot:Slot T name id)(A:typeOf (.builtin id)=pure (.type "method_descriptor"))(u:MtR X id r)(w:PE X o to)(m:PA X (e::es) t)
  (n:M1 o name X.env (eval o X.env)=eval o X.env:=by rfl)
  (p:((backTo cpos (bB (e::es) X.env)).all (fun x=> !x.1)&&(BH cpos (pP [] X.env)).all (fun x=>x.1.isSome)
   &&decide ((e::es).length+([]:List Keyword).length+(if([]:List Keyword).isEmpty then 0 else 1)<30))=true:=by rfl)
  (q:(apos.endLine==cpos.line)=true:=by rfl) (z:bB (e::es) X.env=(false,eval e X.env)::bB es X.env:=by rfl) (y:(backTo cpos (bB es X.env)).any (·.1)=false:=by rfl):
  PE X (.Call (.Attribute o name apos) (e::es) [] cpos) (tBM X.K T r to t):=by
 intro a s b H Q I h;refine wpAny_Call_method_late n p q rfl (thn (w a s b H _ I h) fun v F ⟨x,g,c,f,ty,C⟩=>?_);obtain⟨k,l⟩:=tyV_is c f ty;refine⟨T,id,B,slot,A,k,l,?_⟩;have d:=m cpos a F b g _ c C;rw[z]at d⊢;refine Calls.callWith_builtin (by show(false||(backTo cpos (bB es X.env)).any (·.1))=false;rw[y]<;>rfl) (Calls.evalArgs_plain ?_);exact thn d fun J G ⟨K,i,j,E,D⟩=>u a G b i x K v J Q j f E D
end
def MtM(X:Cx)(id:String)(r:V->List V->Hp->VK->Prop):Prop:=
 ∀(pins:List (Addr×Obj))(s:Shared)(σ:St)(H:Hp)(x:V)(xs:List V)(v:Value)(us:List Value)(Q:VK),Inv X pins σ H s->RelV x v->bM xs us->r x xs H Q->
  wpAny (model X.prog X.w) X.A (call (.builtin id) (v::us)) (EP X pins σ Q) X.xe s
def bM.one{x:V}(h:bM [x] us):∃u,us=[u]/\RelV x u:=by
 cases h with
 |cons r k=>cases k with
  |nil=>exact⟨_,rfl,r⟩
def bM.two{x:V}(h:bM [x,y] us):∃u v,us=[u,v]/\RelV x u/\RelV y v:=by
 cases h with
 |cons r k=>obtain⟨v,e,q⟩:=bM.one k;exact⟨_,v,by rw[e],r,q⟩
def bM.zero:∀{us:List Value},bM [] us->us=[]
 |_,.nil=>rfl
theorem bM.eraseIdx:∀{xs:List V}{us:List Value}(i:Nat),bM xs us->bM (xs.eraseIdx i) (us.eraseIdx i)
 |_,_,_,.nil=>.nil
 |_,_,0,.cons _ t=>t
 |_,_,i+1,.cons r t=>.cons r (bM.eraseIdx i t)
theorem bM.reverse(h:bM xs us):bM xs.reverse us.reverse:=by
 induction h with
 |nil=>exact .nil
 |cons r t ih=>rw[vZ,vZ];exact bM.append ih (.cons r .nil)
theorem bM.rep(h:bM xs us):∀k:Nat,bM (bz k xs).flatten (bz k us).flatten
 | 0=>.nil
 |k+1=>by rw[dP,dP,jr,jr];exact bM.append h (bM.rep h k)
theorem zu{a:Type}:∀(l:List a)(i:Nat),(l.eraseIdx i).length<=l.length
 | [],_=>aw _
 |_::_,0=>dU _
 |_::r,i+1=>yP (zu r i)
theorem foldl_rep(a:List Value):∀(k:Nat)(ac:List Value),
  List.foldl (fun c d=>c++d) ac.toArray (bz k a.toArray)=(ac++(bz k a).flatten).toArray
 | 0,ac=>by simp
 |k+1,ac=>by
  have e:ac.toArray++a.toArray=(ac++a).toArray:=by simp
  have b:(ac++a)++(bz k a).flatten=ac++(bz (k+1) a).flatten:=by rw[dP,jr,nr]
  rw[<-b,<-foldl_rep a k (ac++a),<-e,dP,dR]
section
variable {pins:List (Addr×Obj)}{s:Shared}{l b:Addr}
def Inv.LA{f:Array Value->Array Value}(I:Inv X pins σ H s)(a:H l=some (.lst xs))
  (e:s.heap.get? l=some {cls:=.type "list",data:=.seq ad.toArray n}) (hf:f ad.toArray=its'.toArray) (d:bM ys its') (hz:ys.length<=sizeLine):
  Inv X pins σ (upd H l (.lst ys)) {s with heap:=s.heap.update l (bf f),toks:=t'}:=by
 have q:=Jy e f;rw[hf]at q;refine I.write (x:=l) (e:=l) (by rw[a];exact trivial) (.inl rfl) (fun g u b c=>(aS s.heap (bf f) (bI b)).trans c) ⟨_,q⟩ ?_;exact⟨hz,its',_,d,q⟩
def Inv.lnew(I:Inv X pins σ H s)(a:bM ys ad)(hz:ys.length<=sizeLine):
  Inv X pins σ (upd H s.heap.objs.size (.lst ys)) {s with heap:=s.heap.push {cls:=.type "list",data:=.seq ad.toArray},toks:=t'}:=
 I.laid (fun _ _ q=>ag _ q) (aw _) ⟨hz,ad,0,a,ay _ rfl⟩
theorem Inv.fresh(I:Inv X pins σ H s):H s.heap.objs.size=none:=I.hok.fresh (aw _)
def Inv.A3(I:Inv X pins σ H s)(a:H l=some (.lst xs)):xs.length<=sizeLine/\∃(ad:List Value)(n:Nat),bM xs ad/\xs.length=ad.length/\s.heap.get? l=some {cls:=.type "list",data:=.seq ad.toArray n}:=by obtain⟨z,ad,n,r,e⟩:=I.hok l _ a;exact⟨z,ad,n,r,r.length,e⟩
def CA(h:n<=sizeLine):gW n=false:=by unfold gW;exact decide_eq_false (by lia)
end
section
def Ge:V->List V->Hp->VK->Prop:=fun x vs H Q=>∃l xs y,x=.ref l/\vs=[y]/\H l=some (.lst xs)/\xs.length<sizeLine/\Q .non (upd H l (.lst (xs++[y])))
def Iy:MtM X "list.append" Ge:=by intro j s p H x m v k Q I f d h;obtain⟨l,o,y,rfl,rfl,a,i,q⟩:=h;cases f;obtain⟨u,rfl,c⟩:=d.one;obtain⟨z,b,n,r,g,e⟩:=I.A3 a;refine kT F.slot_list_append ⟨_,e,rfl⟩ F.entry_list_append (F.args_list_append_2 _ _) (PySem.list_append l b.toArray n u (by rw[aD];lia)) ⟨e,?_⟩;refine⟨.non,_,I.LA (its':=b++[u]) a e (by simp) (r.append (.cons c .nil)) ?_,rfl,q⟩;rw[bj,dj];lia
def Gd:V->List V->Hp->VK->Prop:=fun x vs H Q=>∃l b xs zs,x=.ref l/\vs=[.ref b]/\H l=some (.lst xs)/\H b=some (.lst zs)/\xs.length+zs.length<=sizeLine/\Q .non (upd H l (.lst (xs++zs)))
def Iw:MtM X "list.extend" Gd:=by
 intro B s K H x D v C Q I t p h;obtain⟨l,b,E,J,rfl,rfl,d,g,A,q⟩:=h;cases t;obtain⟨u,rfl,o⟩:=p.one;cases o;obtain⟨z,a,n,r,w,e⟩:=I.A3 d;obtain⟨G,c,k,m,y,f⟩:=I.A3 g;have j:a.toArray.size+c.toArray.size<=sizeLine:=by rw[aD,aD];lia
 have i:¬(!a.toArray.isEmpty&&gW (a.toArray.size+c.toArray.size))=true:=by rw[CA j,fT];exact ak
 refine kT F.slot_list_extend ⟨_,e,rfl⟩ F.entry_list_extend (F.args_list_extend_2 _ _)
  (AutoSeq1.list_extend_list_list_0 l a.toArray n b c.toArray k i (by rw[aD];lia) (by lia)) ⟨e,f,?_⟩
 refine⟨.non,_,I.LA (its':=a++c) d e (by simp) (r.append m) ?_,rfl,q⟩;rw[bj];lia
def KL:V->List V->Hp->VK->Prop:=fun x vs H Q=>∃l xs i k y,x=.ref l/\vs=[.int i]/\H l=some (.lst xs)∧-(2^63)<=i/\i<2^63/\seqIndex? i xs.length=some k/\xs[k]? =some y/\Q y (upd H l (.lst (xs.eraseIdx k)))
def Lr:MtM X "list.pop" KL:=by
 intro D s J H x G v E Q I B p h;obtain⟨l,C,i,k,y,rfl,rfl,b,c,d,f,m,q⟩:=h;cases B;obtain⟨u,rfl,o⟩:=p.one;obtain⟨t,rfl⟩:=o;obtain⟨z,a,n,r,g,e⟩:=I.A3 b;obtain⟨w,j,A⟩:=r.get m;refine kT F.slot_list_pop ⟨_,e,rfl⟩ F.entry_list_pop (F.args_list_pop_2 _ _)
  (MeetsSeq.list_pop_at l a.toArray n i t k w (fitsIndex_both c d) (by rw[aD,<-g];exact f) (by rw[<-Hv];exact j) (by rw[aD];lia)) ⟨e,?_⟩
 refine⟨y,_,I.LA (its':=a.eraseIdx k) b e ?_ (r.eraseIdx k) ?_,A,q⟩;·show a.toArray.eraseIdxIfInBounds k=(a.eraseIdx k).toArray;rw[List.eraseIdxIfInBounds_toArray]
 ·have :=zu C k;lia
def Cf:V->List V->Hp->VK->Prop:=fun x vs H Q=>∃l xs,x=.ref l/\vs=[]/\H l=some (.lst xs)/\Q .non (upd H l (.lst xs.reverse))
def ER:MtM X "list.reverse" Cf:=by intro i s o H x k v j Q I f d h;obtain⟨l,m,rfl,rfl,a,q⟩:=h;cases f;have c:=d.zero;subst c;obtain⟨z,b,n,r,g,e⟩:=I.A3 a;refine kT F.slot_list_reverse ⟨_,e,rfl⟩ F.entry_list_reverse (F.args_list_reverse_1 _) (AutoSeq1.list_reverse_list_0 l b.toArray n (by rw[aD];lia)) ⟨e,?_⟩;refine⟨.non,_,I.LA (its':=b.reverse) a e (by simp) r.reverse ?_,rfl,q⟩;rw[List.length_reverse];lia
def KN:V->List V->Hp->VK->Prop:=fun x vs H Q=>∃l xs,x=.ref l/\vs=[]/\H l=some (.lst xs)/\Q .non (upd H l (.lst []))
def Ls:MtM X "list.clear" KN:=by intro i s o H x k v j Q I f d h;obtain⟨l,m,rfl,rfl,a,q⟩:=h;cases f;have b:=d.zero;subst b;obtain⟨z,c,n,r,g,e⟩:=I.A3 a;refine kT F.slot_list_clear ⟨_,e,rfl⟩ F.entry_list_clear (F.args_list_clear_1 _) (AutoSeq1.list_clear_list_0 l c.toArray n (by rw[aD];lia)) ⟨e,?_⟩;exact⟨.non,_,I.LA (its':=[]) (ys:=[]) a e rfl .nil (aV _),rfl,q⟩
def rCat:R2:=fun x y H Q=>∃l b xs zs,x=.ref l/\y=.ref b/\H l=some (.lst xs)/\H b=some (.lst zs)/\xs.length+zs.length<=sizeLine/\∀p,H p=none->Q (.ref p) (upd H p (.lst (xs++zs)))
def op_cat:OpR X (fQ .Add) rCat:=by
 intro A s E H x y v u Q I k m h;obtain⟨l,b,B,D,rfl,rfl,i,g,t,q⟩:=h;cases k;cases m;obtain⟨z,a,n,r,o,e⟩:=I.A3 i;obtain⟨C,c,w,j,p,d⟩:=I.A3 g;refine PySem.P.add_list e d ?_ (by rw[aD,aD];lia);have f:a.toArray++c.toArray=(a++c).toArray:=by simp
 rw[f];exact⟨.ref _,_,I.lnew (t':=s.toks) (r.append j) (by rw[bj];lia),rfl,q _ I.fresh⟩
def rRep:R2:=fun x y H Q=>∃l k xs,x=.ref l/\y=.int k/\H l=some (.lst xs)∧-(2^63)<=k/\k<2^63/\xs.length*k.toNat<=sizeLine/\
 ∀p,H p=none->Q (.ref p) (upd H p (.lst (bz k.toNat xs).flatten))
def len_rep{a:Type}(xs:List a)(k:Nat):(bz k xs).flatten.length=k*xs.length:=by
 induction k with
 |zero=>simp
 |succ k ih=>rw[dP,jr,bj,ih,Jz,Nat.add_comm]
def op_rep:OpR X (fQ .Mult) rRep:=by
 intro K s M H x y v u Q I E G h;obtain⟨l,k,L,rfl,rfl,o,i,j,f,q⟩:=h;cases E;obtain⟨t,rfl⟩:=G;obtain⟨z,b,n,r,A,e⟩:=I.A3 o;have B:b.toArray.size*k.toNat<=sizeLine:=by rw[aD,<-A];exact f
 have p:¬b.toArray.size*k.toNat>(2^63-1)/8:=by
  have :(sizeLine:Nat)<=(2^63-1)/8:=by decide
  lia
 have w:¬(!Builtin.List.listFitsIndex k)=true:=by rw[fitsIndex_both i j];exact ak
 have C:¬gW (b.toArray.size*k.toNat)=true:=by rw[CA B];exact ak
 have D:List.foldl (fun c d=>c++d) #[] (bz (if b.toArray.isEmpty=true then 0 else k.toNat) b.toArray)=(bz k.toNat b).flatten.toArray:=by
  have g:∀m:Nat,List.foldl (fun c d=>c++d) #[] (bz m b.toArray)=(bz m b).flatten.toArray:=fun m=>by have :=foldl_rep b m [];rw[List.nil_append]at this;exact this
  rw[g];cases b with
  |nil=>simp
  |cons a r'=>rw[if_neg (by simp)]
 refine wpAny_binaryOp_repeat_ref (T:="list") (U:="int") (by decide) ⟨_,e,rfl⟩ (fun J=>typeIs_int J k t) noFill_list_mul F.fills_int_mul F.slot_int_rmul repeat_list F.slot_int_index.lookup
  (kT F.slot_int_rmul (typeIs_int s k t) F.entry_int_rmul (F.args_int_rmul_2 _ _) (int___rmul___int_list k t l b.toArray n)
   ⟨e,rfl,⟨_,e,rfl⟩,kT F.slot_list_mul ⟨_,e,rfl⟩ F.entry_list_mul (F.args_list_mul_2 _ _) (AutoListH.list___mul___list_int_3 l b.toArray n k t w p C) ⟨e,?_⟩⟩)
 rw[D];exact⟨.ref _,_,I.lnew (t':=s.toks) (r.rep k.toNat) (by rw[len_rep,Nat.mul_comm];exact f),rfl,q _ I.fresh⟩
end
section
variable {κ:Type}[DecidableEq κ]
abbrev eR(kvs:List (κ×V))(k:κ):Option V:=(kvs.find? fun kv=>decide (kv.1=k)).map (·.2)
abbrev putK(kvs:List (κ×V))(k:κ)(v:V):List (κ×V):=
 if(kvs.any fun kv=>decide (kv.1=k))=true then kvs.map (fun kv=>if kv.1=k then(kv.1,v)else kv)else kvs++[(k,v)]
def hW{p:κ×V}{r:List (κ×V)}{k:κ}(e:p.1=k):eR (p::r) k=some p.2:=by simp[eR,iZ,e]
def hZ{p:κ×V}{r:List (κ×V)}{k:κ}(e:¬p.1=k):eR (p::r) k=eR r k:=by simp[eR,iZ,e]
theorem ki(k:κ):∀kvs:List (κ×V),(kvs.any fun kv=>decide (kv.1=k))=(eR kvs k).isSome
 | []=>rfl
 |p::r=>by
  rw[nV];by_cases e:p.1=k;·simp only[hW e,decide_eq_true e,Bool.true_or,gd]
  ·rw[hZ e,decide_eq_false e,bV];exact ki k r
theorem B2(k j:κ)(y:V):∀kvs:List (κ×V),eR (kvs.map fun kv=>if kv.1=k then(kv.1,y)else kv) j=(eR kvs j).map fun x=>if j=k then y else x
 | []=>rfl
 |p::r=>by
  have a:=B2 k j y r;rw[b7];by_cases h:p.1=k
  ·rw[if_pos h];by_cases e:p.1=j;·rw[hW (p:=(p.1,y)) e,hW e,kc,if_pos (e.symm.trans h)]
   ·rw[hZ (p:=(p.1,y)) e,hZ e,a]
  ·rw[if_neg h];by_cases e:p.1=j;·rw[hW (p:=p) e,hW e,kc,if_neg (fun z=>h (e.trans z))]
   ·rw[hZ (p:=p) e,hZ e,a]
theorem yR(k j:κ)(y:V):∀kvs:List (κ×V),eR kvs k=none->eR (kvs++[(k,y)]) j=if j=k then some y else eR kvs j
 | [],_=>by
  by_cases e:k=j;·rw[if_pos e.symm];exact hW (p:=(k,y)) e
  ·rw[if_neg (fun z=>e z.symm)];exact hZ (p:=(k,y)) e
 |p::r,hn=>by
  rw[yr];have a:¬p.1=k:=fun z=>by rw[hW z]at hn;cases hn
  rw[hZ a]at hn;have b:=yR k j y r hn;by_cases e:p.1=j;·rw[hW e,hW e,if_neg (fun z=>a (e.trans z))]
  ·rw[hZ e,hZ e,b]
def JQ(b:List (κ×V))(k j:κ)(y:V):eR (putK b k y) j=if j=k then some y else eR b j:=by
 unfold putK;by_cases a:(b.any fun d=>decide (d.1=k))=true
 ·rw[if_pos a,B2];rw[ki]at a;by_cases e:j=k;·obtain⟨x,c⟩:=cA.mp a;rw[if_pos e,e,c,kc,if_pos rfl]
  ·rw[if_neg e];cases eR b j with
   |none=>rfl
   |some x=>rw[kc,if_neg e]
 ·rw[if_neg a];refine yR k j y b ?_;rw[ki]at a;cases q:eR b k with
  |none=>rfl
  |some x=>rw[q]at a;exact(a rfl).elim
def uP(a:List (κ×V))(k:κ)(v:V):(putK a k v).length<=a.length+1:=by
 unfold putK;split;·rw[ai];lia
 ·rw[bj,bC,qa];lia
def KS{a:List (κ×V)}{k:κ}(v:V)(h:eR a k=none):putK a k v=a++[(k,v)]:=by unfold putK;rw[ki,h];exact if_neg (by decide)
def ur.IH{o:Option V}{u:Option Value}(r:ur o u):o.isSome=u.isSome:=by
 cases o with
 |none=>cases u with
  |none=>rfl
  |some _=>exact(show False from r).elim
 |some _=>cases u with
  |none=>exact(show False from r).elim
  |some _=>rfl
end
def LU{k:Key}(r:RelV (kV k) u):(cE P w).is k u=true:=by
 cases k with
 |inl i=>obtain⟨t,e⟩:=(show ∃t,u=yg i t from r);subst e;exact oB P w i t
 |inr x=>obtain⟨t,e⟩:=(show ∃t,u=i5 x t from r);subst e;exact CM P w x t
theorem tW:∀{ks:List Key}{us:List Value},bM (ks.map kV) us->ItemsAre (cE P w) ks us
 | [],_,r=>by rw[lz]at r;cases r;exact .nil
 |k::ks,_,r=>by
  rw[b7]at r;cases r with
  |cons h t=>exact .cons (LU h) (tW t)
noncomputable abbrev KT(H:Hp):List (List Key×V)->List (List Key×Addr×Value)->Prop:=Paired fun p q=>p.1=q.1/\H q.2.1=some (.tup (p.1.map kV))/\RelV p.2 q.2.2
def KT.val{d:List (List Key×V)}{xs:List (List Key×Addr×Value)}(r:KT H d xs)(k:List Key):ur (eR d k) ((atKey xs k).map (·.2)):=by
 induction r with
 |nil=>exact True.intro
 | @cons p q ps qs h t ih=>
  obtain⟨c,_,f⟩:=h;by_cases e:p.1=k
  ·have a:q.1=k:=c.symm.trans e;have b:atKey (q::qs) k=some q.2:=by simp[atKey,iZ,a]
   rw[hW e,b];exact f
  ·have a:¬q.1=k:=fun z=>e (c.trans z);have b:atKey (q::qs) k=atKey qs k:=by simp[atKey,iZ,a]
   rw[hZ e,b];exact ih
def KT.repl{c:List (List Key×V)}{xs:List (List Key×Addr×Value)}(r:KT H c xs)(k:List Key)(f:RelV y u):
  KT H (c.map fun kv=>if kv.1=k then(kv.1,y)else kv) (xs.map (putAt k u)):=by
 induction r with
 |nil=>exact .nil
 | @cons p q ps qs h t ih=>
  rw[b7,b7];refine .cons ?_ ih;obtain⟨a,b,d⟩:=h;unfold putAt;by_cases e:p.1=k;·rw[if_pos e,if_pos (a.symm.trans e)];exact⟨a,b,f⟩
  ·rw[if_neg e,if_neg (fun z=>e (a.trans z))];exact⟨a,b,d⟩
def KT.put{a:List (List Key×V)}{xs:List (List Key×Addr×Value)}(r:KT H a xs)(k:List Key)(d:H b=some (.tup (k.map kV)))(c:RelV y u):
  KT H (putK a k y) (storedH xs k b u):=by
 have e:(a.any fun f=>decide (f.1=k))=(atKey xs k).isSome:=by rw[ki,(r.val k).IH,Option.isSome_map]
 unfold putK storedH;rw[e];by_cases q:(atKey xs k).isSome=true;·rw[if_pos q,if_pos q];exact r.repl k c
 ·rw[if_neg q,if_neg q];exact Paired.snoc r ⟨rfl,d,c⟩
def KT.keeps{a:List (List Key×V)}{xs:List (List Key×Addr×Value)}(r:KT H a xs)(c:∀b ys,H b=some (.tup ys)->H' b=some (.tup ys)):KT H' a xs:=
 Paired.mZ r fun _ _ z=>⟨z.1,c _ _ z.2.1,z.2.2⟩
section
variable {a:Addr}
def rd_of{u:HO}(ok:HOk P w H h)(e:Rd H a u):dO P w H h a u:=e.ok ok
def LS{ks:List Key}(ok:HOk P w H h)(e:H a=some (.tup (ks.map kV))):(rA (cE P w)).is h ks a:=by obtain⟨_,f,r,o,b,c,n,d⟩:=(show dO P w H h a (.tup (ks.map kV))from ok a _ e);exact⟨o,f.toArray,n,b,c,d,by simpa using tW r⟩
def dt_rd{b:List (List Key×V)}(ok:HOk P w H h)(e:Rd H a (.dT b)):b.length<=sizeLine/\(a==gQ)=false/\
  ∃xs,KT H b xs/\h.DictOfH (rA (cE P w)) a xs:=by
 obtain⟨z,y,xs,r,o,d,c,f,g,i,j,k⟩:=(show dO P w H h a (.dT b)from rd_of ok e);refine⟨z,y,xs,r,o,d,c,f,g,i,j,fun x hx=>?_,k⟩;have all:∀{l:List (List Key×V)}{m:List (List Key×Addr×Value)},KT H l m->∀x∈m,(rA (cE P w)).is h x.1 x.2.1:=by
  intro l m q
  induction q with
  |nil=>intro x hx;exact nomatch hx
  | @cons p q ps qs hq t ih=>
   intro x hx;rcases aI.mp hx with e|hx;·subst e;exact LS ok (by rw[<-hq.1];exact hq.2.1)
   ·exact ih x hx
 exact all r x hx
def Mu{b:List (List Key×V)}(ok:HOk P w H h)(e:H a=some (.dT b)):b.length<=sizeLine/\(a==gQ)=false/\
  ∃xs,KT H b xs/\h.DictOfH (rA (cE P w)) a xs:=dt_rd ok (.inl e)
end
section
variable {pins:List (Addr×Obj)}{s:Shared}{a:Addr}{v:V}{u r:Value}{o:Option V}{E:Value->Shared->Prop}
def Inv.big(I:Inv X pins σ H s):gQ<s.heap.objs.size:=by have h:bH<s.heap.objs.size:=(I.mod.glob.keeps I.bk).lt;exact gA (by decide) h
def d_write{c:HO}(I:Inv X pins σ H s)(h:Mut (H a))(g:dq a s.heap h')(f:∃q,h'.get? a=some q)(i:dO X.prog X.w (upd H a c) h' a c):
  Inv X pins σ (upd H a c) {s with heap:=h',toks:=t'}:=
 I.write (x:=a) (e:=a) h (.inl rfl) (fun b q d z=>(g.2 b d).trans z) f i
end
def Mv(h:Heap)(a:gQ<h.objs.size):dO P w H (h.push {cls:=.type "dict",data:=.dict #[]}) h.objs.size (.dT []):=
 ⟨aV _,beq_eq_false_iff_ne.mpr (bI (aP a)),[],.nil,_,#[],0,ay _ rfl,⟨rfl,rfl,rfl⟩,rfl,rfl,jq⟩
def J3:TE:=fun _ H Q=>∀p,H p=none->Q (.ref p) (upd H p (.dT []))
section
def K7:PE X (.Dict [] [] pos) J3:=fun b s c H Q I h=>
 wpAny_Dict_empty ⟨.ref s.heap.objs.size,_,I.laid (a:=s.heap.objs.size) (o:=.dT []) (t':=s.toks) (fun _ _ q=>ag _ q) (aw _) (Mv s.heap I.big),rfl,h _ (I.hok.fresh (aw _))⟩
end
end L2
namespace Att
open PySem PySem.W PySem.Calls PyProof.Rows
def vk{P:Params}:∀(ns:List Int)(vs:List Value),WellAll P h vs (ns.map WData.int)->cj vs ns:=by
 intro ns
 induction ns with
 |nil=>intro vs w;rw[lz]at w;cases w;exact .nil
 |cons n ns ih=>
  intro vs w;rw[b7]at w;cases w with
  |cons a b=>cases a;exact .cons _ _ (ih _ b)
def HR{l:OpenLaw}(m:l.most=some n){P:Params}{args:List WData}{vals:List Value}
  (f:l.row.toRowW.claim.pre args=true)(p:WellAll P h vals args):
  ∃a vs ns,vals=[bE a]/\args=[WData.list (ns.map WData.int)]/\h.get? a=some {cls:=.type "list",data:=.seq vs.toArray}/\cj vs ns/\ns.length<=n:=by
 have o:WShape.hasAll [] args [.list .int]=true:=(pre_splitW f).1;have e:l.pre.holds [] {args:=args}=true:=(pre_splitW f).2;obtain⟨d,r,rfl,g,i⟩:=hasAllW_cons o;obtain rfl:=hasAllW_nil i;obtain⟨t,rfl,j⟩:=hasW_list g;obtain⟨ns,rfl⟩:=items_int j;have k:ns.length<=n:=by
  unfold OpenLaw.pre at e;have b:(WTm.not (.lt (.lit (.int (n:Int))) (.len (.arg 0)))).holds [] {args:=[.list (ns.map .int)]}=true:=by have b:=(holds_andW e).1;rw[m]at b;exact b
  have c:=condW_of b (w_not (w_lt w_lit (w_len_list (w_arg rfl))));rw[ai]at c;refine fY fun q=>?_;have s:(n:Int)<((ns.length:Nat):Int):=by lia
  first
   | (rw[decide_eq_true s]at c;exact absurd c (by decide))
   | (simp at c;lia)
 cases p with
 |cons w1 w2=>
  cases w2;cases w1 with
  |list ho hall=>exact⟨_,_,ns,rfl,rfl,ho,vk ns _ hall,k⟩
def Ia(l:OpenLaw)(args:List WData):l.row.toRowW.claim.post args (.bool true) args=true:=
 postW_of (r:=l.row.toRowW) (X:=(true==true))
  (show WShape.has [] (.bool true) .bool=true by first |rfl|decide|simp[WShape.has,WShape.arms,WShape.armsAll])
  (show(WTm.eq .res (.lit (.bool true))).value [] {args:=args,res:=some (.bool true),after:=args}=some (.bool (true==true))from w_eq_bool (w_res rfl) w_lit) rfl
def DJ{l:OpenLaw}{q:Program}{XP:(Str->Option Value)->Heap->Prop}{YP:World->Heap->Prop}{d:DefRec}
  (y:l.most=some n)(p:d.params.defaults=[])
  (call:∀(w:World)(c b:Shared)(mg mb:Str->Option Value)(fa:Addr)(o:Obj)(pm cd ap:Value)(a:Addr)(vs:List Value)(ns:List Int),
   Ground q loose [] XP w c mg mb b.heap->YP w b.heap->
   b.heap.get? fa=some o->o.data=.func (docDef d.name d.params d.body d.scope pm cd ap)->b.heap.CodeRec cd d.name->mg d.name=some (.ref fa)->
   b.heap.get? a=some {cls:=.type "list",data:=.seq vs.toArray}->cj vs ns->ns.length<=n->b.gens= #[]->
   gR (model l.prog w) Hl (.call (.ref fa) ⟨[.ref a],[]⟩) (fun r s'=>r=.ok (.ret (.bool true))/\OldK b.heap s'.heap/\s'.os=b.os/\pW s'.gens) b):
  WalkO q loose XP YP l.row.toRowW d [] (fun f vs=>PySem.call f vs):=by
 intro w c b mg mb G Y fa o pm cd ap g kV z m k e x s D vals E B F I C H;obtain rfl:g=.none:=Dflts.none e p;obtain rfl:kV=.none:=Dflts.noKw e;obtain⟨a,vs,ns,rfl,rfl,A,t,u⟩:=HR y B C;refine enter_call (jY (call w c b mg mb fa o pm cd ap a vs ns G Y z (fd_plain m) k x A t u s) fun r s' hq=>?_);obtain⟨rfl,h,i,j⟩:=hq;exact⟨.inl ⟨.bool true,.bool true,[],rfl,fun _=>rfl,.bool true,Ia l _,fun _=>⟨kg,fun _ v=>(nomatch v)⟩⟩,h,i,j⟩
end Att
namespace L2
open PySem PySem.Spec PyProof.Rows
theorem tK:∀{vs:List Value}{ns:List Int},cj vs ns->bM (ns.map V.int) vs
 |_,_,.nil=>.nil
 |_,_,.cons n t h=>.cons ⟨t,rfl⟩ (tK h)
noncomputable abbrev KOf{K:ah}{h:Heap}(_:K.In h):ah:=K
noncomputable abbrev CX0:CXT:=fun _ _ _ _ _ _=>False
noncomputable abbrev E0:XK:=fun _ _ _=>False
structure Fun(K:ah)(x qual:Str)(st:Stmt)(f:Addr)(fd:fg):Prop where
 ex:∃(oc:Value)(od:Option Addr)(kV ap pm:Value)(an:Option Addr)(am ct:Value)(ax:Array (Option Value)),
  fd=aE x qual (bh st) (aX st) (aO st) .none kV ap pm an am ct/\K.lookup f=some ⟨oc,od,.func fd,ax⟩/\eM K am qual=true
 kp:cP K (.ref f)=true
section
variable {mg:Str->Option Value}
def Fun.binds{st:Stmt}{a:fg}(F:Fun K x qual st f a)
  (h:∀(kV ap pm:Value)(an:Option Addr)(am ct:Value)(us:List Value),us.length=ps.length->rD (aE x qual (bh st) (aX st) (aO st) .none kV ap pm an am ct) ⟨us,[]⟩=pure (ps.zip us)):Binds K a ps []:=by
 obtain⟨d,e,kV,ap,pm,an,am,ct,g,rfl,c,b⟩:=F.ex;exact .all (h kV ap pm an am ct)
def Fc{st:Stmt}{an:Option Addr}{kV:Value}(l:K.lookup f=some ⟨oc,od,.func (aE x qual (bh st) (aX st) (aO st) .none kV ap pm an am ct),ax⟩)
  (c:eM K am qual=true)(k:cP K (.ref f)=true):Fun K x qual st f (aE x qual (bh st) (aX st) (aO st) .none kV ap pm an am ct):=⟨⟨oc,od,kV,ap,pm,an,am,ct,ax,rfl,l,c⟩,k⟩
end
def aQ(H H':Hp):Prop:=∀b o,H b=some o->H' b=some o
def aQ.refl(H:Hp):aQ H H:=fun _ _ h=>h
def aQ.trans{d:Hp}(a:aQ H H1)(b:aQ H1 d):aQ H d:=fun c o h=>b c o (a c o h)
def aQ.free(e:aQ H H')(h:H' l=Option.none):H l=Option.none:=by
 cases q:H l with
 |none=>rfl
 |some o=>rw[e l o q]at h;cases h
def aQ.seq(e:aQ H H')(h:SqL K H a xs):SqL K H' a xs:=by
 rcases h with(h|⟨o,h⟩) |h;·exact .inl (.inl (e _ _ h))
 ·exact .inl (.inr ⟨o,e _ _ h⟩)
 ·exact .inr h
section
variable {κ:Type}[DecidableEq κ]
def B1{a:List (κ×V)}{k:κ}(h:eR a k=none):¬k∈a.map (·.1):=by intro m;obtain⟨p,hp,e⟩:=az.mp m;have q:(a.any fun b=>decide (b.1=k))=true:=b8.mpr ⟨p,hp,decide_eq_true e⟩;rw[ki,h]at q;exact absurd q (by simp)
def valV_in{a:List (κ×V)}{k:κ}{v:V}(h:eR a k=some v):k∈a.map (·.1):=by
 have q:(a.any fun b=>decide (b.1=k))=true:=by rw[ki,h];all_goals rfl
 obtain⟨p,hp,e⟩:=b8.mp q;exact az.mpr ⟨p,hp,of_decide_eq_true e⟩
theorem Gq:∀{l:List κ}{k:κ},l.Nodup->¬k∈l->(l++[k]).Nodup
 | [],k,_,_=>by simp
 |a::r,k,h,hk=>by
  obtain⟨b,c⟩:=bW.mp h;show(a::(r++[k])).Nodup;refine bW.mpr ⟨fun m=>?_,Gq c fun m=>hk (aI.mpr (Or.inr m))⟩;rcases cX.mp m with q|q;·exact b q
  ·exact hk (aI.mpr (Or.inl (aT.mp q).symm))
def nd_putK{a:List (κ×V)}{k:κ}(v:V)(b:(a.map (·.1)).Nodup)(h:eR a k=none):((putK a k v).map (·.1)).Nodup:=by rw[KS v h,cQ];exact Gq b (B1 h)
end
abbrev fO(cells:List (Str×Addr)):List (Str×eD)->List (Str×Addr)->List (Str×Addr)
 | [],ac=>ac
 | (n,k)::r,ac=>fO cells r (if k=.free then(n,(cells.lookup n).getD 0)::ac else ac)
theorem rg{env:Env}{f:Str×eD->List (Str×Addr)->Sem (ForInStep (List (Str×Addr)))}
  (hf:∀n k a c,k=.free->env.cells.lookup n=some c->f (n,k) a=pure (.yield ((n,c)::a)))(b:∀n k a,k≠.free->f (n,k) a=pure (.yield a)):
  ∀(g:List (Str×eD))(ac:List (Str×Addr)),(∀y∈g,y.2=.free->∃c,env.cells.lookup y.1=some c)->forIn g ac f=(pure (fO env.cells g ac):Sem _)
 | [],ac,_=>rfl
 | (n,k)::r,ac,h=>by
  rw[List.forIn_cons];by_cases e:k=.free;·obtain⟨c,i⟩:=h (n,k) aM e;rw[hf n k ac c e i];show forIn r ((n,c)::ac) f=_;rw[rg hf b r _ fun y d=>h y (aK _ d)];simp[fO,e,i]
  ·rw[b n k ac e];show forIn r ac f=_;rw[rg hf b r _ fun y d=>h y (aK _ d)];simp[fO,e]
def yI{env:Env}(h:∀y∈scope.names,y.2=.free->∃c,env.cells.lookup y.1=some c):Jw scope env=pure (fO env.cells scope.names []):=by
 have q:=rg (env:=env) (f:=fun x b=>match x with | (name,kind)=>if(kind==b9)=true then(do let a<-cellOf env name;pure (iz ((name,a)::b)))else pure (iz b))
  (fun n k a c e g=>by
   subst e;simp only[cellOf,g];rfl) (fun n k a e=>by
   have d:(k==b9)=false:=by simpa using e
   simp only[d,aZ,if_false]) scope.names [] h
 unfold Jw;show(forIn scope.names [] _>>=fun r=>pure r)=_;exact(congrArg (·>>=fun r=>pure r) q).trans rfl
theorem lE{cells:List (Str×Addr)}:∀(a:List (Str×eD))(ac:List (Str×Addr))(x:Str)(c:Addr),(fO cells a ac).lookup x=some c->
  ((x,b9)∈a/\c=(cells.lookup x).getD 0)\/ac.lookup x=some c
 | [],ac,x,c,h=>.inr h
 | (n,k)::r,ac,x,c,h=>by
  rcases lE r _ x c h with⟨q,e⟩ |q;·exact .inl ⟨aK _ q,e⟩
  ·by_cases e:k=.free
   ·rw[if_pos e,a8]at q;cases hx:x==n with
    |true=>
     rw[hx]at q;have b:x=n:=by simpa using hx
     subst b;subst e;exact .inl ⟨aM,(bo q).symm⟩
    |false=>rw[hx]at q;exact .inr q
   ·rw[if_neg e]at q;exact .inr q
theorem xS{cells:List (Str×Addr)}:∀(a:List (Str×eD))(ac:List (Str×Addr))(x:Str),(ac.lookup x).isSome=true->((fO cells a ac).lookup x).isSome=true
 | [],ac,x,h=>h
 | (n,k)::r,ac,x,h=>by
  refine xS r _ x ?_;split;·rw[a8];cases x==n<;>simp_all
  ·exact h
theorem rh{cells:List (Str×Addr)}:∀(a:List (Str×eD))(ac:List (Str×Addr))(x:Str),(x,b9)∈a->((fO cells a ac).lookup x).isSome=true
 | [],ac,x,h=>by simp at h
 | (n,k)::r,ac,x,h=>by
  rcases aI.mp h with q|q;·cases q;refine xS r _ n ?_;simp[a8]
  ·exact rh r _ x q
theorem fZ:∀(a:List (Str×eD))(n:Nat)(ac:List (Str×Addr)),cK n a ac=cK n a []++ac
 | [],_,_=>rfl
 | (x,k)::r,n,ac=>by
  unfold cK;split;·rw[fZ r (n+1) ((x,n)::ac),fZ r (n+1) [(x,n)],nr];rfl
  ·exact fZ r n ac
theorem lG:∀(a:List (Str×eD))(n:Nat)(ac:List (Str×Addr))(x:Str),(ac.lookup x).isSome=true->((cK n a ac).lookup x).isSome=true
 | [],_,_,_,h=>h
 | (y,k)::r,n,ac,x,h=>by
  unfold cK;split;·refine lG r _ _ x ?_;rw[a8];cases x==y<;>simp_all
  ·exact lG r _ _ x h
theorem jo:∀(a:List (Str×eD))(n:Nat)(ac:List (Str×Addr))(x:Str),(x,cT)∈a->((cK n a ac).lookup x).isSome=true
 | [],_,_,_,h=>nomatch h
 | (y,k)::r,n,ac,x,h=>by
  unfold cK;rcases aI.mp h with q|q;·cases q;rw[if_pos (by rfl)];refine lG r _ _ _ ?_;simp[a8]
  ·split;·exact jo r _ _ x q
   ·exact jo r _ _ x q
theorem lF:∀(a:List (Str×eD))(n:Nat)(ac:List (Str×Addr))(x:Str)(c:Addr),(x,c)∈cK n a ac->(x,cT)∈a\/(x,c)∈ac
 | [],_,_,_,_,h=>.inr h
 | (y,k)::r,n,ac,x,c,h=>by
  unfold cK at h;split at h
  ·rename_i hk;rcases lF r _ _ x c h with q|q;·exact .inl (aK _ q)
   ·rcases aI.mp q with e|e
    ·cases e;have :k=.cell:=by simpa using hk
     subst this;exact .inl aM
    ·exact .inr e
  ·rcases lF r _ _ x c h with q|q;·exact .inl (aK _ q)
   ·exact .inr q
def Ff{M:Model}{d:Addr}{b:List (Str×Addr)}{c:Value}{outer:Env}{a:Addr}{Q:Env->Shared->Prop}
  (h:Q (newEnv scope s.heap.objs.size d (cK (s.heap.objs.size+1) scope.names b) qual func c (some outer) a) {s with heap:=pushCells (s.heap.push {cls:=.type "dict",data:=.dict #[]}) scope.names}):
  wpAny M A (newFunctionEnv scope d b [] qual func c (some outer) a) Q E s:=by
 simp only[newFunctionEnv,gd,if_true];refine af (wpAny_alloc ?_);refine af (wpAny_layCells _ (fun name kind e=>by cases hkc:kind==cT<;>simp[hkc]) _ _ _ _ ?_);rw[show({s with heap:=s.heap.push {cls:=.type "dict",data:=.dict #[]}}:Shared).heap.objs.size=s.heap.objs.size+1 from bG ..];rw[BW];exact af (aj (aj h))
structure pL(X:Cx)(N':List Str)(sc:Scope):Prop where
 kind:sc.kind=.function
 cellk:∀y∈sc.names,y.2=.cell->sc.names.lookup y.1=some .cell
 own:∀y∈sc.names,y.2=.local->sc.names.lookup y.1=some .local
 free:∀y∈sc.names,y.2=.free->X.env.kindOf y.1=some .cell\/X.env.kindOf y.1=some .free
abbrev d0(X:Cx)(N':List Str)(sc:Scope)(C:Addr)(s₀:Shared)(H₀:Hp)(fp:List Addr):Cx:=
 {X with N:=N',s₀:=s₀,H₀:=H₀,env:=compEnvC sc (cK (C+1) sc.names (fO X.env.cells sc.names [])) C X.env,outer:=X.stack,stack:=X.stack,ex:=fp,fn:=fun x=>sc.names.any fun y=>decide (y.1=x)&&decide (y.2=.cell),pn:=[],xe:=fun _ _=>False}
theorem oq{env:Env}:∀{a:List (Str×eD)}{x:Str}{k:eD},
  (a.map fun(n,k)=>if(k==b9&&env.scope.kind== .function&&env.kindOf n==some .cell)then(n,cT)else(n,k)).lookup x=some k->
  a.lookup x=some k\/(a.lookup x=some .free/\k=.cell)
 | [],_,_,h=>by simp at h
 | (n,k)::r,x,k',h=>by
  have b:= @oq env r x k';rw[b7]at h;change cW x ((if(k==b9&&env.scope.kind== .function&&env.kindOf n==some .cell)=true then(n,cT)else(n,k))::_)=_ at h;cases hx:x==n with
  |true=>
   by_cases hc:(k==b9&&env.scope.kind== .function&&env.kindOf n==some .cell)=true
   ·rw[if_pos hc]at h;simp only[a8,hx]at h⊢;have :k=.free:=by have :=hc;simp only[aF]at this;simpa using this.1.1
    subst this;exact .inr ⟨rfl,(bo h).symm⟩
   ·rw[if_neg hc]at h;simp only[a8,hx]at h⊢;exact .inl h
  |false=>
   have e:cW x (r.map fun(n,k)=>if(k==b9&&env.scope.kind== .function&&env.kindOf n==some .cell)then(n,cT)else(n,k))=some k':=by split at h<;>simpa only[a8,hx]using h
   simp only[a8,hx];exact b e
theorem gY{env:Env}:∀{a:List (Str×eD)}{x:Str},a.lookup x=some .free->
  (a.map fun(n,k)=>if(k==b9&&env.scope.kind== .function&&env.kindOf n==some .cell)then(n,cT)else(n,k)).lookup x=some .free\/
  (a.map fun(n,k)=>if(k==b9&&env.scope.kind== .function&&env.kindOf n==some .cell)then(n,cT)else(n,k)).lookup x=some .cell
 | [],_,h=>by simp at h
 | (n,k)::r,x,h=>by
  have b:= @gY env r x;rw[b7];change cW x ((if(k==b9&&env.scope.kind== .function&&env.kindOf n==some .cell)=true then(n,cT)else(n,k))::_)=_\/cW x ((if(k==b9&&env.scope.kind== .function&&env.kindOf n==some .cell)=true then(n,cT)else(n,k))::_)=_;cases hx:x==n with
  |true=>
   simp only[a8,hx]at h;cases h;by_cases hc:(b9==b9&&env.scope.kind== .function&&env.kindOf n==some .cell)=true;·rw[if_pos hc];right;simp only[a8,hx]
   ·rw[if_neg hc];left;simp only[a8,hx]
  |false=>simp only[a8,hx]at h;split <;>simpa only[a8,hx]using b h
theorem gG{env:Env}:∀{a:List (Str×eD)}{x:Str}{k:Option eD},a.lookup x=k->k≠some .free->
  (a.map fun(n,k)=>if(k==b9&&env.scope.kind== .function&&env.kindOf n==some .cell)then(n,cT)else(n,k)).lookup x=k
 | [],_,_,h,_=>by simpa using h
 | (n,k)::r,x,k',h,hf=>by
  have d:= @gG env r x k';rw[b7];change cW x ((if(k==b9&&env.scope.kind== .function&&env.kindOf n==some .cell)=true then(n,cT)else(n,k))::_)=_;cases hx:x==n with
  |true=>
   simp only[a8,hx]at h;have c:k≠.free:=fun e=>hf (by rw[<-h,e]);have b:(k==b9)=false:=by simpa using c
   rw[if_neg (by rw[b];simp)];simp only[a8,hx];exact h
  |false=>simp only[a8,hx]at h;split <;>simpa only[a8,hx]using d h hf
def zx{a:List (Str×Addr)}{env:Env}{k:eD}(h:(compEnvC sc a C env).kindOf x=some k):sc.names.lookup x=some k\/(sc.names.lookup x=some .free/\k=.cell):=oq (env:=env) h
def Fk{R:Result->Shared->Prop}{f d:Expr}{g:List Expr}{b e:Value}{env:Env}(I:Nat->Shared->Prop)
  (turn:∀n s,I n s->wpAny (model prog w) A (pyNext b) (fun r i=>match r with
   |none=>R (.ok .next) i
   |some v=>wpAny (model prog w) A (tF d b v) (fun _ o=>wpAny (model prog w) A (assign d env v) (fun _ p=>
     wpAny (model prog w) A (forIn g true fun c r=>if r=true then do let ok<-isTrue c env (eval c env);pure (iz ok)else pure (iz r)) (fun ok j=>
      if ok=true then wpAny (model prog w) A (eval f env) (fun x q=>
       wpAny (model prog w) A (call (.builtin "list.append") [e,x]) (fun _ t=>∃m,m<n/\I m t) (fun _ _=>False) q) (fun _ _=>False) j
      else ∃m,m<n/\I m j) (fun _ _=>False) p) (fun _ _=>False) o) (fun _ _=>False) i) (fun _ _=>False) s)
  (n:Nat) (h:I n s):
  gR (model prog w) A (.compLoop (.ListComp f [⟨d,iter,g,0⟩] scope pos) 0 b e env) R s:=by
 refine codeAny_loop rfl I (fun n s u=>?_) n h;show wpAny _ A ((compTurn (.ListComp f [⟨d,iter,g,0⟩] scope pos) 0 b e env).onRaise (fun x=>do nT x env;theTreesLotGoes x)) _ _ s;refine wpAny_noted ?_;rw[compTurn_list];refine af (pY (af (cZ (turn n s u) (fun r i k=>?_) fun _ _ a=>a.elim)));cases r with
 |none=>exact aj k
 |some v=>
  refine af (cZ k (fun _ o y=>?_) fun _ _ a=>a.elim);refine af (cZ y (fun _ p z=>af (cZ z (fun ok j l=>?_) fun _ _ a=>a.elim)) fun _ _ a=>a.elim);cases ok with
  |false=>exact aj ⟨rfl,l⟩
  |true=>exact af (af (cZ l (fun x q B=>af (cZ B (fun _ t C=>aj (aj ⟨rfl,C⟩)) fun _ _ a=>a.elim)) fun _ _ a=>a.elim))
def PTs(X:Cx)(ifs:List Expr)(t:TT):Prop:=
 ∀(pins:List (Addr×Obj))(s:Shared)(σ:St)(H:Hp)(Q:Bool->Hp->Prop),Inv X pins σ H s->t σ H Q->
  wpAny (model X.prog X.w) X.A (forIn ifs true fun c r=>if r=true then do let ok<-isTrue c X.env (eval c X.env);pure (iz ok)else pure (iz r)) (TP X pins σ Q) X.xe s
def tYes:TT:=fun _ H Q=>Q true H
def pts_nil:PTs X [] tYes:=by intro a s b H Q I h;rw[BW];exact aj ⟨H,I,h⟩
def pts_one{c:Expr}{t:TT}(h:PT X c t):PTs X [c] t:=by intro d s f H Q I a;rw[List.forIn_cons];simp only[if_true];refine af (af (thn (h d s f H Q I a) fun b e q=>?_));refine aj ?_;show wpAny _ _ (forIn ([]:List Expr) b _) _ _ e;rw[BW];exact aj q
def wo(wi:TI)(g:TG)(tc:TT)(te:TE)(mk:St->St):TE:=fun σ H Q=>wi σ H fun J H1=>∃W:Nat->Nat->St->List V->Hp->Prop,(∃m,W 0 m (mk σ) [] H1)/\
 ∀i m h ac H2,W i m h ac H2->(J.stop i H2/\∀l,H2 l=none->Q (.ref l) (upd H2 l (.lst ac)))\/(J.go i H2/\∃N:St->List V->Hp->Prop,(∀j e H',N j e H'->∃f,f<m/\W (i+1) f j e H')/\
  ∀x c,J.yld i H2 x c->g x h c fun a k=>tc a k fun b d=>if b=true then te a d fun v n=>ac.length<sizeLine/\N a (ac++[v]) n else N a ac d)
def Inv.track{o:HO}(I:Inv X pins σ H s)(hf:pq X pins H a)(p:dO X.prog X.w (upd H a o) s.heap a o):Inv X pins σ (upd H a o) s:=by
 obtain⟨g,h,t,i,j,k⟩:=hf;have :=I.step (g':=s.gens) (d':=s.drawn) (t':=s.toks) (h':=s.heap) (H':=upd H a o) (ch:=[a]) (fun b d=>by
   have e:b=a:=by simpa using d
   subst e;exact⟨i,h,j,k⟩)
  (fun b f _ _ _ q _=>q) (fun b f _ _ _ q _=>⟨f.slots,q⟩) (fun b f d q n=>by rw[ba (fun z=>d (by simp[z]))];exact n) (fun b f _ q=>⟨f,q⟩)
  (fun b r q=>by rw[ba (bL q g)];exact q) (fun b f u q=>by rw[ba (bL q g)];exact q) (fun b w q=>⟨#[],by rw[ba (bL q g),q];simp⟩)
  (fun m l=>l) (fun b u q=>by
   by_cases d:b=a;·subst d;rw[au]at q;cases q;exact p
   ·rw[ba d]at q;exact(I.hok b u q).mS (fun c v _ e=>e) (fun c e=>by rw[ba (bL e g)];exact e) fun c r e=>by rw[ba (bL e g)];exact e) I.bare
 exact this
def Fy{Q:Value->Shared->Prop}(I:Inv X pins σ H s)(hf:pq X pins H a)
  (e:s.heap.get? a=some {cls:=.type "list",data:=.seq ad.toArray n}) (hz:ad.length<sizeLine)
  (h:∀h' m,Inv X pins σ H {s with heap:=h'}->h'.get? a=some {cls:=.type "list",data:=.seq (ad++[u]).toArray m}->(∀b o,b≠a->s.heap.get? b=some o->h'.get? b=some o)->Q .none {s with heap:=h'}):
  wpAny (model X.prog X.w) X.A (call (.builtin "list.append") [.ref a,u]) Q E s:=by
 refine kT F.slot_list_append ⟨_,e,rfl⟩ F.entry_list_append (F.args_list_append_2 _ _) (PySem.list_append a ad.toArray n u (by rw[aD];lia)) ⟨e,?_⟩;have q:=Jy e (·.push u);have c:ad.toArray.push u=(ad++[u]).toArray:=by simp
 rw[c]at q;have k:∀b o,b≠a->s.heap.get? b=some o->(s.heap.update a (bf (·.push u))).get? b=some o:=fun b o l z=>(aS s.heap _ (bI l)).trans z;obtain⟨d,f,p,g,i,j⟩:=hf;exact h _ _ (I.turned (t':=s.toks) k d f g i j) q k
section
variable {N':List Str}{elt:Expr}{ifs:List Expr}{wi:TI}{g:TG}{tc:TT}{te:TE}{mk:St->St}
def MkOk(X:Cx)(N':List Str)(sc:Scope)(mk:St->St):Prop:=
 ∀σ:St,σ.length=X.N.length->(mk σ).length=N'.length/\∀(i:Nat)(x:Str)(v:V),N'[i]? =some x->(mk σ)[i]? =some (some v)->sc.names.lookup x=some .free/\∃j:Nat,X.N[j]? =some x/\σ[j]? =some (some v)
def zG{Q:VK}{use:Option (Value->Sem Unit)}(S:pL X N' sc)(hm:MkOk X N' sc mk)(hc:X.calm=true)
  (hi:PI X tg iter wi)
  (a:∀C a5 a2 fp,(d0 X N' sc C a5 a2 fp).Ok->PG (d0 X N' sc C a5 a2 fp) tg g/\PTs (d0 X N' sc C a5 a2 fp) ifs tc/\PE (d0 X N' sc C a5 a2 fp) elt te)
  (hs:∀x,jX iter X.env x=pure x)(I:Inv X pins σ H s)(h:wo wi g tc te mk σ H Q)
  (f1:∀(l C:Addr)(H':Hp)(s':Shared)(m:Str->Option Value),Inv X pins σ H' s'->s'.heap.Ns C m->pq X pins H' C->(∃o,s'.heap.get? C=some o/\∀v,o.data≠.cell v)->Q (.ref l) H'->compPost (model X.prog X.w) X.A X.xe use QQ (.ref l) C (.ok .next) s'):
  wpAny (model X.prog X.w) X.A (comprehension (.ListComp elt [⟨tg,iter,ifs,0⟩] sc pos) sc X.env (firstIterPos [⟨tg,iter,ifs,0⟩] pos) (newList []) false (eval iter X.env) use) QQ X.xe s:=by
 have c7:∀y∈sc.names,y.2=.free->∃c,X.env.cells.lookup y.1=some c:=fun y hy hf=>I.ok.has _ (S.free y hy hf);refine wpAny_comprehension_free (use:=use) rfl hs (yI c7) S.kind S.own ?_;refine thn (hi pins s σ H _ I h) fun v s1 Y=>thn Y fun i1 s2 Z=>?_;obtain⟨it,fp,tn,J,d,e,E,T,d8,V,e8,⟨m0,w0⟩,turn⟩:=Z;subst e
 --the list
 refine cg ?_;have f8:d s2.heap.objs.size=none:=E.fresh;have fD:pq X pins d s2.heap.objs.size:=E.Bb (aw _) f8;have c2:(s2.heap.push {cls:=.type "list",dict:=none,data:=.seq ([]:List Value).toArray}).get? s2.heap.objs.size=some {cls:=.type "list",data:=.seq ([]:List Value).toArray 0}:=ay _ rfl;have j:Inv X pins σ d {s2 with heap:=s2.heap.push {cls:=.type "list",dict:=none,data:=.seq ([]:List Value).toArray}}:=E.kept (t':=s2.toks) fun b o e=>ag _ e
 --the block's frame
 refine Ff ?_;dsimp only;have b4:(s2.heap.push {cls:=.type "list",dict:=none,data:=.seq ([]:List Value).toArray}).objs.size=s2.heap.objs.size+1:=bG ..;have c5:s2.heap.objs.size≠(s2.heap.push {cls:=.type "list",dict:=none,data:=.seq ([]:List Value).toArray}).objs.size:=by rw[b4];exact aP (eh _)
 have O:∀b o,s2.heap.get? b=some o->(s2.heap.push {cls:=.type "list",dict:=none,data:=.seq ([]:List Value).toArray}).get? b=some o:=fun b o e=>ag _ e;generalize hH3:s2.heap.push {cls:=.type "list",dict:=none,data:=.seq ([]:List Value).toArray}=P3 at j b4 c2 c5 O⊢;generalize hD:s2.heap.objs.size=D0 at *;have c8:(pushCells (P3.push {cls:=.type "dict",data:=.dict #[]}) sc.names).Ns P3.objs.size (fun _=>none):=(Heap.Ns.new P3 (.type "dict")).keeps (pushCells_keeps _ _);have P:∀b o,P3.get? b=some o->(pushCells (P3.push {cls:=.type "dict",data:=.dict #[]}) sc.names).get? b=some o:=fun b o e=>pushCells_keeps _ _ b o (ag _ e);have R:=cellsFrom_ok sc.names (P3.push {cls:=.type "dict",data:=.dict #[]}) (P3.objs.size+1) [] ⟨fun _ _ hm=>(nomatch hm),kg⟩ (by rw[bG];exact aw _);rw[bG]at R;generalize pushCells (P3.push {cls:=.type "dict",data:=.dict #[]}) sc.names=h4 at c8 P R⊢
 --the context
 have c4:∀b∈fp,b<D0:=fun b a=>by obtain⟨o,e,_⟩:=T.obj _ _ d8 b a;rw[<-hD];exact aA e
 have a9:D0<P3.objs.size:=by rw[b4];exact eh _
 have A:∀x c,(fO X.env.cells sc.names []).lookup x=some c->X.env.cells.lookup x=some c/\(x,b9)∈sc.names:=fun x c e=>by
  rcases lE _ _ x c e with⟨q,e'⟩ |q;·obtain⟨M,a0⟩:=c7 _ q rfl;have f6:X.env.cells.lookup x=some M:=a0;rw[f6]at e'⊢;exact⟨by rw[e'];rfl,q⟩
  ·simp at q
 have c1:∀x c,(fO X.env.cells sc.names []).lookup x=some c->c<P3.objs.size:=fun x c e=>by obtain⟨v,o,f,_⟩:=j.cell x c (A x c e).1;exact aA f
 have N:∀x c,(cK (P3.objs.size+1) sc.names (fO X.env.cells sc.names [])).lookup x=some c->((x,c)∈cK (P3.objs.size+1) sc.names []/\P3.objs.size+1<=c/\h4.IsCell c none)\/(fO X.env.cells sc.names []).lookup x=some c:=fun x c e=>by
  rw[fZ,vc]at e;cases f:(cK (P3.objs.size+1) sc.names []).lookup x with
  |none=>rw[f]at e;exact .inr e
  |some M=>rw[f]at e;cases e;have m:=bA f;exact .inl ⟨m,(R.empty x c m).2,(R.empty x c m).1⟩
 have c0:∀x,sc.names.lookup x=some .free->(cK (P3.objs.size+1) sc.names (fO X.env.cells sc.names [])).lookup x=(fO X.env.cells sc.names []).lookup x:=fun x hf=>by
  rw[fZ,vc];cases f:(cK (P3.objs.size+1) sc.names []).lookup x with
  |none=>rfl
  |some M=>
   rcases lF _ _ _ _ _ (bA f)with q|q;·have :=S.cellk _ q rfl;rw[hf]at this;cases this
   ·cases q
 have F:∀b∈D0::fp,pq X pins d b/\b<P3.objs.size:=fun b a=>by
  rcases aI.mp a with z|z;·rw[z];exact⟨fD,a9⟩
  ·exact⟨V b z,gA (c4 b z) a9⟩
 have ok:(d0 X N' sc P3.objs.size {s2 with heap:=P3} d (D0::fp)).Ok:=by
  refine⟨I.ok.mod,S.kind,I.ok.glob,I.ok.blt,aw _,fun x y c Y Z=>?_,fun x hx=>?_,fun x c z=>?_,fun z=>I.ok.hd z,I.ok.frames,.inl rfl,fun b a=>⟨?_,fun x c e=>?_⟩,j.bs,aL I.ok.bsz j.sz,fun b o e a=>?_,fun b a z=>?_,j.stack,j.Ag⟩
  ·rcases N x c Y with⟨m1,l1,_⟩ |q1<;>rcases N y c Z with⟨m2,l2,_⟩ |q2;·exact PySem.name_of_addr R.apart m1 m2
   ·exact absurd l1 (Nat.not_le.mpr (bK (c1 y c q2)))
   ·exact absurd l2 (Nat.not_le.mpr (bK (c1 x c q1)))
   ·exact I.ok.inj x y c (A x c q1).1 (A y c q2).1
  ·have q:sc.names.lookup x=some .free\/sc.names.lookup x=some .cell:=by
    rcases hx with hx|hx
    ·rcases zx hx with q|q;·exact .inr q
     ·exact .inl q.1
    ·rcases zx hx with q|q;·exact .inl q
     ·exact .inl q.1
   rcases q with q|q;·have Y:=cA.mp (rh (cells:=X.env.cells) _ [] _ (bA q));show ∃c,(cK (P3.objs.size+1) sc.names (fO X.env.cells sc.names [])).lookup x=some c;rw[c0 x q];exact Y
   ·exact cA.mp (jo _ _ _ _ (bA q))
  ·have z:(sc.names.any fun y=>decide (y.1=x)&&decide (y.2=cT))=true:=z;obtain⟨y,hy,e⟩:=b8.mp z;rw[aF,decide_eq_true_eq,decide_eq_true_eq]at e;intro hc;rcases N x c hc with⟨_,l1,_⟩ |q1;·show P3.objs.size<=c;lia
   ·have hk:=S.cellk y hy e.2;rw[e.1]at hk;rcases lE _ _ x c q1 with⟨q,_⟩ |q
    ·have Z:(cK (P3.objs.size+1) sc.names []).lookup x≠none:=fun h=>by have :=jo sc.names (P3.objs.size+1) [] x (bA hk);rw[h]at this;cases this
     have a0:(cK (P3.objs.size+1) sc.names (fO X.env.cells sc.names [])).lookup x=some c:=hc;rw[fZ,vc]at a0;cases f:(cK (P3.objs.size+1) sc.names []).lookup x with
     |none=>exact absurd f Z
     |some M=>rw[f]at a0;cases a0;have :=(R.empty x c (bA f)).2;show P3.objs.size<=c;lia
    ·cases q
  ·exact aP (F b a).2
  ·rcases N x c e with⟨_,l1,_⟩ |q1;·have :=(F b a).2;exact fun z=>by subst z;lia
   ·exact(F b a).1.2.2.2.2.1 x c (A x c q1).1
  ·rcases(F b a).1.2.2.2.1 with z|z;·exact I.ok.noex b o e z
   ·exact absurd (aU (aA e) (aL I.ok.bsz z)) (dJ _)
  ·rcases aI.mp (E.Ep b z)with q|q;·exact(F b a).1.2.1 q
   ·exact(F b a).1.2.2.1 q
 obtain⟨pg,pt,pe⟩:=a _ _ _ _ ok;have I4:Inv (d0 X N' sc P3.objs.size {s2 with heap:=P3} d (D0::fp)) [] (mk σ) d {s2 with heap:=h4}:=by
  obtain⟨ml,f9⟩:=hm σ I.len;have d4:∀x c v,X.env.cells.lookup x=some c->P3.IsCell c v->h4.IsCell c v:=fun x c v e ⟨o,f,hd⟩=>⟨o,P c o f,hd⟩;refine⟨ok,rfl,E.bare,Un.kept P,⟨_,c8,fun i x v e1 e2 e3=>?_⟩,fun x c e=>?_,j.hok.fresh (aw _),fun x c e=>?_,fun p hp=>absurd (show p∈([]:List (Addr×Obj))from hp) (by simp),j.hok.kept P,ml⟩
  ·obtain⟨hf,g5,hj,hv⟩:=f9 i x v e1 e2;obtain⟨m,G,hl⟩:=j.loc;have kx:=S.free (x,.free) (bA hf) rfl;obtain⟨u,b3,l⟩:=hl g5 x v hj hv (by
    rcases kx with q|q;·exact .inr (.inl q)
    ·exact .inr (.inr q))
   refine⟨u,b3,.inr ⟨?_,?_⟩⟩
   ·rcases gY (env:=X.env) hf with q|q;·exact .inr q
    ·exact .inl q
   ·rcases l with⟨q,_⟩ |⟨_,c,c6,f7⟩;·have d3:X.env.kindOf x=some .cell\/X.env.kindOf x=some .free:=kx;rw[q]at d3;rcases d3 with z|z<;>cases z
    ·obtain⟨M,q⟩:=cA.mp (rh (cells:=X.env.cells) _ [] _ (bA hf));have :=(A x M q).1;rw[c6]at this;cases this;exact⟨c,by show(cK (P3.objs.size+1) sc.names (fO X.env.cells sc.names [])).lookup x=some c;rw[c0 x hf];exact q,d4 x c _ c6 f7⟩
  ·rcases N x c e with⟨_,_,hv⟩ |q1;·exact⟨none,hv⟩
   ·obtain⟨v,hv⟩:=j.cell x c (A x c q1).1;exact⟨v,d4 x c v (A x c q1).1 hv⟩
  ·rcases N x c e with⟨_,l1,_⟩ |q1;·exact j.hok.fresh (by show P3.objs.size<=c;lia)
   ·exact j.freeC x c (A x c q1).1
 have d9:tn 0 h4:=T.keep _ _ _ d8 fun b a o e=>P b o (O b o e);have f4:∀{H':Hp}{b:Addr},b∈D0::fp->H' b=none->pq (d0 X N' sc P3.objs.size {s2 with heap:=P3} d (D0::fp)) [] H' b:=fun{H' b} a G=>
  ⟨G,(ok.exf b a).1,ok.exfs b a,.inl a,(ok.exf b a).2,fun p hp=>absurd (show p∈([]:List (Addr×Obj))from hp) (by simp)⟩
 have a3:∀{b:Addr},b∈fp->b∈D0::fp:=fun a=>aK _ a;have nD:∀b∈fp,b≠D0:=fun b a=>aP (c4 b a)
 --the b2
 have b2:gR (model X.prog X.w) X.A (.compLoop (.ListComp elt [⟨tg,iter,ifs,0⟩] sc pos) 0 (.ref it) (.ref D0) (compEnvC sc (cK (P3.objs.size+1) sc.names (fO X.env.cells sc.names [])) P3.objs.size X.env))
   (compPost (model X.prog X.w) X.A X.xe use QQ (.ref D0) P3.objs.size) {s2 with heap:=h4}:=by
  refine Fk (fun n s'=>∃i B k H' r g7,Inv (d0 X N' sc P3.objs.size {s2 with heap:=P3} d (D0::fp)) [] B H' s'/\tn i s'.heap/\(∀b∈D0::fp,H' b=none)/\bM k r/\k.length<=sizeLine/\
    s'.heap.get? D0=some {cls:=.type "list",data:=.seq r.toArray g7}/\e8 i n B k H') ?_ m0
   ⟨0,mk σ,[],_,[],0,I4,d9,fun b a=>(F b a).1.1,.nil,aV _,P _ _ c2,w0⟩
  rintro n t ⟨i,B,k,D,r,kk,I5,e0,W,a6,c9,e5,w5⟩;have b6:Inv (d0 X N' sc P3.objs.size {s2 with heap:=P3} d (D0::fp)) ([]++jD [D0] t.heap) B D t:=by
   refine I5.pinned (fun b a=>?_) (fun b a=>?_)
   ·have z:b=D0:=by simpa using a
    rw[z];exact f4 aM (W D0 aM)
   ·have z:b=D0:=by simpa using a
    rw[z];exact⟨_,e5,fun v z=>by cases z⟩
  obtain q|⟨go,NN,hN,step⟩:=turn i n B k D w5
  ·obtain⟨h7,q⟩:=q;refine thn (T.done (d0 X N' sc P3.objs.size {s2 with heap:=P3} d (D0::fp)) rfl rfl rfl hc i _ t B D (fun _ _=>False) b6 (fun b a=>?_) e0 h7) fun b3 K ⟨hr,b7⟩=>?_
   ·obtain⟨g0,g1,g2,g3,g4,_⟩:=f4 (a3 a) (W b (a3 a));refine⟨g0,g1,g2,g3,g4,fun p hp=>?_⟩;have b1:p∈jD [D0] t.heap:=by simpa[d0]using hp
    obtain⟨z,_⟩:=tS b1;have z':p.1=D0:=by simpa using z
    rw[z'];exact(nD b a).symm
   subst hr;have L:=b7.iR;have e6:K.heap.get? D0=some {cls:=.type "list",data:=.seq r.toArray kk}:=(b7.pin (D0,_) (a7 _ (a7 _ (jc (by simp) e5)))).1
   --back in the context around
   have un:Un (frs X.stack) fp d D s2.heap K.heap:=by
    have u:=L.base;have nb:∀b o,s2.heap.get? b=some o->b∉fp->b∉D0::fp:=fun b o e a z=>by
     rcases aI.mp z with z|z;·exact absurd (aA e) (by rw[z,hD];exact dJ _)
     ·exact a z
    exact⟨fun b o e n a hx=>u.keep b o (O b o e) n a (nb b o e hx),fun b o e n a hx=>u.slot b o (O b o e) n a (nb b o e hx),fun b o e n hx=>u.free b o (O b o e) n (nb b o e hx),fun b o e hx=>u.there b o (O b o e) (nb b o e hx),u.tups,u.frzs,u.tbls⟩
   have I7:Inv X pins σ D K:=by obtain⟨hh,g6,d6,t6,h0⟩:=K;have eo:h0=s2.os:=L.os;subst eo;exact E.call (h':=hh) (g':=g6) (d':=d6) (t':=t6) (ch:=fp) un L.hok L.bare fun b a=>⟨(V b a).2.2.2.1,(V b a).2.1,(V b a).2.2.2.2.1,(V b a).2.2.2.2.2⟩
   have f0:pq X pins D D0:=⟨W D0 aM,fD.2⟩;have I8:=I7.track (o:=.lst k) f0 (show dO X.prog X.w _ K.heap D0 (.lst k)from⟨c9,r,kk,a6,e6⟩);obtain⟨m,G,_⟩:=id L.loc;refine f1 _ P3.objs.size _ K m I8 G (E.Bb (by rw[hD];exact jA a9) (by rw[ba (bI c5)];exact L.free)) ?_ (q D0 (W D0 aM));obtain⟨o,es,ep,f,hd,_⟩:=G;exact⟨o,f,fun v z=>by rw[hd]at z;cases z⟩
  ·skip
   have c3:∀{H':Hp}{b:Addr},b∈fp->H' b=none->pq (d0 X N' sc P3.objs.size {s2 with heap:=P3} d (D0::fp)) ([]++jD [D0] t.heap) H' b:=fun{H' b} a G=>by
    obtain⟨g0,g1,g2,g3,g4,_⟩:=f4 (H':=H') (a3 a) G;refine⟨g0,g1,g2,g3,g4,fun p hp=>?_⟩;have b1:p∈jD [D0] t.heap:=by simpa[d0]using hp
    obtain⟨z,_⟩:=tS b1;have z':p.1=D0:=by simpa using z
    rw[z'];exact(nD b a).symm
   refine thn (T.item (d0 X N' sc P3.objs.size {s2 with heap:=P3} d (D0::fp)) rfl rfl rfl hc i _ t B D (fun _ _=>False) b6 (fun b a=>c3 a (W b (a3 a))) e0 go) fun b3 K ⟨u,hr,h6⟩=>?_;subst hr;refine thn h6 fun _ s7 ⟨x,H7,I7,r7,y7,a4,f5⟩=>?_;have e7:=I7.pinned (fun b a=>c3 a (f5 b a)) (T.obj _ _ a4);refine thn (pg _ s7 B H7 x u _ e7 r7 (step x H7 y7)) fun _ s8 ⟨U,H8,I8,q8⟩=>?_;refine thn (pt _ s8 U H8 _ I8 q8) fun b s9 ⟨H9,I9,q9⟩=>?_;have d5:∀{a1:St}{H':Hp}{s':Shared},Inv (d0 X N' sc P3.objs.size {s2 with heap:=P3} d (D0::fp)) ([]++jD [D0] t.heap++jD fp s7.heap) a1 H' s'->s'.heap.get? D0=some {cls:=.type "list",data:=.seq r.toArray kk}/\H' D0=none:=fun{a1 H' s'} J=>by have :=J.pin (D0,_) (a7 _ (bZ _ (a7 _ (jc (by simp) e5))));exact⟨this.1,this.2.1⟩
   have d7:∀{a1:St}{H':Hp}{s':Shared},Inv (d0 X N' sc P3.objs.size {s2 with heap:=P3} d (D0::fp)) ([]++jD [D0] t.heap++jD fp s7.heap) a1 H' s'->(∀b∈fp,∀o,s7.heap.get? b=some o->s'.heap.get? b=some o)/\(∀b∈fp,H' b=none):=fun{a1 H' s'} J=>by refine⟨fun b a o e=>(J.pin (b,o) (a7 _ (a7 _ (jc a e)))).1,fun b a=>?_⟩;obtain⟨o,e,h8⟩:=T.obj _ _ a4 b a;exact(J.pin (b,o) (a7 _ (a7 _ (jc a e)))).2.1
   cases b with
   |false=>
    rw[if_neg (by decide)]at q9⊢;obtain⟨m',b0,w7⟩:=hN U k H9 q9;obtain⟨d1,d2⟩:=d5 I9;obtain⟨p1,p2⟩:=d7 I9;refine⟨m',b0,i+1,U,k,H9,r,kk,I9.iR.iR,T.keep _ _ _ a4 p1,fun b a=>?_,a6,c9,d1,w7⟩;rcases aI.mp a with z|z;·rw[z];exact d2
    ·exact p2 b z
   |true=>
    rw[if_pos rfl]at q9⊢;refine thn (pe _ s9 U H9 _ I9 q9) fun y i2 ⟨z,b5,a8,h5,h3⟩=>?_;obtain⟨i0,g9⟩:=h3;obtain⟨m',b0,w7⟩:=hN U _ b5 g9;obtain⟨d1,d2⟩:=d5 a8;obtain⟨p1,p2⟩:=d7 a8;have h9:r.length=k.length:=a6.length.symm;refine Fy (X:=d0 X N' sc P3.objs.size {s2 with heap:=P3} d (D0::fp)) a8.iR.iR (f4 aM d2) d1 (by lia) fun h' n' e4 e9 g8=>?_;refine⟨m',b0,i+1,U,k++[z],b5,r++[y],n',e4,T.keep _ _ _ a4 fun b a o e=>g8 b o (nD b a) (p1 b a o e),fun b a=>?_,a6.append (.cons h5 .nil),?_,e9,w7⟩
    ·rcases aI.mp a with w|w;·rw[w];exact d2
     ·exact p2 b w
    ·rw[bj,dj];lia
 exact codeAny_compStart_list b2 (T.self _ 0 _ _ _ d9 b2)
def pe_comp(S:pL X N' sc)(r:MkOk X N' sc mk)(p:X.calm=true)(hi:PI X tg iter wi)
  (f:∀C d c fp,(d0 X N' sc C d c fp).Ok->PG (d0 X N' sc C d c fp) tg g/\PTs (d0 X N' sc C d c fp) ifs tc/\PE (d0 X N' sc C d c fp) elt te)
  (u:∀x,jX iter X.env x=pure x:=by intro _;rfl):PE X (.ListComp elt [⟨tg,iter,ifs,0⟩] sc pos) (wo wi g tc te mk):=by
 intro w s y H Q I h;rw[eval_ListComp];refine zG (use:=none) S r p hi f u I h fun l C i s' m j t a z q=>⟨m,t,fun n v=>?_⟩;have k:Inv X w y i {s' with heap:=n,toks:=s'.toks}:=j.turned (fun b o f e=>v.extBut b o f e) a.1 a.2.1 a.2.2.2.1 a.2.2.2.2.1 a.2.2.2.2.2;exact⟨.ref l,i,k,rfl,q⟩
def EC{A:Pos}(S:pL X N' sc)(Q:MkOk X N' sc mk)(P:X.calm=true)(hi:PI X tg iter wi)
  (n:∀C k f fp,(d0 X N' sc C k f fp).Ok->PG (d0 X N' sc C k f fp) tg g/\PTs (d0 X N' sc C k f fp) ifs tc/\PE (d0 X N' sc C k f fp) elt te)
  (O:X.N.Nodup)(Y:X.N[i]? =some x)(w:X.env.scope.names.lookup x=some .local)
  (W:rB (.ListComp elt [⟨tg,iter,ifs,0⟩] sc pos) (some (.Name x pos')) A.line X.env=pure true)
  (U:∀x,jX iter X.env x=pure x:=by intro _;rfl):PS X (.Assign [.Name x pos'] (.ListComp elt [⟨tg,iter,ifs,0⟩] sc pos) A) (Af (wo wi g tc te mk) (nC i)):=by
 intro j a1 B a2 D I h;rw[exec_Assign_Name_used _ _ _ _ W];refine af (pY (af ?_));show wpAny _ X.A (do let _<-comprehension (.ListComp elt [⟨tg,iter,ifs,0⟩] sc pos) sc X.env (firstIterPos [⟨tg,iter,ifs,0⟩] pos) (newList []) false (eval iter X.env) (some (assign (.Name x pos') X.env))) _ _ a1;refine af (thn (zG (use:=some (assign (.Name x pos') X.env)) (QQ:=fun _ c=>SP X j D .next c) S Q P hi n U I h fun l C r c m t R a N q=>?_) fun _ c hq=>aj (aj hq));obtain⟨d,v,H⟩:=id N;have F:Inv X (j++[(C,d)]) B r c:=t.AG fun p hp=>(cX.mp hp).elim (fun z=>t.pin p (a7 _ z)) fun z=>by
  have e:p=(C,d):=by simpa using z
  subst e;exact⟨v,a.1,a.2.1,a.2.2.1,H⟩
 show wpAny _ X.A (assign (.Name x pos') X.env (.ref l)) _ _ c;refine thn (AH (i:=i) O Y (.inl w) (.inr w) (j++[(C,d)]) c B r (.ref l) (.ref l) D.nx F rfl q) fun _ s2 ⟨E,s,u,q2⟩=>?_;obtain⟨J,Z,_,_,_⟩:=u.pin (C,d) (a7 _ (a7 _ (by simp)));have T:s2.heap.Ns C m:=by
  obtain⟨o,L,K,y,a0⟩:=R;have :o=d:=by rw[v]at y;exact(bo y).symm
  subst this;exact⟨o,L,K,J,a0⟩
 refine⟨m,T,fun M V=>?_⟩;have G:Inv X j E s {s2 with heap:=M,toks:=s2.toks}:=u.iR.turned (fun b o n e=>V.extBut b o n e) Z a.2.1 a.2.2.2.1 a.2.2.2.2.1 a.2.2.2.2.2;exact⟨E,s,G,q2⟩
end
section
def Dz:fV X (.builtin "isinstance") (fun xs H Q=>∃x T t b,xs=[x,.ty T]/\nY X.K H x t/\gS X.K t (.type T)=some b/\Q (.bl b) H):=by intro g s j H xs i Q I f h;obtain⟨x,T,t,b,rfl,ty,e,q⟩:=h;obtain⟨u,c,rfl,d,a⟩:=f.two;cases a;exact zy I d ty e fun tk=>⟨.bl b,H,I.tok tk,rfl,q⟩
def Bu:fV X (.builtin "isinstance") (fun xs H Q=>∃x C t b,xs=[x,.ref C]/\nY X.K H x t/\gS X.K t (.ref C)=some b/\Q (.bl b) H):=by intro g s j H xs i Q I f h;obtain⟨x,T,t,b,rfl,ty,e,q⟩:=h;obtain⟨u,c,rfl,d,a⟩:=f.two;cases a;exact zy I d ty e fun tk=>⟨.bl b,H,I.tok tk,rfl,q⟩
def JV{bs:List Bool}(r:bM (bs.map V.bl) ad):TruthOf prog w A (fun i v=>ad.toArray[i]? =some v) (fun i=>bs.getD i false):=by
 intro i v s Q E c h;have hi:ad[i]? =some v:=by simpa using c
 have e:v=.bool (bs.getD i false):=by
  have d:=r.length;rw[ai]at d;have a:i<bs.length:=by have :=(aC.mp hi).1;lia
  obtain⟨u,b,f⟩:=bM.get (i:=i) (x:=.bl bs[i]) r (by simp[a]);rw[hi]at b;cases b;have g:v=BI bs[i]:=f;rw[g,aa,ae a];rfl
 rw[e];exact dm h
def range_all(bs:List Bool):(aH bs.length).all (fun i=>bs.getD i false)=bs.all id:=by
 have :bs=(aH bs.length).map fun i=>bs.getD i false:=by
  apply bR;·simp
  ·intro i a c;simp[a]
 rw[cw];simp only[bg,aW];constructor;·intro h x b;obtain⟨i,hi,rfl⟩:=cL.mp b;have :=h i hi;simpa[hi]using this
 ·intro h i hi;have :=h bs[i] (a9 hi);simpa[hi]using this
def ML(d:X.calm=true):fV X (.builtin "all") (fun xs H Q=>∃(p:Addr)(bs:List Bool),xs=[.ref p]/\SqL X.K H p (bs.map V.bl)/\Q (.bl (bs.all id)) H):=by
 intro w s y H xs x Q I m h;obtain⟨p,bs,rfl,hq,q⟩:=h;obtain⟨u,rfl,l⟩:=m.one;cases l;obtain⟨c,r,a,v⟩:=I.list hq;have f:c.toArray.size=bs.length:=by rw[aD,<-r.length,ai]
 have g:p≠s.heap.objs.size:=by obtain⟨o,n,j,_⟩:=id a;exact aP (aA j)
 refine call_all_walk (pM a.isList ⟨s.heap.objs.size,_,_,_,_,_,fun i=>bs.getD i false,rfl,Walks.list (A:=X.A.in1) (I.ok.hd d) _ p g c.toArray,⟨⟨_,ay _ rfl,rfl,rfl⟩,a.isList.at fun o e=>ag _ e⟩,JV r,fun t tk k=>?_⟩);rw[f,range_all];exact⟨.bl (bs.all id),H,I.kept (t':=tk) fun b o e=>k b o (by simpa using aP (aA e)) (ag _ e),rfl,q⟩
abbrev xP(x:Str)(lo hi:Option Int):Str:=⟨((x.cps.toList.drop (HT.sIx x.length 0 lo)).take (HT.sIx x.length x.length hi-HT.sIx x.length 0 lo)).toArray⟩
def sIx_eq(n d:Nat)(i:Int):(max 0 (min (if i<0 then i+(n:Int)else i) (n:Int)))=((HT.sIx n d (some i):Nat):Int):=by have :=HT.clip_eq i n d;rw[<-this];split <;>lia
def strIx(lo hi:Option Int)(n:Nat):vg lo hi 1 n=(aH (HT.sIx n n hi-HT.sIx n 0 lo)).map fun k=>HT.sIx n 0 lo+k:=by
 have key:∀a b:Nat,sliceRange (a:Int) (b:Int) 1=(aH (b-a)).map fun k=>a+k:=by
  intro a b;unfold sliceRange;have e:(if(1:Int)>0 then(if(a:Int)<b then((b:Int)-a+1-1)/1 else 0)else(if(a:Int)>b then((a:Int)-b-1-1)/(-1)else 0)).toNat=b-a:=by rw[if_pos (by decide)];split <;>lia
  simp only[e];apply cG;intro k j;lia
 have f:∀(o:Option Int)(d:Nat),(match o with |none=>(d:Int) |some i=>max 0 (min (if i<0 then i+(n:Int)else i) (n:Int)))=((HT.sIx n d o:Nat):Int):=by
  intro o d;cases o with
  |none=>rfl
  |some i=>exact sIx_eq n d i
 have c:=f lo 0;have g:=f hi n;unfold vg;simp only[show(1:Int)>0 by decide,if_true];have h:((0:Nat):Int)=0:=rfl;rw[h]at c;rw[<-key,<-c,<-g];cases lo<;>cases hi<;>rfl
def pickN(xs:Array Nat)(i:Nat):∀k,((aH k).map fun m=>i+m).filterMap (xs[·]?)=(xs.toList.drop i).take k:=by
 intro k
 induction k with
 |zero=>simp
 |succ k ih=>
  rw[kN,cQ,List.filterMap_append,ih];by_cases h:i+k<xs.size;·rw[List.take_succ,gw];simp[h]
  ·rw[List.take_succ,gw];simp[h]
def HM(x:Str)(lo hi:Option Int):Txt.slice x lo hi=xP x lo hi:=by
 have c:HT.sIx x.length 0 lo<=x.length:=HT.Ko _ _ (aV _) lo;have d:HT.sIx x.length x.length hi<=x.length:=HT.Ko _ _ (aw _) hi;unfold Txt.slice xP;rw[strIx];split
 ·rename_i h;rw[aF,beq_iff_eq,beq_iff_eq,ai,aR]at h;have a:HT.sIx x.length 0 lo=0:=by lia
  have b:HT.sIx x.length x.length hi=x.length:=by lia
  rw[a,b];have :x.cps.toList.length=x.length:=by simp[DR]
  rw[List.drop_zero,Nat.sub_zero,<-this,fS]
 ·rw[pickN]
def uQ{v:Value}{o:Option Int}(p:IsPart v o):∃l:Option (Int×Tok),v=partValue l/\o=l.map (·.1):=by
 cases p with
 |none=>exact⟨none,rfl,rfl⟩
 |int i t=>exact⟨some (i,t),rfl,rfl⟩
def rSlS:V->Option Int->Option Int->Hp->VK->Prop:=fun x lo hi H Q=>∃z,x=.str z/\z.length<=sizeLine/\Q (.str (xP z lo hi)) H
def sl_str:SlR X rSlS:=by intro i s o H x v m n lo hi j Q I f a c d h;obtain⟨z,rfl,b,q⟩:=h;obtain⟨t,rfl⟩:=f;obtain⟨l,rfl,rfl⟩:=uQ c;obtain⟨u,rfl,rfl⟩:=uQ d;refine⟨"str",_,F.slot_str_getitem.lookup,typeIs_str _ _ _,?_⟩;refine wpAny_getItem_str_slice (l:=l) (u:=u) (st:=none) a rfl (post_val_or_str ⟨aL (Txt.slice_le z _ _) b,fun g k=>?_⟩);have e:=HM z (l.map (·.1)) (u.map (·.1));unfold Txt.slice at e;refine⟨.str (xP z (l.map (·.1)) (u.map (·.1))),H,I.tok k,⟨g,?_⟩,q⟩;rw[<-e];rfl
abbrev Its(x:Str):It:=⟨fun i _=>i<x.length,fun i H v H'=>H'=H/\∃c,x.cps[i]? =some c/\v=.str ⟨#[c]⟩,fun i _=>x.length<=i⟩
end
def yW(a:Addr)(x:Str)(t:Tok)(A:Around)(b:A.handled=none):
  Walks prog w A a [a] [a] x.cps.size (SignAt x) (fun i h=>h.IsStrIter a (iM x) x t i):=by
 unfold iM;cases ha:x.cps.all (·<128);·simp only[aZ,if_false];exact Walks.strWide b a x t
 ·simp only[if_true];exact Walks.strAscii b a x t
def JS(x:Str)(f:Addr)(t:Tok):Turn P w K tg (Its x) [f] f (fun i h=>h.IsStrIter f (iM x) x t i) where
 mem:=by simp
 obj:=fun i h j b a=>by
  have e:b=f:=by simpa using a
  subst e;obtain⟨o,e,c,d⟩:=j;exact⟨o,e,fun v z=>by rw[d]at z;cases z⟩
 keep:=fun i h l j k=>let⟨o,ho,r⟩:=j;⟨o,k f (by simp) o ho,r⟩
 item:=by intro X G L F C i O s R H E I hf j J;subst G L F;obtain⟨m,p,U,q,y,B⟩:=hf f (by simp);have W:=yW (prog:=X.prog) (w:=X.w) f x t X.A (I.ok.hd C);refine W.item i s _ _ J j fun v l tk Z Q M=>?_;obtain⟨c,u,V,rfl⟩:=Z;have S:Inv X O R H {s with heap:=l,toks:=tk}:=I.turned (fun b o a e=>M b o (by simpa using a) e) m p q y B;obtain⟨o,e,T,d⟩:=id Q;refine⟨_,rfl,GO (s:={s with heap:=l,toks:=tk}) (n:=iM x) e T d ?_ ⟨.str ⟨#[c]⟩,H,S,⟨u,rfl⟩,⟨rfl,c,V,rfl⟩,Q,fun b a=>(hf b a).1⟩⟩;unfold iM;split <;>decide
 done:=by
  intro X G L F C i O s R H E I hf j J;subst G L F;obtain⟨m,p,U,q,y,B⟩:=hf f (by simp);have Y:x.length<=i:=J;by_cases hi:i=x.cps.size;·subst hi;have W:=yW (prog:=X.prog) (w:=X.w) f x t X.A (I.ok.hd C);exact W.done s _ _ j fun l tk M=>⟨rfl,I.turned (fun b o a e=>M b o (by simpa using a) e) m p q y B⟩
  ·have N:x.cps[i]? =none:=by rw[Array.getElem?_eq_none_iff];exact Y
   have g:s.heap.IsStrIter f (iM x) x t i:=j;unfold iM at g;cases ha:x.cps.all (·<128);·rw[ha]at g;exact wpAny_pyNext_wide_end (I.ok.hd C) g N fun l D=>⟨rfl,I.turned (t':=s.toks) (fun b o a e=>D b o a e) m p q y B⟩
   ·rw[ha]at g;exact wpAny_pyNext_ascii_end (I.ok.hd C) g N fun l D=>⟨rfl,I.turned (t':=s.toks) (fun b o a e=>D b o a e) m p q y B⟩
 self:=fun A i s a0 E j h=>by
  have g:s.heap.IsStrIter f (iM x) x t i:=j;unfold iM at g;cases ha:x.cps.all (·<128);·rw[ha]at g;exact wpAny_pyIter_striter_wide g h
  ·rw[ha]at g;exact wpAny_pyIter_striter_ascii g h
def Inv.turnedL(I:Inv X pins σ H s)(k:∀b o,b∉ch->s.heap.get? b=some o->h'.get? b=some o)(hf:∀b∈ch,pq X pins H b):Inv X pins σ H {s with heap:=h'}:=by
 have g:∀b u,H b=some u->b∉ch:=fun b u e z=>by rw[(hf b z).1]at e;cases e
 refine I.step (g':=s.gens) (d':=s.drawn) (ch:=ch) (fun b v=>?_) (fun b o _ _ a e _=>k b o a e) (fun b o _ _ a e _=>⟨o.slots,k b o a e⟩) (fun _ _ _ _ n=>n)
  (fun b o a e=>⟨o,k b o a e⟩) (fun _ _ e=>e) (fun _ _ _ e=>e) (fun b B e=>⟨#[],by rw[e];simp⟩) (fun m x=>?_) (fun b u e=>?_) I.bare
 ·obtain⟨y,j,A,l,p,t⟩:=hf b v;exact⟨l,j,p,t⟩
 ·obtain⟨o,i,h,q,r⟩:=x;exact⟨o,i,h,k _ o (fun a=>(hf _ a).2.1 rfl) q,r⟩
 ·refine(I.hok b u e).mS (fun d o w c=>k d o (fun f=>?_) c) (fun d c=>c) fun d C c=>c;rcases w with zz|zz;·rw[zz]at f;exact g b u e f
  ·exact g d _ zz f
def Inv.newL{o:HO}(I:Inv X pins σ H s)(k:∀b o,b∉ch->s.heap.get? b=some o->h'.get? b=some o)(hf:∀b∈ch,pq X pins H b)
  (a:dO X.prog X.w (upd H s.heap.objs.size o) h' s.heap.objs.size o):Inv X pins σ (upd H s.heap.objs.size o) {s with heap:=h',toks:=t'}:=
 ((I.turnedL k hf).tok t').track (I.Bb (aw _) (I.hok.fresh (aw _))) a
abbrev MV(a:Hp->List V->Prop):It:=
 ⟨fun i H=>∃xs x,a H xs/\xs[i]? =some x,fun i H v H'=>∃p x,H p=none/\H'=upd H p (.tup [.int i,x])/\v=.ref p/\∀xs,a H xs->xs[i]? =some x,fun i H=>∃xs,a H xs/\xs.length<=i⟩
structure En(a it:Addr)(Sq:ah->Hp->List V->Prop)(S:Nat->Heap->Prop):Prop where
 obj:∀i h,S i h->∃o,h.get? it=some o/\∀v,o.data≠.cell v
 kp:∀i h h',S i h->(∀o,h.get? it=some o->h'.get? it=some o)->S i h'
 one:∀{X:Cx}{pins:List (Addr×Obj)}{σ:St}{H:Hp}{s:Shared}{xs ys:List V},Inv X pins σ H s->Sq X.K H xs->Sq X.K H ys->xs=ys
 src:∀{X:Cx}{pins:List (Addr×Obj)}{σ:St}{H:Hp}{s:Shared}{xs:List V}{i:Nat},Inv X pins σ H s->X.A.in1.handled=none->Sq X.K H xs->S i s.heap->∃(us:List Value)(R:Heap->Prop),bM xs us/\R s.heap/\
  (∀e o,s.heap.get? e=some o->o.cls=.type "enumerate"->e≠a)/\Draws X.prog X.w X.A.in1 it [it,a] us.toArray.size (fun i v=>us.toArray[i]? =some v) (fun i h=>S i h/\R h)/\
  (us.toArray.size<=i->∀(Q:Value->Shared->Prop)(E:Value->Shared->Prop),(∀h' z,Heap.ExtBut it s.heap h'->(∃o,h'.get? z=some o/\o.cls=.type "StopIteration")->E (.ref z) {s with heap:=h'})->wpAny (model X.prog X.w) X.A.in1 (eE (.ref it)) Q E s)
def Ek{es:List Expr}{kk:Nat}{L:ah->Hp->List V->Prop}{S:Nat->Heap->Prop}{e:Addr}(N:En a it L S)(t:e≠it):Turn P w K (.Tuple es kk pp) (MV (L K)) [e,it] e (fun i h=>(∃old,IsEnum h e it i old)/\S i h) where
 mem:=by simp
 obj:=fun i h d b f=>by
  obtain⟨⟨old,c⟩,hs⟩:=d;have p:b=e\/b=it:=by simpa using f
  rcases p with rfl|rfl;·exact⟨_,c,fun b6 z=>by cases z⟩
  ·exact N.obj i h hs
 keep:=fun i h l d k=>by obtain⟨⟨old,c⟩,g⟩:=d;exact⟨⟨old,k e (by simp) _ c⟩,N.kp i h l g fun o q=>k it (by simp) o q⟩
 item:=by
  intro X n v m j i C s J H E I hf d r;subst n v m;obtain⟨xs,x,hq,A⟩:=r;obtain⟨⟨old,c⟩,g⟩:=d;obtain⟨B,a0,G,O,W,D,_⟩:=N.src I (I.ok.hd j) hq g;obtain⟨b3,U,ru⟩:=G.get A;obtain⟨f0,f1,f2,f3,f4,f5⟩:=hf e (by simp);have a8:i<B.toArray.size:=by simpa using(aC.mp U).1
  have a9:it<s.heap.objs.size:=by obtain⟨o,q,_⟩:=N.obj i _ g;exact aA q
  refine wpAny_pyNext_enum_itemD D c ⟨g,O⟩ a8 t (by simp[t,W e _ c rfl]) fun y l tk hy u b0 ht b5 kp=>?_;have a2:y=b3:=by
   have :B[i]? =some y:=by simpa using hy
   rw[U]at this;exact(bo this).symm
  subst a2;have hp:H s.heap.objs.size=none:=I.hok.fresh (aw _);have Y:Inv X C J (upd H s.heap.objs.size (.tup [.int i,x])) {s with heap:=l,toks:=tk+1}:=
   I.newL (ch:=[e,it]) (fun a1 o j q=>kp a1 o (fun z=>j (by simp[z])) (fun z=>j (by simp[z])) q) hf ⟨by show 2<=sizeLine;decide,[.int i tk,y],.cons ⟨tk,rfl⟩ (.cons ru .nil),⟨_,ht,rfl,_,rfl⟩⟩
  have M:(upd H s.heap.objs.size (.tup [.int i,x])) e=none:=by rw[ba (aP (aA c))];exact f0
  refine⟨_,rfl,wpAny_letOwnedTupleGo_enum (s:={s with heap:=l,toks:=tk+1}) u fun a4 a7 R=>?_⟩;have Z:Inv X C J (upd H s.heap.objs.size (.tup [.int i,x])) {s with heap:=a4,toks:=tk+1}:=Y.turned (t':=tk+1) (fun b o f q=>R.extBut b o f q) M f1 f3 f4 f5;refine⟨.ref s.heap.objs.size,_,Z,rfl,⟨_,x,hp,rfl,rfl,fun ys b2=>by rw[N.one I b2 hq];exact A⟩,⟨⟨y,?_⟩,N.kp _ _ _ b0.1 fun o q=>R.extBut it o (bI t) q⟩,fun b f=>?_⟩
  ·have :((i:Int)+1)=((i+1:Nat):Int):=by push_cast;rfl
   rw[<-this];exact a7
  ·have p:b=e\/b=it:=by simpa using f
   rcases p with rfl|rfl;·exact M
   ·rw[ba (aP a9)];exact(hf _ (by simp)).1
 done:=by
  intro X n v m j i C s J H E I hf d r;subst n v m;obtain⟨xs,hq,A⟩:=r;obtain⟨⟨old,c⟩,g⟩:=d;obtain⟨B,a0,G,O,W,D,a3⟩:=N.src I (I.ok.hd j) hq g;obtain⟨g0,g1,g2,g3,g4,g5⟩:=hf it (by simp);have Q:s.TypeIs (.ref e) "enumerate":=⟨_,c,rfl⟩;have b4:=G.length;unfold pyNext;refine af (jg (eK (name:=bu "__next__") Q F.slot_enumerate_next
   (cS F.slot_enumerate_next Q F.entry_enumerate_next ?_ (F.args_enumerate_next_1 _))))
  show wpAny _ _ (field (.ref e) 2>>=_) _ _ _;refine af (iJ c rfl (x:=.ref it) rfl ?_);refine af (a3 (by simp;lia) _ _ fun l z a6 b1=>?_);obtain⟨o,u,a5⟩:=b1;refine af (rm (T:="StopIteration") (b:=true) ⟨o,u,a5⟩ isSubtype_stop ?_);exact aj ⟨rfl,I.turned (t':=s.toks) (fun b o f q=>a6 b o f q) g0 g1 g3 g4 g5⟩
 self:=fun _ _ _ _ _ d h=>by obtain⟨⟨old,c⟩,_⟩:=d;exact wpAny_pyIter_enum c h
noncomputable abbrev Ite(K:ah)(a:Addr):It:=MV fun H xs=>SqL K H a xs
def en_list(a b:Addr):En a b (fun K H xs=>SqL K H a xs) (fun i h=>h.IsListIter b a i) where
 obj:=fun i h l=>by obtain⟨o,u,c,d⟩:=l;exact⟨o,u,fun v z=>by rw[d]at z;cases z⟩
 kp:=fun i h m l k=>l.at k
 one:=fun I h m=>I.xv h m
 src:=fun{X _ _ _ s xs i} I p hq r=>by
  obtain⟨f,y,g,A⟩:=I.list hq;have t:∀c o,s.heap.get? c=some o->o.cls≠.type "list"->c≠a:=fun c o q n z=>by obtain⟨B,_,x,j,_⟩:=id g;rw[z,x]at q;cases q;exact n j
  have w:a≠b:=by obtain⟨o,q,j,_⟩:=id r;exact(t b o q (by rw[j];decide+kernel)).symm
  exact⟨f,fun h=>h.IsList a f.toArray,y,g.isList,fun e o q c=>t e o q (by rw[c];decide+kernel),Draws.list p b a w f.toArray,fun h Q E k=>wpAny_nextOf_list_end p r g.isList (pv h) k⟩
def Inv.enum{f:List Expr}{j:Nat}{c:ah->Hp->List V->Prop}{S:Nat->Heap->Prop}{R:It->Hp->Prop}{Q:Value->Shared->Prop}(I:Inv X pins σ H s)(N:En a s.heap.objs.size c S)
  (e:IsEnum h' (s.heap.objs.size+1) s.heap.objs.size 0 .none)(i:S 0 h')(l:∀b o,s.heap.get? b=some o->h'.get? b=some o)(q:R (MV (c X.K)) H)
  (k:∀(it:Addr)(fp:List Addr)(tn:Nat->Heap->Prop)(J:It),Inv X pins σ H {s with heap:=h'}->Turn X.prog X.w X.K (.Tuple f j pp) J fp it tn->tn 0 h'->(∀b∈fp,pq X pins H b)->R J H->Q (.ref it) {s with heap:=h'}):
  wpAny (model X.prog X.w) X.A (pyIter (.ref (s.heap.objs.size+1))) Q E {s with heap:=h'}:=by
 refine wpAny_pyIter_enum (s:={s with heap:=h'}) e ?_;refine k _ [s.heap.objs.size+1,s.heap.objs.size] _ _ (I.kept (t':=s.toks) l) (Ek N (Nat.succ_ne_self _)) ⟨⟨_,e⟩,i⟩ (fun b g=>?_) q;have h:b=s.heap.objs.size+1\/b=s.heap.objs.size:=by simpa using g
 have d:s.heap.objs.size<=b:=by
  rcases h with z|z;·rw[z];exact dU _
  ·rw[z];exact aw _
 exact I.Bb d (I.hok.fresh d)
section
variable {es:List Expr}{kk:Nat}
def Mb(K:ah)(tl:TE):TI:=fun σ H R=>tl σ H fun x H1=>∃a,[x]=[.ref a]/\(∃xs,SqL K H1 a xs)/\R (Ite K a) H1
def pi_enum{l:Expr}{c:TE}{p:Pos}(o:Gl X "enumerate")(w:X.mg "enumerate"=none)(r:PE X l c)(e:bB [l] X.env=[(false,eval l X.env)]:=by rfl):
  PI X (.Tuple es kk pp) (.Call (.Name "enumerate" p) [l] [] pos) (Mb X.K c):=by
 intro A s F H R I h;have m:PA X [l] (lS c vi):=iu r lB e;refine Call_ (lC I o w boot_enumerate (di (thn (m pos A s F H (fun g b=>∃a,g=[.ref a]/\(∃i,SqL X.K b a i)/\R (Ite X.K a) b) I h) fun P O ⟨g,b,d,D,C⟩=>?_) e rfl));obtain⟨a,rfl,⟨i,hq⟩,q⟩:=C;obtain⟨u,rfl,E⟩:=D.one;cases E;obtain⟨M,N,B,L⟩:=d.list hq;exact call_enumerate_list B.isList fun G n v K y=>d.enum (en_list a _) n v y q fun x k tn J j t z f q=>⟨x,k,tn,J,b,rfl,j,t,z,f,q⟩
end
inductive D where
 |non|bl (b:Bool) |int (i:Int) |str (x:Str) |tup (ds:List D) |lst (ds:List D)
 deriving Inhabited
mutual
noncomputable def Rep(K:ah)(H:Hp):D->V->Prop
 |.non,v=>v=.non
 |.bl b,v=>v=.bl b
 |.int i,v=>v=.int i
 |.str x,v=>v=.str x
 |.tup ds,v=>∃a xs,v=.ref a/\SqT K H a xs/\eX K H ds xs
 |.lst ds,v=>∃a xs,v=.ref a/\SqL K H a xs/\eX K H ds xs
noncomputable def eX(K:ah)(H:Hp):List D->List V->Prop
 | [],xs=>xs=[]
 |d::ds,xs=>∃x r,xs=x::r/\Rep K H d x/\eX K H ds r
end
def aQ.tup{K:ah}{H H':Hp}{a:Addr}{xs:List V}(e:aQ H H')(h:SqT K H a xs):SqT K H' a xs:=by
 rcases h with(h|⟨o,h⟩) |h;·exact .inl (.inl (e _ _ h))
 ·exact .inl (.inr ⟨o,e _ _ h⟩)
 ·exact .inr h
theorem eX.length:∀{ds:List D}{xs:List V},eX K H ds xs->xs.length=ds.length
 | [],_,h=>by rw[show _=[]from h];rfl
 |d::ds,_,h=>by obtain⟨x,r,rfl,_,a⟩:=h;rw[bC,bC,eX.length a]
theorem eX.at:∀{ds:List D}{xs:List V}{i:Nat}{d:D},eX K H ds xs->ds[i]? =some d->∃x,xs[i]? =some x/\Rep K H d x
 | [],_,i,d,h,e=>by simp at e
 |d::ds,_,0,d',h,e=>by obtain⟨y,r,rfl,a,b⟩:=h;simp at e;subst e;exact⟨y,rfl,a⟩
 |d::ds,_,i+1,d',h,e=>by obtain⟨y,r,rfl,a,b⟩:=h;obtain⟨x,c,f⟩:=eX.at (i:=i) b (by simpa using e);exact⟨x,by simpa using c,f⟩
theorem eX.ints:∀(ns:List Int),eX K H (ns.map D.int) (ns.map V.int)
 | []=>rfl
 |n::ns=>⟨_,_,rfl,rfl,eX.ints ns⟩
mutual
noncomputable def eqD:D->D->Bool
 |.non,.non=>true
 |.bl a,.bl b=>a==b
 |.bl a,.int b=>(if a then 1 else 0)==b
 |.int a,.bl b=>a==(if b then 1 else 0)
 |.int a,.int b=>a==b
 |.str a,.str b=>a==b
 |.tup a,.tup b=>oH a b
 |.lst a,.lst b=>oH a b
 |_,_=>false
noncomputable def oH:List D->List D->Bool
 | [],[]=>true
 |a::as,b::bs=>eqD a b&&oH as bs
 |_,_=>false
end
mutual
noncomputable def hgt:D->Nat
 |.tup ds=>fw ds+1
 |.lst ds=>fw ds+1
 |_=>0
noncomputable def fw:List D->Nat
 | []=>0
 |d::ds=>max (hgt d) (fw ds)
end
theorem tY:∀{ds:List D}{i:Nat}{d:D},ds[i]? =some d->hgt d<=fw ds
 | [],i,d,e=>by simp at e
 |d::ds,0,d',e=>by simp at e;subst e;simp only[fw];lia
 |d::ds,i+1,d',e=>by have :=tY (i:=i) (ds:=ds) (d:=d') (by simpa using e);simp only[fw];lia
theorem Dp:∀(c bs:List D)(e:Nat->Bool),c.length=bs.length->(∀(i:Nat) a b,c[i]? =some a->bs[i]? =some b->e i=eqD a b)->(aH c.length).all e=oH c bs
 | [],[],e,_,_=>rfl
 |a::c,b::bs,e,hl,h=>by rw[bC,Hq,j6,pU];have d:=h 0 a b rfl rfl;have j:=Dp c bs (fun i=>e (i+1)) (by simpa using hl) fun i x y f g=>h (i+1) x y (by simpa using f) (by simpa using g);rw[d];show(eqD a b&&(aH c.length).all (fun i=>e (i+1)))=_;rw[j];rfl
 | [],b::bs,e,hl,_=>by simp at hl
 |a::c,[],e,hl,_=>by simp at hl
theorem sA:∀(c bs:List D),c.length≠bs.length->oH c bs=false
 | [],[],h=>absurd rfl h
 |a::c,b::bs,h=>by show(eqD a b&&oH c bs)=false;rw[sA c bs (by simpa using h),fT]
 | [],b::bs,_=>rfl
 |a::c,[],_=>rfl
mutual
theorem xM:∀d:D,eqD d d=true
 |.non=>rfl
 |.bl b=>beq_self_eq_true b
 |.int i=>beq_self_eq_true i
 |.str x=>beq_self_eq_true x
 |.tup ds=>t8 ds
 |.lst ds=>t8 ds
theorem t8:∀ds:List D,oH ds ds=true
 | []=>rfl
 |d::ds=>fh.mpr ⟨xM d,t8 ds⟩
end
section
variable {pins:List (Addr×Obj)}{s:Shared}
mutual
theorem Inv.vH(I:Inv X pins σ H s):∀{d c:D}{v:V},Rep X.K H d v->Rep X.K H c v->d=c
 |.non,c,v,h,h'=>by cases(show v=V.non from h);cases c<;>first | (obtain⟨_,_,z,_⟩:=h';cases z;done) |rfl| (cases h';done)
 |.bl b,c,v,h,h'=>by cases(show v=V.bl b from h);cases c<;>first | (obtain⟨_,_,z,_⟩:=h';cases z;done) | (cases h';rfl) | (cases h';done)
 |.int b,c,v,h,h'=>by cases(show v=V.int b from h);cases c<;>first | (obtain⟨_,_,z,_⟩:=h';cases z;done) | (cases h';rfl) | (cases h';done)
 |.str b,c,v,h,h'=>by cases(show v=V.str b from h);cases c<;>first | (obtain⟨_,_,z,_⟩:=h';cases z;done) | (cases h';rfl) | (cases h';done)
 |.tup ds,c,v,h,h'=>by
  obtain⟨a,w,rfl,j,p⟩:=h;cases c with
  |tup ds'=>obtain⟨b,q,e,f,k⟩:=h';cases e;have :=I.tL j f;subst this;rw[Inv.wK I p k]
  |lst ds'=>obtain⟨b,q,e,f,k⟩:=h';cases e;obtain⟨r,_,⟨o,m,l,_⟩,_⟩:=I.tuple j;obtain⟨t,_,⟨u,n,i,g,_⟩,_⟩:=I.list f;rw[m]at i;cases i;rw[l]at g;exact absurd g (by decide+kernel)
  |_=>cases h'
 |.lst ds,c,v,h,h'=>by
  obtain⟨a,w,rfl,j,p⟩:=h;cases c with
  |lst ds'=>obtain⟨b,q,e,f,k⟩:=h';cases e;have :=I.xv j f;subst this;rw[Inv.wK I p k]
  |tup ds'=>obtain⟨b,q,e,f,k⟩:=h';cases e;obtain⟨r,_,⟨o,n,m,l,_⟩,_⟩:=I.list j;obtain⟨t,_,⟨u,i,g,_⟩,_⟩:=I.tuple f;rw[m]at i;cases i;rw[l]at g;exact absurd g (by decide+kernel)
  |_=>cases h'
theorem Inv.wK(I:Inv X pins σ H s):∀{ds a:List D}{xs:List V},eX X.K H ds xs->eX X.K H a xs->ds=a
 | [],[],_,_,_=>rfl
 | [],d::ds,xs,h,h'=>by obtain⟨x,r,e,_⟩:=h';rw[show xs=[]from h]at e;cases e
 |d::ds,[],xs,h,h'=>by obtain⟨x,r,e,_⟩:=h;rw[show xs=[]from h']at e;cases e
 |d::ds,d'::a,xs,h,h'=>by obtain⟨x,r,rfl,b,f⟩:=h;obtain⟨y,i,e,c,g⟩:=h';cases e;rw[Inv.vH I b c,Inv.wK I f g]
end
open PySem.SeqAt
abbrev eqJ(ds a:List D)(j:Nat):Bool:=match ds[j]?,a[j]? with |some d,some d'=>eqD d d'|_,_=>false
def Bg{ds a:List D}(b:ds.length=a.length):(aH ds.length).all (eqJ ds a)=oH ds a:=Dp ds a _ b fun i x y c d=>by simp only[eqJ,c,d]
def GY{ds a:List D}:((aH (min ds.length a.length)).all (eqJ ds a)&&ds.length==a.length)=oH ds a:=by
 by_cases hl:ds.length=a.length;·rw[<-hl,Nat.min_self,beq_self_eq_true,uC,Bg hl]
 ·rw[sA ds a hl,beq_eq_false_iff_ne.mpr hl,fT]
def Be{ds a:List D}(q:∀(i:Nat)(d b:D)(x y:V)(u f:Value),ds[i]? =some d->a[i]? =some b->Rep X.K H d x->Rep X.K H b y->RelV x u->RelV y f->EqAt A.in1 s u f (eqD d b))(k:eX X.K H ds xs)(l:eX X.K H a ys)(r:bM xs ad)(r':bM ys its'):ad.toArray.size=ds.length/\its'.toArray.size=a.length/\∀j (g:j<ad.toArray.size)(h:j<its'.toArray.size),EqAt A.in1 s ad.toArray[j] its'.toArray[j] (eqJ ds a j):=by
 have l1:=k.length;have l2:=l.length;have E:=r.length;have F:=r'.length;refine⟨by simp;lia,by simp;lia,fun j g h=>?_⟩;have o:j<ad.length:=by simpa using g
 have p:j<its'.length:=by simpa using h
 have c:ds[j]? =some ds[j]:=ae (by lia);have e:a[j]? =some a[j]:=ae (by lia);unfold eqJ;rw[c,e];obtain⟨x,t,B⟩:=k.at c;obtain⟨y,v,C⟩:=l.at e;obtain⟨u,m,w⟩:=r.get t;obtain⟨f,n,z⟩:=r'.get v;rw[ae o]at m;rw[ae p]at n;cases m;cases n;exact q j _ _ x y _ _ c e B C w z
def Inv.rcTup(I:Inv X pins σ H s)(A:Around){ds g:List D}(o:∀(i:Nat)(d c:D)(x y:V)(u h:Value),ds[i]? =some d->g[i]? =some c->Rep X.K H d x->Rep X.K H c y->RelV x u->RelV y h->EqAt A.in1 s u h (eqD d c))(k:SqT X.K H a xs)(m:eX X.K H ds xs)(l:SqT X.K H b ys)(n:eX X.K H g ys)(q:A.units<cLine):RcAt A s (.ref a) (.ref b) (oH ds g):=by
 obtain⟨w,r,p,_⟩:=I.tuple k;obtain⟨z,v,t,_⟩:=I.tuple l;obtain⟨e,j,f⟩:=Be o m n r v;have key:=RcAt.tuples p t (A:=A) q f
 rwa [e,j,GY]at key
def Inv.rcLst(I:Inv X pins σ H s)(A:Around){ds c:List D}(t:∀(i:Nat)(d g:D)(x y:V)(u l:Value),ds[i]? =some d->c[i]? =some g->Rep X.K H d x->Rep X.K H g y->RelV x u->RelV y l->EqAt A.in1 s u l (eqD d g))(m:SqL X.K H a xs)(o:eX X.K H ds xs)(n:SqL X.K H b ys)(q:eX X.K H c ys)(j:A.units<cLine):RcAt A s (.ref a) (.ref b) (oH ds c):=by
 obtain⟨w,r,p,_⟩:=I.list m;obtain⟨z,v,k,_⟩:=I.list n;obtain⟨e,h,f⟩:=Be t o q r v;by_cases hl:ds.length=c.length
 ·have key:=RcAt.lists p.isList k.isList (A:=A) (by rw[e,h,hl]) j f
  rwa [e,Bg hl]at key
 ·have key:=RcAt.lists_lengths p.isList k.isList (A:=A) (by rw[e,h];exact bne_iff_ne.mpr hl) j
  rwa [sA ds c hl]
def Inv.shp(I:Inv X pins σ H s){d:D}{v:V}(h:Rep X.K H d v)(r:RelV v u):(d=.non/\v=.non/\u=.none)\/(∃x,d=.bl x/\v=.bl x/\u=.bool x)\/(∃x t,d=.int x/\v=.int x/\u=.int x t)\/(∃x t,d=.str x/\v=.str x/\u=.str x t)\/(∃ds a xs ad,d=.tup ds/\v=.ref a/\u=.ref a/\SqT X.K H a xs/\eX X.K H ds xs/\IsTup s.heap a ad)\/∃ds a xs ad,d=.lst ds/\v=.ref a/\u=.ref a/\SqL X.K H a xs/\eX X.K H ds xs/\s.heap.IsList a ad:=by
 cases d with
 |non=>cases(show v=_ from h);cases r;exact .inl ⟨rfl,rfl,rfl⟩
 |bl x=>cases(show v=_ from h);cases r;exact .inr (.inl ⟨x,rfl,rfl,rfl⟩)
 |int x=>cases(show v=_ from h);obtain⟨t,rfl⟩:=r;exact .inr (.inr (.inl ⟨x,t,rfl,rfl,rfl⟩))
 |str x=>cases(show v=_ from h);obtain⟨t,rfl⟩:=r;exact .inr (.inr (.inr (.inl ⟨x,t,rfl,rfl,rfl⟩)))
 |tup ds=>obtain⟨a,xs,rfl,b,c⟩:=id h;cases r;obtain⟨ad,_,p,_⟩:=I.tuple b;exact .inr (.inr (.inr (.inr (.inl ⟨ds,a,xs,_,rfl,rfl,rfl,b,c,p⟩))))
 |lst ds=>obtain⟨a,xs,rfl,b,c⟩:=id h;cases r;obtain⟨ad,_,p,_⟩:=I.list b;exact .inr (.inr (.inr (.inr (.inr ⟨ds,a,xs,_,rfl,rfl,rfl,b,c,p.isList⟩))))
def Inv.eqAt1(I:Inv X pins σ H s)(A:Around)(O:∀(m:Nat)(ds k:List D)(i:Nat)(d f:D)(x y:V)(u j:Value),n=m+1->fw ds<=m->ds[i]? =some d->k[i]? =some f->Rep X.K H d x->Rep X.K H f y->RelV x u->RelV y j->EqAt A.in1 s u j (eqD d f)):
  ∀(d f:D)(v N:V)(u j:Value),Rep X.K H d v->Rep X.K H f N->RelV v u->RelV N j->hgt d<=n->A.units+n+1<cLine->EqAt A s u j (eqD d f):=by
 intro d f v N u j h B r c o T;obtain⟨rfl,rfl,rfl⟩ |⟨_,rfl,rfl,rfl⟩ |⟨_,t,rfl,rfl,rfl⟩ |⟨_,t,rfl,rfl,rfl⟩ |⟨ds,a,R,P,rfl,rfl,rfl,C,F,p⟩ |⟨ds,a,R,P,rfl,rfl,rfl,C,F,p⟩:=I.shp h r<;>obtain⟨rfl,rfl,rfl⟩ |⟨_,rfl,rfl,rfl⟩ |⟨_,l,rfl,rfl,rfl⟩ |⟨_,l,rfl,rfl,rfl⟩ |⟨k,b,S,Q,rfl,rfl,rfl,E,G,g⟩ |⟨k,b,S,Q,rfl,rfl,rfl,E,G,g⟩:=I.shp B c
 ·exact gJ r c rfl rfl
 ·exact gJ r c rfl rfl
 ·exact gJ r c rfl rfl
 ·exact gJ r c rfl rfl
 ·exact EqAt.none_tuple g (by lia)
 ·exact EqAt.none_list g (by lia)
 ·exact gJ r c rfl rfl
 ·exact gJ r c rfl rfl
 ·exact gJ r c rfl rfl
 ·exact gJ r c rfl rfl
 ·exact EqAt.bool_tuple _ g (by lia)
 ·exact EqAt.bool_list _ g (by lia)
 ·exact gJ r c rfl rfl
 ·exact gJ r c rfl rfl
 ·exact gJ r c rfl rfl
 ·exact gJ r c rfl rfl
 ·exact EqAt.int_tuple _ t g (by lia)
 ·exact EqAt.int_list _ t g (by lia)
 ·exact gJ r c rfl rfl
 ·exact gJ r c rfl rfl
 ·exact gJ r c rfl rfl
 ·exact gJ r c rfl rfl
 ·exact EqAt.str_tuple _ t g (by lia)
 ·exact EqAt.str_list _ t g (by lia)
 ·exact EqAt.tuple_none p (by lia)
 ·exact EqAt.tuple_bool _ p (by lia)
 ·exact EqAt.tuple_int _ l p (by lia)
 ·exact EqAt.tuple_str _ l p (by lia)
 ·have o:fw ds+1<=_:=o;by_cases z:a=b;·subst z;have e:=I.vH h B;rw[<-e,xM];exact EqAt.same _
  ·exact EqAt.of_refs z (Inv.rcTup I A (fun i d f x y u j q w L M J K=>O (n-1) ds k i d f x y u j (by lia) (by lia) q w L M J K) C F E G (by lia))
 ·exact EqAt.tuple_list p g (by lia)
 ·exact EqAt.list_none p (by lia)
 ·exact EqAt.list_bool _ p (by lia)
 ·exact EqAt.list_int _ l p (by lia)
 ·exact EqAt.list_str _ l p (by lia)
 ·exact EqAt.list_tuple p g (by lia)
 ·have o:fw ds+1<=_:=o;by_cases z:a=b;·subst z;have e:=I.vH h B;rw[<-e,xM];exact EqAt.same _
  ·exact EqAt.of_refs z (Inv.rcLst I A (fun i d f x y u j q w L M J K=>O (n-1) ds k i d f x y u j (by lia) (by lia) q w L M J K) C F E G (by lia))
def Inv.Dq(I:Inv X pins σ H s):∀(n:Nat)(A:Around)(d a:D)(v c:V)(u b:Value),Rep X.K H d v->Rep X.K H a c->RelV v u->RelV c b->hgt d<=n->A.units+n+1<cLine->EqAt A s u b (eqD d a):=by
 intro n
 induction n with
 |zero=>exact fun A d a v c u b h e r j f g=>Inv.eqAt1 I A (fun m l o i d a x y u b k _ _ _ _ _ _ _=>absurd k (by lia)) d a v c u b h e r j f g
 |succ n ih=>exact fun A d a v c u b h e r j f g=>Inv.eqAt1 I A (fun m l o i d a x y u b k C p B w z q t=>ih A.in1 d a x y u b w z q t (by have :=tY p;lia) (by show A.units+1+n+1<cLine;lia)) d a v c u b h e r j f g
end
end L2
namespace L2
open PySem PySem.Spec PyProof.Rows PySem.SeqAt
section
variable {pins:List (Addr×Obj)}{s:Shared}
def Inv.neTup(I:Inv X pins σ H s)(A:Around){ds g:List D}(o:∀(i:Nat)(d c:D)(x y:V)(u h:Value),ds[i]? =some d->g[i]? =some c->Rep X.K H d x->Rep X.K H c y->RelV x u->RelV y h->EqAt A.in1 s u h (eqD d c))(k:SqT X.K H a xs)(m:eX X.K H ds xs)(l:SqT X.K H b ys)(n:eX X.K H g ys)(q:A.units<cLine):RcNeAt A s (.ref a) (.ref b) (!oH ds g):=by
 obtain⟨w,r,p,_⟩:=I.tuple k;obtain⟨z,v,t,_⟩:=I.tuple l;obtain⟨e,j,f⟩:=Be o m n r v;have key:=RcNeAt.tuples p t (A:=A) q f
 rwa [e,j,GY]at key
def Inv.neLst(I:Inv X pins σ H s)(A:Around){ds c:List D}(t:∀(i:Nat)(d g:D)(x y:V)(u l:Value),ds[i]? =some d->c[i]? =some g->Rep X.K H d x->Rep X.K H g y->RelV x u->RelV y l->EqAt A.in1 s u l (eqD d g))(m:SqL X.K H a xs)(o:eX X.K H ds xs)(n:SqL X.K H b ys)(q:eX X.K H c ys)(j:A.units<cLine):RcNeAt A s (.ref a) (.ref b) (!oH ds c):=by
 obtain⟨w,r,p,_⟩:=I.list m;obtain⟨z,v,k,_⟩:=I.list n;obtain⟨e,h,f⟩:=Be t o q r v;by_cases hl:ds.length=c.length
 ·have key:=RcNeAt.lists p.isList k.isList (A:=A) (by rw[e,h,hl]) j f
  rwa [e,Bg hl]at key
 ·have key:=RcNeAt.lists_lengths p.isList k.isList (A:=A) (by rw[e,h];exact bne_iff_ne.mpr hl) j
  rwa [sA ds c hl]
def Inv.rcD(I:Inv X pins σ H s)(A:Around)(d d':D)(v C:V)(u f:Value)(h:Rep X.K H d v)(h':Rep X.K H d' C)(r:RelV v u)(r':RelV C f)(B:A.units+hgt d+1<cLine):RcAt A s u f (eqD d d'):=by
 obtain⟨rfl,rfl,rfl⟩ |⟨_,rfl,rfl,rfl⟩ |⟨_,t,rfl,rfl,rfl⟩ |⟨_,t,rfl,rfl,rfl⟩ |⟨g,a,K,G,rfl,rfl,rfl,k,m,p⟩ |⟨g,a,K,G,rfl,rfl,rfl,k,m,p⟩:=I.shp h r<;>obtain⟨rfl,rfl,rfl⟩ |⟨_,rfl,rfl,rfl⟩ |⟨_,c,rfl,rfl,rfl⟩ |⟨_,c,rfl,rfl,rfl⟩ |⟨E,b,L,J,rfl,rfl,rfl,l,n,e⟩ |⟨E,b,L,J,rfl,rfl,rfl,l,n,e⟩:=I.shp h' r'
 ·exact RcAt.none_none
 ·exact RcAt.none_bool _
 ·exact RcAt.none_int _ c
 ·exact RcAt.none_str _ c
 ·exact RcAt.none_tuple e (by lia)
 ·exact RcAt.none_list e (by lia)
 ·exact RcAt.bool_none _
 ·exact RcAt.bool_bool _ _
 ·exact RcAt.bool_int _ _ c
 ·exact RcAt.bool_str _ _ c
 ·exact RcAt.bool_tuple _ e (by lia)
 ·exact RcAt.bool_list _ e (by lia)
 ·exact RcAt.int_none _ t
 ·exact RcAt.int_bool _ t _
 ·exact RcAt.int_int _ t _ c
 ·exact RcAt.int_str _ t _ c
 ·exact RcAt.int_tuple _ t e (by lia)
 ·exact RcAt.int_list _ t e (by lia)
 ·exact RcAt.str_none _ t
 ·exact RcAt.str_bool _ t _
 ·exact RcAt.str_int _ t _ c
 ·exact RcAt.str_str _ t _ c
 ·exact RcAt.str_tuple _ t e (by lia)
 ·exact RcAt.str_list _ t e (by lia)
 ·exact RcAt.tuple_none p (by lia)
 ·exact RcAt.tuple_bool _ p (by lia)
 ·exact RcAt.tuple_int _ c p (by lia)
 ·exact RcAt.tuple_str _ c p (by lia)
 ·exact Inv.rcTup I A (fun i d d' x y u f j F w z o q=>Inv.Dq I (fw g) A.in1 d d' x y u f w z o q (tY j) (by rw[hgt]at B;show A.units+1+fw g+1<cLine;lia)) k m l n (by lia)
 ·exact RcAt.tuple_list p e (by lia)
 ·exact RcAt.list_none p (by lia)
 ·exact RcAt.list_bool _ p (by lia)
 ·exact RcAt.list_int _ c p (by lia)
 ·exact RcAt.list_str _ c p (by lia)
 ·exact RcAt.list_tuple p e (by lia)
 ·exact Inv.rcLst I A (fun i d d' x y u f j F w z o q=>Inv.Dq I (fw g) A.in1 d d' x y u f w z o q (tY j) (by rw[hgt]at B;show A.units+1+fw g+1<cLine;lia)) k m l n (by lia)
def Inv.rcNeD(I:Inv X pins σ H s)(A:Around)(d d':D)(v C:V)(u f:Value)(h:Rep X.K H d v)(h':Rep X.K H d' C)(r:RelV v u)(r':RelV C f)(B:A.units+hgt d+1<cLine):RcNeAt A s u f (!eqD d d'):=by
 obtain⟨rfl,rfl,rfl⟩ |⟨_,rfl,rfl,rfl⟩ |⟨_,t,rfl,rfl,rfl⟩ |⟨_,t,rfl,rfl,rfl⟩ |⟨g,a,K,G,rfl,rfl,rfl,k,m,p⟩ |⟨g,a,K,G,rfl,rfl,rfl,k,m,p⟩:=I.shp h r<;>obtain⟨rfl,rfl,rfl⟩ |⟨_,rfl,rfl,rfl⟩ |⟨_,c,rfl,rfl,rfl⟩ |⟨_,c,rfl,rfl,rfl⟩ |⟨E,b,L,J,rfl,rfl,rfl,l,n,e⟩ |⟨E,b,L,J,rfl,rfl,rfl,l,n,e⟩:=I.shp h' r'
 ·exact RcNeAt.none_none
 ·exact RcNeAt.none_bool _
 ·exact RcNeAt.none_int _ c
 ·exact RcNeAt.none_str _ c
 ·exact RcNeAt.none_tuple e (by lia)
 ·exact RcNeAt.none_list e (by lia)
 ·exact RcNeAt.bool_none _
 ·exact RcNeAt.bool_bool _ _
 ·exact RcNeAt.bool_int _ _ c
 ·exact RcNeAt.bool_str _ _ c
 ·exact RcNeAt.bool_tuple _ e (by lia)
 ·exact RcNeAt.bool_list _ e (by lia)
 ·exact RcNeAt.int_none _ t
 ·exact RcNeAt.int_bool _ t _
 ·exact RcNeAt.int_int _ t _ c
 ·exact RcNeAt.int_str _ t _ c
 ·exact RcNeAt.int_tuple _ t e (by lia)
 ·exact RcNeAt.int_list _ t e (by lia)
 ·exact RcNeAt.str_none _ t
 ·exact RcNeAt.str_bool _ t _
 ·exact RcNeAt.str_int _ t _ c
 ·exact RcNeAt.str_str _ t _ c
 ·exact RcNeAt.str_tuple _ t e (by lia)
 ·exact RcNeAt.str_list _ t e (by lia)
 ·exact RcNeAt.tuple_none p (by lia)
 ·exact RcNeAt.tuple_bool _ p (by lia)
 ·exact RcNeAt.tuple_int _ c p (by lia)
 ·exact RcNeAt.tuple_str _ c p (by lia)
 ·exact Inv.neTup I A (fun i d d' x y u f j F w z o q=>Inv.Dq I (fw g) A.in1 d d' x y u f w z o q (tY j) (by rw[hgt]at B;show A.units+1+fw g+1<cLine;lia)) k m l n (by lia)
 ·exact RcNeAt.tuple_list p e (by lia)
 ·exact RcNeAt.list_none p (by lia)
 ·exact RcNeAt.list_bool _ p (by lia)
 ·exact RcNeAt.list_int _ c p (by lia)
 ·exact RcNeAt.list_str _ c p (by lia)
 ·exact RcNeAt.list_tuple p e (by lia)
 ·exact Inv.neLst I A (fun i d d' x y u f j F w z o q=>Inv.Dq I (fw g) A.in1 d d' x y u f w z o q (tY j) (by rw[hgt]at B;show A.units+1+fw g+1<cLine;lia)) k m l n (by lia)
def rEqD(K:ah):R2:=fun x y H Q=>∃d a,Rep K H d x/\Rep K H a y/\hgt d<=30/\Q (.bl (eqD d a)) H
def rNeD(K:ah):R2:=fun x y H Q=>∃d a,Rep K H d x/\Rep K H a y/\hgt d<=30/\Q (.bl (!eqD d a)) H
def op_eqD(i:X.A.units+40<cLine):OpR X (cY .Eq) (rEqD X.K):=by intro j s k H x y v u Q I e f h;obtain⟨d,a,b,c,g,q⟩:=h;exact I.rcD X.A d a x y v u b c e f (by lia) _ _ _ _ (xI I q rfl)
def op_neD(i:X.A.units+40<cLine):OpR X (cY .NotEq) (rNeD X.K):=by intro j s k H x y v u Q I e f h;obtain⟨d,a,b,c,g,q⟩:=h;exact I.rcNeD X.A d a x y v u b c e f (by lia) _ _ _ _ (xI I q rfl)
end
end L2
namespace Q
open PySem PySem.W PyProof.Rows
abbrev run{α:Type}(lt:Nat->Nat->Bool):KasT α->α
 |.ret a=>a
 |.ask i j k=>run lt (k (lt i j))
theorem run_bind{b c:Type}(lt:Nat->Nat->Bool)(f:b->KasT c):∀t:KasT b,run lt (t.bind f)=run lt (f (run lt t))
 |.ret a=>rfl
 |.ask i j k=>run_bind lt f (k (lt i j))
abbrev okT{α:Type}(lt:Nat->Nat->Bool)(n:Nat):KasT α->Prop
 |.ret _=>True
 |.ask i j k=>(i<n/\j<n/\i≠j)/\okT lt n (k (lt i j))
theorem pE{b c:Type}{lt:Nat->Nat->Bool}{f:b->KasT c}:∀{t:KasT b},okT lt n t->okT lt n (f (run lt t))->okT lt n (t.bind f)
 |.ret a,_,h=>h
 |.ask i j k,h,h'=>⟨h.1,pE h.2 h'⟩
structure Tot(lt:Nat->Nat->Bool)(n:Nat):Prop where
 tri:∀i j,i<n->j<n->i≠j->lt i j= !lt j i
 tr:∀i j k,i<n->j<n->k<n->lt i j=true->lt j k=true->lt i k=true
noncomputable abbrev at'(p:Array Nat)(i:Nat):Nat:=p.getD i 0
def Hj(p:Array Nat)(i:Nat):at' p i=(p[i]?).getD 0:=by simp[at',Array.getD_eq_getD_getElem?]
structure Pm(p:Array Nat)(n:Nat):Prop where
 perm:p.Perm (aH n).toArray
theorem Pm.size{p:Array Nat}(h:Pm p n):p.size=n:=by rw[h.perm.size_eq];simp
def Pm.lt{p:Array Nat}(h:Pm p n)(hi:i<n):at' p i<n:=by
 have a:i<p.size:=by rw[h.size];exact hi
 have e:at' p i=p[i]:=by simp[at',a]
 have m:p[i]∈(aH n).toArray:=h.perm.mem_iff.mp (Array.getElem_mem a);rw[e];simpa using m
def Pm.inj{p:Array Nat}(h:Pm p n)(hi:i<n)(f:j<n)(e:at' p i=at' p j):i=j:=by
 have a:i<p.size:=by rw[h.size];exact hi
 have b:j<p.size:=by rw[h.size];exact f
 have nd:p.toList.Nodup:=by
  have q:p.toList.Perm (aH n):=by simpa using eU.mp h.perm
  exact q.nodup_iff.mpr yo
 have c:at' p i=p.toList[i]'(by simpa using a):=by simp[at',a]
 have d:at' p j=p.toList[j]'(by simpa using b):=by simp[at',b]
 rw[c,d]at e;exact(eQ nd).mp e
def MQ{p:Array Nat}(a:j<=p.size)(k:Nat):at' (BG p i j) k=if i<=k/\k<j then at' p (i+j-1-k)else at' p k:=by rw[Hj];unfold BG;rw[getElem?_mirror_all a];split <;>rw[Hj]
def MR{p:Array Nat}{a d:Nat}(b:a<p.size)(c:d<=a)(k:Nat):at' (bubble p a d) k=if k=a-d then at' p a else if a-d<k/\k<=a then at' p (k-1)else at' p k:=by
 rw[Hj,getElem?_bubble b d c];split;·simp[at',b]
 ·split <;>rw[Hj]
def Pm.rev{p:Array Nat}(h:Pm p n):Pm (BG p i j) n:=⟨(mirror_perm _ _ _ _).trans h.perm⟩
def Pm.bub{p:Array Nat}(h:Pm p n):Pm (bubble p i j) n:=⟨(bubble_perm _ _ _).trans h.perm⟩
def Up(lt:Nat->Nat->Bool)(p:Array Nat)(m:Nat):Prop:=∀i j,i<j->j<m->lt (at' p i) (at' p j)=true
def Dn(lt:Nat->Nat->Bool)(p:Array Nat)(m:Nat):Prop:=∀i j,i<j->j<m->lt (at' p j) (at' p i)=true
section
variable {lt:Nat->Nat->Bool}{N:Nat}{p:Array Nat}
theorem Tot.flip(T:Tot lt N)(P:Pm p N)(hi:i<N)(a:j<N)(n:i≠j)(h:lt (at' p i) (at' p j)=false):lt (at' p j) (at' p i)=true:=by have q:=T.tri _ _ (P.lt hi) (P.lt a) fun e=>n (P.inj hi a e);rw[h]at q;simpa using q.symm
theorem Pm.ask{p:Array Nat}(P:Pm p N)(hi:i<N)(a:j<N)(n:i≠j):at' p i<N/\at' p j<N/\at' p i≠at' p j:=⟨P.lt hi,P.lt a,fun e=>n (P.inj hi a e)⟩
theorem Up.succ(T:Tot lt N)(P:Pm p N)(c:1<=n)(b:n<N)(u:Up lt p n)(h:lt (at' p (n-1)) (at' p n)=true):Up lt p (n+1):=by
 intro i j a d;by_cases e:j=n
 ·subst e;by_cases e2:i=j-1;·subst e2;exact h
  ·exact T.tr _ _ _ (P.lt (by lia)) (P.lt (by lia)) (P.lt b) (u i (j-1) (by lia) (by lia)) h
 ·exact u i j a (by lia)
theorem Dn.succ(T:Tot lt N)(P:Pm p N)(c:1<=n)(b:n<N)(u:Dn lt p n)(h:lt (at' p n) (at' p (n-1))=true):Dn lt p (n+1):=by
 intro i j a d;by_cases e:j=n
 ·subst e;by_cases e2:i=j-1;·subst e2;exact h
  ·exact T.tr _ _ _ (P.lt b) (P.lt (by lia)) (P.lt (by lia)) h (u i (j-1) (by lia) (by lia))
 ·exact u i j a (by lia)
theorem Ay(T:Tot lt N)(P:Pm p N):∀(f n:Nat),1<=n->n+f<=N->Up lt p n->∃m,run lt (kas_asc p f n)=m/\n<=m/\m<=n+f/\Up lt p m/\(m=n+f\/lt (at' p m) (at' p (m-1))=true)/\okT lt N (kas_asc p f n)
 | 0,n,h1,h2,u=>⟨n,rfl,aw _,aw _,u,.inl rfl,trivial⟩
 |f+1,n,h1,h2,u=>by
  unfold kas_asc;have a:=P.ask (i:=n) (j:=n-1) (by lia) (by lia) (by lia);simp only[run,okT];by_cases c:lt (at' p n) (at' p (n-1))=true;·rw[if_pos c];exact⟨n,rfl,aw _,by lia,u,.inr c,a,trivial⟩
  ·rw[if_neg c];have h:lt (at' p n) (at' p (n-1))=false:=by simpa using c
   obtain⟨m,e,k,l,b,d,g⟩:=Ay T P f (n+1) (by lia) (by lia) (u.succ T P h1 (by lia) (T.flip P (by lia) (by lia) (by lia) h));refine⟨m,e,by lia,by lia,b,?_,a,g⟩;rcases d with z|z;·exact .inl (by lia)
   ·exact .inr z
theorem Cc(T:Tot lt N)(P:Pm p N):∀(f n:Nat),1<=n->n+f<=N->Dn lt p n->∃m,run lt (kas_desc f p n 0)=(p,m,0)/\n<=m/\m<=n+f/\Dn lt p m/\okT lt N (kas_desc f p n 0)
 | 0,n,h1,h2,u=>⟨n,rfl,aw _,aw _,u,trivial⟩
 |f+1,n,h1,h2,u=>by
  unfold kas_desc;have a:=P.ask (i:=n) (j:=n-1) (by lia) (by lia) (by lia);have k:=P.ask (i:=n-1) (j:=n) (by lia) (by lia) (by lia);simp only[run,okT];by_cases c:lt (at' p n) (at' p (n-1))=true;·rw[if_pos c,if_neg (dJ 0)];obtain⟨m,e,l,o,b,g⟩:=Cc T P f (n+1) (by lia) (by lia) (u.succ T P h1 (by lia) c);exact⟨m,e,by lia,by lia,b,a,g⟩
  ·rw[if_neg c];have h:lt (at' p n) (at' p (n-1))=false:=by simpa using c
   have d:=T.flip P (by lia) (by lia) (by lia) h;simp only[run,okT];rw[if_pos d];exact⟨n,rfl,aw _,by lia,u,a,k,trivial⟩
theorem KA(T:Tot lt N)(P:Pm p N)(f:1<=n)(b:n<=N)(u:Dn lt p n):∃m a,run lt (kas_tail3 n N p)=(m,a)/\1<=m/\m<=N/\Up lt a m/\Pm a N/\okT lt N (kas_tail3 n N p):=by
 have h:Up lt (BG p 0 n) n:=by intro i j o g;rw[MQ (by rw[P.size];exact b),MQ (by rw[P.size];exact b),if_pos ⟨aV _,by lia⟩,if_pos ⟨aV _,g⟩];exact u _ _ (by lia) (by lia)
 obtain⟨m,e,k,l,c,_,d⟩:=Ay T P.rev (N-n) n f (by lia) h;unfold kas_tail3;refine⟨m,BG p 0 n,?_,by lia,by lia,c,P.rev,pE d trivial⟩;rw[run_bind,e];rfl
def Ax(T:Tot lt N)(P:Pm p N)(r:n+1<=N)(u:Dn lt p (n+1)):∃m a,run lt (jW n N p)=(m,a)/\1<=m/\m<=N/\Up lt a m/\Pm a N/\okT lt N (jW n N p):=by
 obtain⟨m,e,o,q,b,c⟩:=Cc T P (N-(n+1)) (n+1) (by lia) (by lia) u;obtain⟨k,l,d,f,g,h,i,j⟩:=KA T P (by lia) (by lia) b;unfold jW;refine⟨k,l,?_,f,g,h,i,pE c ?_⟩;·rw[run_bind,e];exact d
 ·rw[e];exact j
theorem HW(T:Tot lt N)(P:Pm p N)(x:1<=N):∃m a,run lt (kas_count N p)=(m,a)/\1<=m/\m<=N/\Up lt a m/\Pm a N/\okT lt N (kas_count N p):=by
 obtain⟨m,e,g,w,f,h,k⟩:=Ay T P (N-1) 1 (aw _) (by lia) (fun i j t u=>by lia);have v:∃b a,run lt (if(m==N)=true then wa (m,p)else if m>1 then KasT.ask (p.getD 0 0) (p.getD (m-1) 0) fun c=>if c=true then wa (m,p)else jW m N (BG p 0 m)else jW m N p)=(b,a)/\1<=b/\b<=N/\Up lt a b/\Pm a N/\
   okT lt N (if(m==N)=true then wa (m,p)else if m>1 then KasT.ask (p.getD 0 0) (p.getD (m-1) 0) fun c=>if c=true then wa (m,p)else jW m N (BG p 0 m)else jW m N p):=by
  by_cases c:m=N;·rw[if_pos (by simpa using c)];exact⟨m,p,rfl,g,by lia,f,P,trivial⟩
  ·rw[if_neg (by simpa using c)];by_cases d:m>1;·rw[if_pos d];simp only[run,okT];rw[if_pos (f 0 (m-1) (by lia) (by lia))];exact⟨m,p,rfl,g,by lia,f,P,P.ask (by lia) (by lia) (by lia),trivial⟩
   ·rw[if_neg d];obtain rfl:m=1:=by lia
    rcases h with z|z;·lia
    ·exact Ax T P (by lia) fun i j t u=>by
      obtain rfl:j=1:=by lia
      obtain rfl:i=0:=by lia
      exact z
 obtain⟨b,a,l,n,o,q,r,s⟩:=v;unfold kas_count;refine⟨b,a,?_,n,o,q,r,pE k ?_⟩;·rw[run_bind,e];exact l
 ·rw[e];exact s
theorem tO(T:Tot lt N)(P:Pm p N)(g:k<N)(u:Up lt p k):∀(f l r:Nat),l<=r->r<=k->r-l<=f->(∀i,i<l->lt (at' p i) (at' p k)=true)->(∀i,r<=i->i<k->lt (at' p k) (at' p i)=true)->
  ∃q,run lt (kas_place p k f l r)=q/\q<=k/\(∀i,i<q->lt (at' p i) (at' p k)=true)/\(∀i,q<=i->i<k->lt (at' p k) (at' p i)=true)/\okT lt N (kas_place p k f l r)
 | 0,l,r,h1,h2,h3,a,b=>⟨l,rfl,by lia,a,fun i hi=>b i (by lia),trivial⟩
 |f+1,l,r,h1,h2,h3,a,b=>by
  unfold kas_place;by_cases c:l≥ r;·rw[if_pos c];exact⟨l,rfl,by lia,a,fun i hi=>b i (by lia),trivial⟩
  ·rw[if_neg c];have v:=P.ask (i:=k) (j:=(l+r)/2) g (by lia) (by lia);simp only[run,okT];by_cases d:lt (at' p k) (at' p ((l+r)/2))=true
   ·rw[if_pos d];have key:=tO T P g u f l ((l+r)/2) (by lia) (by lia) (by lia) a fun i hi w=>?_;obtain⟨q,h,m,n,o,s⟩:=key;exact⟨q,h,m,n,o,v,s⟩;by_cases e:i=(l+r)/2;·rw[e];exact d
    ·exact T.tr _ _ _ (P.lt g) (P.lt (by lia)) (P.lt (by lia)) d (u _ _ (by lia) w)
   ·rw[if_neg d];have t:=T.flip P g (by lia:(l+r)/2<N) (by lia) (by simpa using d);have key:=tO T P g u f ((l+r)/2+1) r (by lia) h2 (by lia) (fun i hi=>?_) b;obtain⟨q,h,m,n,o,s⟩:=key;exact⟨q,h,m,n,o,v,s⟩;by_cases e:i=(l+r)/2;·rw[e];exact t
    ·exact T.tr _ _ _ (P.lt (by lia)) (P.lt (by lia)) (P.lt g) (u _ _ (by lia) (by lia)) t
end
theorem F4{lt:Nat->Nat->Bool}{N:Nat}(T:Tot lt N):∀(f k:Nat)(p:Array Nat),Pm p N->k+f=N->Up lt p k->∃c,run lt (kas_bin f p k)=c/\Up lt c N/\Pm c N/\okT lt N (kas_bin f p k)
 | 0,k,p,P,h,u=>⟨p,rfl,by rw[<-h];exact u,P,trivial⟩
 |f+1,k,p,P,h,u=>by
  have d:k<N:=by lia
  obtain⟨q,e,hq,a,b,m⟩:=tO T P d u k 0 k (aV _) (aw _) (by lia) (fun i hi=>absurd hi (du _)) fun i t v=>by lia
  have key:=F4 T f (k+1) (bubble p k (k-q)) P.bub (by lia) fun i j w x=>?_;obtain⟨c,n,o,r,s⟩:=key;unfold kas_bin;refine⟨c,?_,o,r,pE m ?_⟩;·rw[run_bind,e];exact n
  ·rw[e];exact s
  have g:k<p.size:=by rw[P.size];exact d
  rw[MR g (by lia),MR g (by lia)];have l:k-(k-q)=q:=by lia
  rw[l];by_cases c1:i=q;·rw[if_pos c1,if_neg (by lia),if_pos (by lia)];exact b _ (by lia) (by lia)
  ·rw[if_neg c1];by_cases c2:j=q;·rw[if_pos c2,if_neg (by lia)];exact a i (by lia)
   ·rw[if_neg c2];by_cases c3:q<i;·rw[if_pos (by lia),if_pos (by lia)];exact u _ _ (by lia) (by lia)
    ·rw[if_neg (by lia)];by_cases c4:q<j;·rw[if_pos (by lia)];exact u _ _ (by lia) (by lia)
     ·rw[if_neg (by lia)];exact u _ _ (by lia) (by lia)
def fk{lt:Nat->Nat->Bool}{N:Nat}(T:Tot lt N)(p:1<=N):Pm (run lt (dX N)) N/\Up lt (run lt (dX N)) N/\okT lt N (dX N):=by
 have g:Pm (eA (aH N)) N:=⟨Array.Perm.refl _⟩;obtain⟨m,a,e,s,t,d,f,h⟩:=HW T g p;have q:max m 1=m:=by lia
 have r:∃b,run lt (if m<N then kas_bin (N-max m 1) a (max m 1)else wa a)=b/\Up lt b N/\Pm b N/\okT lt N (if m<N then kas_bin (N-max m 1) a (max m 1)else wa a):=by
  rw[q];by_cases c:m<N;·rw[if_pos c];exact F4 T (N-m) m a f (by lia) d
  ·rw[if_neg c];have n:m=N:=by lia
   exact⟨a,rfl,by rw[<-n];exact d,f,trivial⟩
 obtain⟨b,i,j,k,l⟩:=r;have o:run lt (dX N)=b:=by unfold dX;rw[run_bind,e];exact i
 rw[o];refine⟨k,j,?_⟩;unfold dX;refine pE h ?_;rw[e];exact l
theorem wp_run{lt:Nat->Nat->Bool}{N:Nat}{S:Shared->Prop}{b:Nat->Nat->(Bool->Shared->Prop)->Shared->Prop}{c:Type}{G:c->Shared->Prop}
  (h:∀i j C s,i<N->j<N->i≠j->S s->(∀s',S s'->C (lt i j) s')->b i j C s):
  ∀(t:KasT c)(s:Shared),okT lt N t->S s->(∀s',S s'->G (run lt t) s')->t.kasWp b G s
 |.ret a,s,_,hs,g=>g s hs
 |.ask i j k,s,ok,hs,g=>h i j _ s ok.1.1 ok.1.2.1 ok.1.2.2 hs fun s' d=>wp_run h (k (lt i j)) s' ok.2 d g
end Q
namespace L2
open PySem PySem.Spec PyProof.Rows
structure Fly(h₀ h:Heap)(H:Hp)(pn:List (Addr×Obj))(a:Addr)(c:Value)(d:Option Addr):Prop where
 ex:∃T oe vs oT ts,h.get? a=some oe/\oe.cls=c/\oe.dict=d/\oe.data=.fields vs/\vs[1]? =some (.ref T)/\T≠a/\h.get? T=some oT/\oT.data=.fields ts/\ts[3]? =some .none/\h₀.get? T=none/\H T=none/\∀p∈pn,p.1≠T
 new:h₀.get? a=none
 un:H a=none
 pins:∀p∈pn,p.1≠a
def CXx(P:Program)(w:World):CXT:=fun b H s E e s'=>
 ∃a c d H',e=.ref a/\s'.os=s.os/\pW s'.gens/\Un (frs b) [] H H' s.heap s'.heap/\HOk P w H' s'.heap/\Fly s.heap s'.heap H' [] a c d/\E c d H'
section
variable {pins:List (Addr×Obj)}{s:Shared}
def Inv.vC(I:Inv X pins σ H s)(k:∀b o,b≠it->s.heap.get? b=some o->h'.get? b=some o)(L:H it=none)(G:it≠X.env.locals)
  (E:X.s₀.heap.get? it=none)(t:∀x c,X.env.cells.lookup x=some c->c≠it)(F:∀p∈X.pn++pins,p.1≠it):Inv X pins σ H {s with heap:=h',toks:=t'}:=by
 have h:∀b o,X.s₀.heap.get? b=some o->b≠it:=fun b o e z=>by rw[z,E]at e;cases e
 have w:∀b u,H b=some u->b≠it:=fun b u e z=>by rw[z,L]at e;cases e
 refine⟨I.ok,I.os,I.bare,⟨fun b o e n g a=>k b o (h b o e) (I.base.keep b o e n g a),fun b o e n g a=>?_,I.base.free,fun b o e a=>?_,I.base.tups,I.base.frzs,I.base.tbls⟩,?_,fun x c e=>?_,I.free,I.freeC,fun p hp=>?_,fun b u e=>?_,I.len⟩;·obtain⟨R,q⟩:=I.base.slot b o e n g a;exact⟨R,k _ _ (h b o e) q⟩
 ·obtain⟨P,q⟩:=I.base.there b o e a;exact⟨P,k _ _ (h b o e) q⟩
 ·obtain⟨m,⟨o,D,C,M,r⟩,K⟩:=I.loc;refine⟨m,⟨o,D,C,k _ _ (bI G) M,r⟩,fun i x v y A B=>?_⟩;obtain⟨u,Q,l⟩:=K i x v y A B;refine⟨u,Q,?_⟩;rcases l with l|⟨N,c,e,j,q,f⟩;·exact .inl l
  ·exact .inr ⟨N,c,e,j,k _ _ (t x c e) q,f⟩
 ·obtain⟨v,j,q,f⟩:=I.cell x c e;exact⟨v,j,k _ _ (t x c e) q,f⟩
 ·obtain⟨e,n,ne,O,d⟩:=I.pin p hp;exact⟨k _ _ (F p hp) e,n,ne,O,d⟩
 ·refine(I.hok b u e).mS (fun c v J q=>k c v ?_ q) (fun _ q=>q) fun _ _ q=>q;rcases J with z|z;·rw[z];exact w b u e
  ·exact w c _ z
def Inv.wL(I:Inv X pins σ H s){o:Obj}{vs:Array Value}(e:s.heap.get? a=some o)(f:o.data=.fields vs):a≠X.env.locals/\∀x c,X.env.cells.lookup x=some c->c≠a:=by
 refine⟨fun z=>?_,fun x c g z=>?_⟩;·obtain⟨m,⟨h,j,i,d,b,_⟩,_⟩:=I.loc;rw[<-z,e]at d;cases d;rw[f]at b;cases b
 ·obtain⟨v,h,d,b⟩:=I.cell x c g;rw[z,e]at d;cases d;rw[f]at b;cases b
def dO.has{o:HO}(x:dO P w H h a o):∃b,h.get? a=some b:=by
 cases o with
 |lst xs=>obtain⟨_,_,_,_,e⟩:=x;exact⟨_,e⟩
 |tup xs=>obtain⟨_,_,_,_,e,_⟩:=x;exact⟨_,e⟩
 |dK kvs=>obtain⟨_,_,_,_,o,_,_,e,_⟩:=x;exact⟨_,e⟩
 |dT kvs=>obtain⟨_,_,_,_,o,_,_,e,_⟩:=x;exact⟨_,e⟩
 |set S n=>obtain⟨o,_,_,_,e,_⟩:=x;exact⟨_,e⟩
 |ins C dx fs=>obtain⟨_,_,_,e,_⟩:=x;exact⟨_,e⟩
 |own y=>exact x
 |xd fs=>obtain⟨_,⟨_,_,_,e,_⟩,_⟩:=x;exact⟨_,e⟩
 |rng lo hi=>obtain⟨_,_,_,e⟩:=x;exact⟨_,e⟩
 |frz b u=>obtain⟨e,_⟩:=x;exact⟨_,e⟩
 |tbl ps=>exact⟨_,x⟩
 |met f y=>exact⟨_,x⟩
 |ext φ=>exact x.2.1
section
variable {M:Model}{E:Value->Shared->Prop}{Q:Unit->Shared->Prop}
def enter{g:Obj}{vs:Array Value}{r:Value}{more:Bool}(I:Inv X pins σ H s)(v:X.stack=X.env::X.outer)(hf:X.env.frame=some X.env.locals)
  (B:s.heap.get? a=some g)(m:g.data=.fields vs)(S:1<vs.size)(h0:X.s₀.heap.get? a=none)(D:H a=none)(hp:∀p∈X.pn++pins,p.1≠a)
  (h:∀s2,Inv X pins σ H s2->Fly X.s₀.heap s2.heap H (X.pn++pins) a g.cls g.dict->Q () s2):
  wpAny M X.A (do let f<-frameOf X.env;let l<-entryPlaceOf X.env.locals more;let b<-DZ r f .none (rawInt X.env.locals) .none l;vq (.ref a) 1 b)
   (fun _ s'=>wpAny M X.A (DO (.ref a) none) Q E s') E s:=by
 have a2:X.A.frames=some (X.env::X.outer):=by rw[<-v];exact I.ok.frames
 have N:s.heap.FunFrames X.base (X.env::X.outer):=by rw[<-v];exact I.stack
 have nofr:∀b∈frs X.stack,H b=none:=I.Ag;refine af (wpAny_frameOf_fun a2 N hf fun d R=>?_);have k:Heap.SlotsOnly (frs X.stack) s.heap d:=by rw[v];exact R
 have a1:a∉frs X.stack:=fun t=>by rw[v]at t;obtain⟨_,o,O,a3⟩:=N.mem t;rw[B]at O;cases O;exact a3 vs m
 have u1:Un (frs X.stack) [] H H s.heap d:=
  ⟨fun b o e _ j _=>(k.2.1 b j).trans e,fun b o e _ _ _=>k.2.2 b o e,fun _ _ _ n _=>n,fun b o e _=>let⟨sl,q⟩:=k.2.2 b o e;⟨_,q⟩,fun _ _ q=>q,fun _ _ _ q=>q,fun _ ps q=>⟨#[],by rw[q];simp⟩⟩
 have k1:HOk X.prog X.w H d:=fun b b0 e=>by
  refine(I.hok b b0 e).mS (fun c b2 hc q=>(k.2.1 c fun t=>?_).trans q) (fun _ q=>q) fun _ _ q=>q;have n:=nofr c t;rcases hc with z|z;·rw[z,e]at n;cases n
  ·rw[z]at n;cases n
 have V:Inv X pins σ H {s with heap:=d}:=I.call (g':=s.gens) (t':=s.toks) (d':=s.drawn) (ch:=[]) u1 k1 I.bare fun _ z=>nomatch z;have J:d.get? a=some g:=(k.2.1 a a1).trans B;refine af (wpAny_entryPlaceOf fun i a5=>?_);unfold DZ newFields;refine af (cg ?_ (a5.sizeOk5 _ _ _ _ _));generalize hob:({cls:=.type "traceback",dict:=none,data:=.fields ([r,.ref X.env.locals,.none,rawInt X.env.locals,.none]++(if i.isEmpty then bz 6 bJ else i)).toArray}:Obj)=ob;have u:ob.data=.fields ([r,.ref X.env.locals,.none,rawInt X.env.locals,.none]++(if i.isEmpty then bz 6 bJ else i)).toArray:=by rw[<-hob]
 have a4:ob.isFreed=false:=by rw[<-hob];rfl
 have W:Inv X pins σ H {s with heap:=d.push ob}:=V.kept (t':=s.toks) fun b o e=>ag _ e;have K:(d.push ob).get? a=some g:=ag _ J;have a0:(d.push ob).get? d.objs.size=some ob:=ay _ a4;have x:d.objs.size≠a:=eN (aA J);have A:=eY m (·.setIfInBounds 1 (bE d.objs.size));refine vo K m S ?_;obtain⟨a6,a7⟩:=I.wL B m;have C:Inv X pins σ H {s with heap:=(d.push ob).update a (fG (·.setIfInBounds 1 (.ref d.objs.size)))}:=
  W.vC (t':=s.toks) (fun b o j e=>by rw[aS _ _ (bI j)];exact e) D a6 h0 a7 hp
 have L:=ck (fG (·.setIfInBounds 1 (bE d.objs.size))) K (jL A);have w:((d.push ob).update a (fG (·.setIfInBounds 1 (bE d.objs.size)))).get? d.objs.size=some ob:=by rw[aS _ _ (bI x)];exact a0
 have T:3<([r,.ref X.env.locals,.none,rawInt X.env.locals,.none]++(if i.isEmpty then bz 6 bJ else i)).toArray.size:=by simp only[aD,bj,bC,qa];lia
 have U:(vs.setIfInBounds 1 (bE d.objs.size))[1]? =some (.ref d.objs.size):=by simp[S]
 refine wpAny_setFlight_none L A U w u T ?_;have y:s.heap.objs.size<=d.objs.size:=JA R.1.symm;have F:X.s₀.heap.get? d.objs.size=none:=rH (aL I.sz y);have G:H d.objs.size=none:=I.hok.fresh y;obtain⟨a8,a9⟩:=C.wL w u;have P:∀p∈X.pn++pins,p.1≠d.objs.size:=fun p hq z=>by have q:=aA (I.pin p hq).1;exact absurd (aU (z▸q) y) (dJ _)
 have Y:=C.vC (t':=s.toks) (h':=((d.push ob).update a (fG (·.setIfInBounds 1 (.ref d.objs.size)))).update d.objs.size (fG (·.setIfInBounds 3 .none)))
  (fun b o j e=>by rw[aS _ _ (bI j)];exact e) G a8 F a9 P
 refine h _ Y ⟨⟨d.objs.size,_,_,_,_,?_,Obj.cls_mapFields _ _,?_,A,U,x,ck _ w (jL (eY u _)),eY u _,?_,F,G,P⟩,h0,D,hp⟩;·show(Heap.update _ _ _).get? a=_;rw[aS _ _ x];exact L
 ·obtain⟨c',d',Z,b1⟩:=g;cases Z<;>rfl
 ·rw[qO T]
def Cy{c:Value}(I:Inv X pins σ H s)(k:X.stack=X.env::X.outer)(hf:X.env.frame=some X.env.locals)(j:X.ex=[])(b:BX s.heap h' a c args)
  (h:∀s2,Inv X pins σ H s2->Fly X.s₀.heap s2.heap H (X.pn++pins) a c none->Q () s2):
  wpAny M X.A (nT (.ref a) X.env) (fun _ s'=>wpAny M X.A (DO (.ref a) none) Q E s') E {s with heap:=h'}:=by
 obtain⟨t,d,_,_⟩:=b.there;have f:Inv X pins σ H {s with heap:=h'}:=I.kept (t':=s.toks) b.keeps;have i:H a=none:=by
  cases q:H a with
  |none=>rfl
  |some o=>obtain⟨m,e⟩:=(I.hok a o q).has;rw[b.new]at e;cases e
 unfold nT;simp only[hf];refine af (iJ (x:=.none) d rfl (by rfl) ?_);rw[if_neg (show ¬(bJ != bJ)=true by simp)];have g:X.s₀.heap.get? a=none:=by
  cases q:X.s₀.heap.get? a with
  |none=>rfl
  |some o=>obtain⟨l,e⟩:=I.base.there a o q (by rw[j];simp);rw[b.new]at e;cases e
 exact enter f k hf d rfl (by simp) g i (fun p hp z=>by have :=(I.pin p hp).1;rw[z,b.new]at this;cases this) h
def Cz{c:Value}(I:Inv X pins σ H s)(P:X.stack=X.env::X.outer)(hf:X.env.frame=some X.env.locals)(K:X.ex=[])(J:s'.os=s.os)(G:pW s'.gens)(u:Un (frs X.stack) [] H H' s.heap s'.heap)(ok:HOk X.prog X.w H' s'.heap)
  (F:Fly s.heap s'.heap H' [] a c d)(h:∀s2,Inv X pins σ H' s2->Fly X.s₀.heap s2.heap H' (X.pn++pins) a c d->Q () s2):
  wpAny M X.A (nT (.ref a) X.env) (fun _ s'=>wpAny M X.A (DO (.ref a) none) Q E s') E s':=by
 obtain⟨⟨T,L,V,S,U,r,rfl,rfl,m,k,B,f,g,l,t,y,_⟩,v,A,_⟩:=F;have i:Inv X pins σ H' s':=I.call' (ch:=[]) J u ok G fun _ z=>nomatch z;have j:∀b,s.heap.get? b=none->X.s₀.heap.get? b=none:=fun b n=>by
  cases q:X.s₀.heap.get? b with
  |none=>rfl
  |some o=>obtain⟨R,e⟩:=I.base.there b o q (by rw[K];simp);rw[n]at e;cases e
 have w:∀b,s.heap.get? b=none->∀p∈X.pn++pins,p.1≠b:=fun b n p hp z=>by have :=(I.pin p hp).1;rw[z,n]at this;cases this
 unfold nT;simp only[hf];refine af (iJ r m k ?_);rw[if_pos (show(bE T != bJ)=true by simp)];refine af (iJ f g l ?_);rw[if_neg (show ¬(bJ==rawInt X.env.locals)=true by simp[rawInt])];refine af (vo f g (cH.mp l).1 ?_);obtain⟨N,O⟩:=i.wL f g;have x:=i.vC (t':=s'.toks) (h':=s'.heap.update T (fG (·.setIfInBounds 3 .none))) (fun b o C e=>by rw[aS _ _ (bI C)];exact e) y N (j T t) O (w T t);have D:(s'.heap.update T (fG (·.setIfInBounds 3 .none))).get? a=some L:=by rw[aS _ _ B];exact r
 exact enter x P hf D m (cH.mp k).1 (j a v) A (w a v) h
end
end
end L2
namespace L2
open PySem PySem.Spec PySem.W PyProof.Rows
abbrev sy(K:ah)(C:Addr):Bool:=
 findIn K (.ref C) "__getattribute__"==some (some (.builtin "BaseException.__getattribute__"))&&findIn K (.ref C) "__getattr__"==some none&&
 findIn K (.ref C) "__class__"==some (some (.builtin "object.__class__"))&&specialIn K (.builtin "object.__class__") "__get__"==some (some (.builtin "getset_descriptor.__get__"))&&
 takesIn K (.builtin "object.__class__")==some true&&mroIn K C (.type "object")==some true&&mroIn K C (.type "BaseException")==some true&&(clsIn K C).isSome
structure yf(K:ah)(C:Addr):Prop where
 ga:findIn K (.ref C) "__getattribute__"=some (some (.builtin "BaseException.__getattribute__"))
 hook:findIn K (.ref C) "__getattr__"=some none
 cl:findIn K (.ref C) "__class__"=some (some (.builtin "object.__class__"))
 get:specialIn K (.builtin "object.__class__") "__get__"=some (some (.builtin "getset_descriptor.__get__"))
 tk:takesIn K (.builtin "object.__class__")=some true
 obj:mroIn K C (.type "object")=some true
 bex:mroIn K C (.type "BaseException")=some true
 isc:(clsIn K C).isSome=true
def Dl(h:sy K C=true):yf K C:=by unfold sy at h;simp only[aF,beq_iff_eq]at h;obtain⟨⟨⟨⟨⟨⟨⟨a,b⟩,c⟩,d⟩,e⟩,f⟩,g⟩,i⟩:=h;exact⟨a,b,c,d,e,f,g,i⟩
def Er:splitId "BaseException.__getattribute__"=some ("BaseException","__getattribute__"):=by decide+kernel
def ID:builtinKind "BaseException.__getattribute__"=some .slot:=by decide+kernel
def ga_ne:(iQ "BaseException.__getattribute__"==iQ "object.__getattribute__")=false:=by decide+kernel
section
variable {E:Value->Shared->Prop}{s:Shared}{a C:Addr}{o:Obj}{od:Option Obj}
def yd{M:Model}{b:Value}{Q:Unit->Shared->Prop}{g:Array lN}{d:Drawn}{t:Nat}{c:OsState}(e:K.In h)(J:InstAt h a o C od)(F:yf K C)(hq:Q () ⟨h,g,d,t,c⟩):
  wpAny M A (DQ "BaseException.__getattribute__" ⟨[.ref a,b],[]⟩) Q E ⟨h,g,d,t,c⟩:=by
 have f:=J.type (M:=M);have i:=looks_mroIn (M:=M) e F.bex;have j:=PySem.F.args_bexc_ga (.ref a) b;simp only[DQ,ID,Er];unfold Jt;repeat(first |lk|wp_step)
 exact hq
def Jg{tk:Tok}{R:Result->Shared->Prop}(b:K.In s.heap)(J:InstAt s.heap a o C od)(F:yf K C)(h:R (.ok (.ret (.ref C))) s):
  gR (model prog w) A (.call (.builtin "BaseException.__getattribute__") ⟨[.ref a,.str "__class__" tk],[]⟩) R s:=by
 have hf:vW K C od "__class__"=some (.bind (.builtin "getset_descriptor.__get__") (.builtin "object.__class__")):=by obtain⟨cd,c⟩:=cA.mp F.isc;unfold vW;rw[c,fK,F.cl,fK];simp[F.get,F.tk]
 obtain⟨e,g,d,t,f⟩:=s;have i:=J.type (M:=model prog w);have j:=looks_find (M:=model prog w) b J hf;refine iO gB.ga.plain Ea (yd b J F ?_);unfold Builtin.«object.__getattribute__»;repeat(first |with_reducible refine iK ?_ |lk|wp_step)
 refine class_get (s:=⟨e,g,d,t,f⟩) b J F.obj ?_;repeat(first |lk|wp_step)
 exact h
def IP{Q:Option Value->Shared->Prop}(b:K.In s.heap)(J:InstAt s.heap a o C od)(F:yf K C)(h:Q (some (.ref C)) {s with toks:=s.toks+1}):
  wpAny (model prog w) A (getAttr? (.ref a) "__class__") Q E s:=by
 obtain⟨j,g,d,t,k⟩:=s;have c:=J.type (M:=model prog w);have e:=tj (M:=model prog w) b F.ga;have f:=tj (M:=model prog w) b F.hook;have hf:vW K C od "__class__"=some (.bind (.builtin "getset_descriptor.__get__") (.builtin "object.__class__")):=by obtain⟨cd,i⟩:=cA.mp F.isc;unfold vW;rw[i,fK,F.cl,fK];simp[F.get,F.tk]
 have l:=looks_find (M:=model prog w) b J hf;have m:=looks_mroIn (M:=model prog w) b F.bex;unfold getAttr? getAttrBy? getAttrBy;refine af (wpAny_mkText (af (jg (bY (af (c.at (af (e.at ?_))))))));show wpAny _ _ (if(DP (.ref C)&&(iQ "BaseException.__getattribute__"==iQ "object.__getattribute__"))=true then _ else _) _ _ _;rw[ga_ne,fT,if_neg ak];unfold getAttrByItsOwn hookBefore;rw[if_pos (show DP (.ref C)=true from rfl)];refine af (f.at ?_);unfold callGetattribute boundAndCalled;rw[dk,if_neg ak];refine af (jg (bY (af ?_)));rw[gB.ga.bind (.ref a)];refine aj (iK (Jg (s:=⟨j,g,d,t+1,k⟩) b J F ?_));exact handed_on rfl (aj h)
end
@[reducible]def bmV:List Value:=[.type "ValueError",.type "Exception",.type "BaseException",.type "object"]
abbrev xK(a:Addr)(c:Value)(d:Option Addr):HO:=.ext fun h=>∃o,h.get? a=some o/\o.cls=c/\o.dict=d/\notCls o=true
section
variable {a C:Addr}
def LO(F:yf K C):KitX K (.ref a) (.ref C) (fun h=>∃o od,InstAt h a o C od) where
 ty:=fun M h _ p=>by obtain⟨o,od,J⟩:=p;exact J.type
 it:=fun M h c _=>by
  obtain⟨cd,b⟩:=cA.mp F.isc;unfold clsIn at b;split at b;·rename_i ho;intro A Q E s k q;unfold isType loadHead;exact af (Jm (k _ _ (c _ _ ho)) (aj q))
  ·cases b
 ne:=fun h e f g n i c d=>by
  obtain⟨cd,b⟩:=cA.mp F.isc;refine gU.mpr fun q=>?_;obtain rfl:C=e:=bE.inj (beq_iff_eq.mp q);unfold clsIn at b;split at b;·rename_i ho;have z:=(c _ _ ho).symm.trans d;cases z
  ·cases b
 ca:=fun c p k=>by obtain⟨o,od,J⟩:=p;exact IP c J F k
def Fd(ok:HOk P w H h)(e:H a=some (xK a (.ref C) d))(i:∀dd,d=some dd->∃φ,H dd=some (.ext φ)):∃o od,InstAt h a o C od:=by
 obtain⟨⟨o,b,c,f,g⟩,_⟩:=ok a _ e;cases d with
 |none=>exact⟨o,none,b,c,g,by rw[f];exact True.intro⟩
 |some dd=>obtain⟨u,j⟩:=i dd rfl;obtain⟨od,z⟩:=(ok dd _ j).2.1;exact⟨o,some od,b,c,g,by rw[f];exact z⟩
end
abbrev Cx.re(X:Cx)(A:Around)(calm:Bool)(pn:List (Addr×Obj))(xe:Value->Shared->Prop):Cx:={X with A:=A,calm:=calm,pn:=pn,xe:=xe}
section
variable {pins:List (Addr×Obj)}{s:Shared}
theorem Inv.re{calm:Bool}(I:Inv X pins σ H s)(a:A.frames=X.A.frames)(b:calm=true->A.handled=none)(hp:∀p∈pn++pins',p∈X.pn++pins):
  Inv (X.re A calm pn xe) pins' σ H s:=
 ⟨⟨I.ok.mod,I.ok.kind,I.ok.glob,I.ok.blt,I.ok.above,I.ok.inj,I.ok.has,I.ok.cab,b,a.trans I.ok.frames,I.ok.stk,I.ok.exf,I.ok.bs,I.ok.bsz,I.ok.noex,I.ok.exfs,I.ok.xE,I.ok.frf⟩,
  I.os,I.bare,I.base,I.loc,I.cell,I.free,I.freeC,fun p q=>I.pin p (hp p q),I.hok,I.len⟩
def Inv.JR{calm:Bool}(ok:X.Ok)(I:Inv (X.re A calm pn xe) pins' σ H s)(hp:∀p∈X.pn++pins,p∈pn++pins'):Inv X pins σ H s:=
 ⟨ok,I.os,I.bare,I.base,I.loc,I.cell,I.free,I.freeC,fun p q=>I.pin p (hp p q),I.hok,I.len⟩
def pG{M:Model}{n:Str}{Q:Unit->Shared->Prop}(I:Inv X pins σ H s)(B:X.N.Nodup)(hi:X.N[i]? =some n)(F:X.env.scope.names.lookup n=some .local)
  (h:∀s',Inv X pins (σ.set i none) H s'->Q () s'):wpAny M A (do bindName X.env n .none;unbindBehindTheSuite X.env n pos) Q E s:=by
 obtain⟨m,u,G⟩:=id I.loc;have D:(X.env.scope.kind== .class||(X.env.scope.kind== .module&&X.env.locals != X.env.globals))=false:=by rw[I.ok.kind];rfl
 obtain⟨V,_,_,U,_⟩:=id u;refine wpAny_nameGoes_keeps F u D fun T v J a=>h _ ?_;have t:∀b o,X.s₀.heap.get? b=some o->b≠X.env.locals:=fun b o e=>aP (aU (aA e) I.ok.above);refine⟨I.ok,I.os,I.bare,⟨fun b o e n r l=>(a.2 b (t b o e)).trans (I.base.keep b o e n r l),fun b o e n r l=>?_,I.base.free,fun b o e l=>?_,I.base.tups,I.base.frzs,I.base.tbls⟩,⟨_,J,fun j y S f g x=>?_⟩,fun y c e=>?_,I.free,I.freeC,fun p hp=>?_,fun b N e=>?_,by simpa using I.len⟩;·obtain⟨P,f⟩:=I.base.slot b o e n r l;exact⟨P,(a.2 b (t b o e)).trans f⟩
 ·obtain⟨L,f⟩:=I.base.there b o e l;exact⟨L,(a.2 b (t b o e)).trans f⟩
 ·by_cases hj:j=i
  ·subst hj;rw[List.getElem?_set]at g;split at g;·split at g<;>cases g
   ·exact absurd rfl (by assumption)
  ·rw[rG (bI hj)]at g;obtain⟨R,O,q⟩:=G j y S f g x;refine⟨R,O,?_⟩;rcases q with⟨k,e⟩ |⟨k,c,e,z⟩;·refine .inl ⟨k,?_⟩;have :y≠n:=fun e=>hj (w6 B f (e▸hi));simp[this,e]
   ·exact .inr ⟨k,c,e,z.sameBut a (I.cne y c e)⟩
 ·obtain⟨w,z⟩:=I.cell y c e;exact⟨w,z.sameBut a (I.cne y c e)⟩
 ·obtain⟨e,n,ne,K,d⟩:=I.pin p hp;exact⟨(a.2 p.1 ne).trans e,n,ne,K,d⟩
 ·refine(I.hok b N e).mS (fun c w C q=>(a.2 c ?_).trans q) (fun _ q=>q) fun _ _ q=>q;have hf:=I.free;rintro rfl;rcases C with z|z;·rw[<-z,hf]at e;cases e
  ·rw[hf]at z;cases z
def Inv.take{c:Value}(I:Inv X pins σ H s)(J:X.ex=[])(F:Fly X.s₀.heap s.heap H (X.pn++pins) a c d):Inv X pins σ (upd H a (xK a c d)) s:=by
 obtain⟨⟨T,l,M,K,L,i,v,w,j,_⟩,y,f,hp⟩:=F;obtain⟨C,D⟩:=I.wL i j;refine⟨I.ok,I.os,I.bare,⟨I.base.keep,I.base.slot,fun b o e n h=>?_,I.base.there,fun b m e=>?_,fun b o u e=>?_,fun b B e=>?_⟩,I.loc,I.cell,?_,fun x g e=>?_,fun p q=>?_,fun b u e=>?_,I.len⟩;·rw[ba (fun z=>by rw[z,y]at e;cases e)];exact I.base.free b o e n h
 ·have q:=I.base.tups b m e;rw[ba (bL q f)];exact q
 ·have q:=I.base.frzs b o u e;rw[ba (bL q f)];exact q
 ·obtain⟨more,q⟩:=I.base.tbls b B e;exact⟨more,by rw[ba (bL q f)];exact q⟩
 ·rw[ba (bI C)];exact I.free
 ·rw[ba (D x g e)];exact I.freeC x g e
 ·obtain⟨e,n,ne,A,d⟩:=I.pin p q;exact⟨e,by rw[ba (hp p q)];exact n,ne,A,d⟩
 ·by_cases h:b=a;·subst h;rw[au]at e;cases e;refine⟨⟨l,i,v,w,by unfold notCls;rw[j]⟩,⟨l,i⟩,fun E G p k=>?_⟩;obtain⟨o,t,r⟩:=p;exact⟨o,k o t,r⟩
  ·rw[ba h]at e;exact(I.hok b u e).mS (fun _ _ _ q=>q) (fun g q=>by rw[ba (bL q f)];exact q) fun g m q=>by rw[ba (bL q f)];exact q
end
abbrev Ends.drop(D:Ends)(i:Nat):Ends:={nx:=fun σ H=>D.nx (σ.set i none) H,rt:=D.rt,bk:=fun σ H=>D.bk (σ.set i none) H,ct:=fun σ H=>D.ct (σ.set i none) H}
def t9(K:ah)(C:Addr)(i:Nat)(ts:TS)(D:Ends):St->XK:=fun σ c d H=>
 c=c/\exmOne K c (.ref C)=some true/\∀a,H a=none->ts (D.drop i) (σ.set i (some (.ref a))) (upd H a (xK a c d))
def kh(X:Cx)(pins:List (Addr×Obj))(D:Ends)(a:List ExceptHandler):Value->Shared->Prop:=fun e b=>
 wpAny (model X.prog X.w) X.A (nT e X.env) (fun _ s2=>wpAny (model X.prog X.w) X.A (DO e none) (fun _ s3=>wpAny (model X.prog X.w) X.A (handleBy e X.env a) (SP X pins D) X.xe s3) X.xe s2) X.xe b
section
variable {pins:List (Addr×Obj)}{s:Shared}{x n:Str}{C:Addr}{b₀:Stmt}{suite:List Stmt}{hpos:Pos}{ts:TS}{D:Ends}
structure DM(X:Cx)(x n:Str)(C:Addr)(i:Nat)(suite:List Stmt)(ts:TS):Prop where
 nd:X.N.Nodup
 at_:X.N[i]? =some n
 loc:X.env.scope.names.lookup n=some .local
 gl:Gl X x
 mg:X.mg x=some (.ref C)
 db:(x==("__debug__":Str))=false
 stk:X.stack=X.env::X.outer
 fr:X.env.frame=some X.env.locals
 ex:X.ex=[]
 su:∀(pins:List (Addr×Obj))(a:Addr),PSs (X.re (X.A.mark (some (.ref a))) false (X.pn++pins) (fun _ _=>False)) suite ts
def uf{c:Value}(O:DM X x n C i (b₀::suite) ts)(I:Inv X pins σ H s)(F:Fly X.s₀.heap s.heap H (X.pn++pins) a c d)(h:t9 X.K C i ts D σ c d H):
  wpAny (model X.prog X.w) X.A (handleBy (.ref a) X.env [.ExceptHandler (some (.Name x np)) (some n) (b₀::suite) hpos]) (SP X pins D) X.xe s:=by
 obtain⟨_,hm,hk⟩:=h;obtain⟨⟨T,oe,vs,oT,tv,o,t,Y,G,w,E,m,l,y,K,A,L⟩,a0,B,hp⟩:=F;refine wpAny_handleBy_cons (codeAny_handlers_test ?_) (by intro q;cases q);have Q:Inv (X.re (X.A.mark (some (.ref a))) false (X.pn++pins) (fun _ _=>False)) [] σ H s:=I.re rfl (fun z=>nomatch z) fun p q=>by simpa using q
 refine pH Q O.gl O.mg ?_ O.db;have W:Looks (model X.prog X.w) s.heap (typeOf (.ref a)) c:=t▸(Looks.ld o).andThen .now;refine(exm_one I.kIn W hm).here (codeAny_handlers_suite_as ?_);refine wpAny_setFlight_none o G w m l (cH.mp y).1 ?_;obtain⟨a1,a2⟩:=I.wL m l;have R:=I.vC (t':=s.toks) (h':=s.heap.update T (fG (·.setIfInBounds 3 .none))) (fun a3 a4 Z e=>by rw[aS _ _ (bI Z)];exact e) A a1 K a2 L;have P:Fly X.s₀.heap (s.heap.update T (fG (·.setIfInBounds 3 .none))) H (X.pn++pins) a c d:=by refine⟨⟨T,oe,vs,_,_,by rw[aS _ _ E];exact o,t,Y,G,w,E,ck _ m (jL (eY l _)),eY l _,?_,K,A,L⟩,a0,B,hp⟩;rw[qO (cH.mp y).1]
 have S:=R.take O.ex P;refine wu S O.nd O.at_ (.inl O.loc) (v:=.ref a) rfl (fun M U=>?_) (.inr O.loc);have V:Inv (X.re (X.A.mark (some (.ref a))) false (X.pn++pins) (fun _ _=>False)) [] (σ.set i (some (.ref a))) (upd H a (xK a c d)) M:=U.re rfl (fun z=>nomatch z) fun p q=>by simpa using q
 refine cZ (O.su pins a [] M _ _ (D.drop i) V (hk a B)) (fun f N q=>?_) fun _ _ z=>z.elim;have k:∀{j:St}{b:Hp},Inv (X.re (X.A.mark (some (.ref a))) false (X.pn++pins) (fun _ _=>False)) [] j b N->Inv X pins j b N:=fun{j b} J=>J.JR I.ok fun p q=>by simpa using q
 cases f with
 |next =>obtain⟨j,b,J,q⟩:=q;exact pG (k J) O.nd O.at_ O.loc fun r g=>⟨_,_,g,q⟩
 |brk=>obtain⟨j,b,J,q⟩:=q;exact pG (k J) O.nd O.at_ O.loc fun r g=>⟨_,_,g,q⟩
 |cont=>obtain⟨j,b,J,q⟩:=q;exact pG (k J) O.nd O.at_ O.loc fun r g=>⟨_,_,g,q⟩
 |ret u=>obtain⟨v,j,b,J,rv,q⟩:=q;exact pG (k J) O.nd O.at_ O.loc fun r g=>⟨v,_,_,g,rv,q⟩
def JT(O:DM X x n C i (b₀::suite) ts){e:Value}(ok:X.Ok)(m:X.calm=true)
  (I:Inv (X.re X.A X.calm (X.pn++pins) (kh X pins D [.ExceptHandler (some (.Name x np)) (some n) (b₀::suite) hpos])) pins' σ H s)(h:CXx X.prog X.w X.stack H s (t9 X.K C i ts D σ) e s'):
  kh X pins D [.ExceptHandler (some (.Name x np)) (some n) (b₀::suite) hpos] e s':=by
 obtain⟨a,c,d,l,rfl,j,g,u,k,F,q⟩:=h;have J:Inv X pins σ H s:=I.JR ok fun p z=>bZ _ z;exact Cz J O.stk O.fr O.ex j g u k F fun o f b=>uf O f b q
def JU(O:DM X x n C i (b₀::suite) ts){c:Value}(ok:X.Ok)
  (I:Inv (X.re X.A X.calm (X.pn++pins) (kh X pins D [.ExceptHandler (some (.Name x np)) (some n) (b₀::suite) hpos])) pins' σ H s)(e:BX s.heap h' a c args)(h:t9 X.K C i ts D σ c none H):
  kh X pins D [.ExceptHandler (some (.Name x np)) (some n) (b₀::suite) hpos] (.ref a) {s with heap:=h'}:=by
 have J:Inv X pins σ H s:=I.JR ok fun p z=>bZ _ z;exact Cy J O.stk O.fr O.ex e fun f d b=>uf O d b h
def ps_try{g:List Stmt}{tb:Ends->TS}(j:∀pins D,X.Ok->PSs (X.re X.A X.calm (X.pn++pins) (kh X pins D [.ExceptHandler (some (.Name x np)) (some n) (b₀::suite) hpos])) g (tb D)):
  PS X (.Try g [.ExceptHandler (some (.Name x np)) (some n) (b₀::suite) hpos] [] [] pos) (fun D σ H=>tb D D σ H):=by
 intro pins s σ H D I h;have i:Inv (X.re X.A X.calm (X.pn++pins) (kh X pins D [.ExceptHandler (some (.Name x np)) (some n) (b₀::suite) hpos])) [] σ H s:=I.re rfl I.ok.hd fun p q=>by simpa using q
 refine wpAny_Try_except (cZ (j pins D I.ok [] s σ H D i h) (fun f d q=>?_) fun e d q=>q);have c:∀{b:St}{a:Hp},Inv (X.re X.A X.calm (X.pn++pins) (kh X pins D [.ExceptHandler (some (.Name x np)) (some n) (b₀::suite) hpos])) [] b a d->Inv X pins b a d:=fun{b a} J=>J.JR I.ok fun p q=>by simpa using q
 cases f with
 |next =>obtain⟨b,a,J,q⟩:=q;exact AF pins d b a D (c J) q
 |brk=>obtain⟨b,a,J,q⟩:=q;exact⟨_,_,c J,q⟩
 |cont=>obtain⟨b,a,J,q⟩:=q;exact⟨_,_,c J,q⟩
 |ret u=>obtain⟨v,b,a,J,k,q⟩:=q;exact⟨v,_,_,c J,k,q⟩
end
noncomputable abbrev XS:=St->XK
noncomputable abbrev N0:XS:=fun _=>E0
def z6(CX:CXT)(X:Cx)(E:XS):Prop:=∀(pins:List (Addr×Obj))(σ:St)(H:Hp)(s:Shared)(e:Value)(s':Shared),Inv X pins σ H s->CX X.stack H s (E σ) e s'->X.xe e s'
def MadeS(X:Cx)(E:XS):Prop:=∀(pins:List (Addr×Obj))(σ:St)(H:Hp)(s:Shared)(a:Addr)(c:Value)(args:List Value)(h':Heap),Inv X pins σ H s->BX s.heap h' a c args->E σ c none H->X.xe (.ref a) {s with heap:=h'}
section
variable {CX:CXT}{f:Addr}{fd:fg}{ps:List Str}{sp:Sp}{ds:List Value}{E:XS}{x:Str}{p:Pos}{es:List Expr}{t:TA}
def F3{Q:VK}{vs:List V}(F:jx X.prog X.w X.K X.mg X.base CX k f fd ps sp)(g:jf k X.A)(b:Binds X.K fd ps ds)(c:bM al ds)(i:z6 CX X E)
  (I:Inv X pins σ H s)(r:bM vs us)(h:sp (vs++al) H Q (E σ)):wpAny (model X.prog X.w) X.A (call (.ref f) us) (EP X pins σ Q) X.xe s:=by
 have a:bM (vs++al) (us++ds):=r.append c;have d:(us++ds).length=ps.length:=a.length.symm.trans (F.len _ _ _ _ h);refine iK (jY (F.run X.A X.stack s H ⟨us,[]⟩ (us++ds) (vs++al) Q (E σ) g I.env0 (b s us I.kIn d) a h) fun r j hq=>?_);cases r with
 |error e=>exact i pins σ H s e j I hq
 |ok fl=>cases fl<;>first |exact I.after hq|exact hV hq
def K9(F:jx X.prog X.w X.K X.mg X.base CX k f fd ps sp)(o:jf k X.A)(j:Gl X x)(m:X.mg x=some (.ref f))(l:cP X.K (.ref f)=true)(c:Binds X.K fd ps ds)(d:bM al ds)(u:z6 CX X E)
  (b:PA X (e::es) t)(g:(x==("__debug__":Str))=false)(i:bB (e::es) X.env=(false,eval e X.env)::bB es X.env)(n:(backTo pos (bB es X.env)).any (·.1)=false):
  PE X (.Call (.Name x p) (e::es) [] pos) (fun σ H Q=>B6 sp al (E σ) t σ H Q):=by
 intro v s σ H Q I h;refine gP (pH I j m ?_ g);exact Jx (h₀:=X.base) I.ok.mod.kin l (thn (b pos v s σ H _ I h) fun z y ⟨A,w,a,r,q⟩=>⟨a.kIn,F3 F o c d u a r q⟩) i n
def Ig(F:jx X.prog X.w X.K X.mg X.base CX k f fd ps sp)(i:jf k X.A)(d:Gl X x)(g:X.mg x=some (.ref f))(e:cP X.K (.ref f)=true)(a:Binds X.K fd ps ds)(b:bM al ds)(j:z6 CX X E)
  (c:(x==("__debug__":Str))=false):PE X (.Call (.Name x p) [] [] pos) (fun σ H Q=>B6 sp al (E σ) vi σ H Q):=by
 intro l s σ H Q I h;refine gP (pH I d g ?_ c);exact PySem.W.callWith_K0 I.kIn e (F3 (us:=[]) F i a b j I .nil h)
end
section
variable {mg:Str->Option Value}
def Je{cd:Value}{outer:List Env}{E:XK}:
  z6 (CXx P w) (Bl (CXx P w) P w K mg base N qual scope f cd A outer s H E) (fun _=>E):=by
 intro R W Q U e S I h;obtain⟨a,c,d,i,rfl,D,C,u,G,F,q⟩:=h;show wpAny _ _ (leaving _ _) _ _ _;unfold leaving;refine af (Cz I rfl rfl rfl D C u G F fun V b g=>?_);obtain⟨⟨T,L,O,J,M,l,o,p,r,t,v,x,y,B,m,n,_⟩,j,k,_⟩:=g;exact⟨a,c,d,i,rfl,b.os,b.bare,b.base,b.hok,⟨⟨T,L,O,J,M,l,o,p,r,t,v,x,y,B,m,n,fun _ z=>nomatch z⟩,j,k,fun _ z=>nomatch z⟩,q⟩
def Jf{cd:Value}{outer:List Env}{E:XK}:
  MadeS (Bl (CXx P w) P w K mg base N qual scope f cd A outer s H E) (fun _=>E):=by
 intro G M e J a c D F I v q;show wpAny _ _ (leaving _ _) _ _ _;unfold leaving;refine af (Cy I rfl rfl rfl v fun L b d=>?_);obtain⟨⟨T,y,C,x,B,i,l,m,n,o,p,r,t,u,j,k,_⟩,g,h,_⟩:=d;exact⟨a,c,none,e,rfl,b.os,b.bare,b.base,b.hok,⟨⟨T,y,C,x,B,i,l,m,n,o,p,r,t,u,j,k,fun _ z=>nomatch z⟩,g,h,fun _ z=>nomatch z⟩,q⟩
def IQ{o:List Env}{e:Value}(h:CXx P w o H s E0 e s'):False:=by obtain⟨_,_,_,_,_,_,_,_,_,_,q⟩:=h;exact q
def jx.calm{a:fg}{sp:Sp}(F:jx P w K mg base (CXx P w) k f a ps sp):jx P w K mg base CX0 k f a ps (fun vs H Q _=>sp vs H Q E0):=
 ⟨fun vs H Q E h=>F.len vs H Q E0 h,fun A l s H b m vs Q E g d c j i=>jY (F.run A l s H b m vs Q E0 g d c j i) fun r n q=>by
  cases r with
  |error e=>exact IQ q
  |ok fl=>cases fl<;>exact q⟩
end
end L2
namespace Q
open PySem PySem.Spec PySem.W PyProof.Rows L2
abbrev gV(lt:Nat->Nat->Bool)(vs:List Value):List Value:=if vs.length<2 then vs else(run lt (dX vs.length)).toList.map fun i=>vs.getD i .none
def Jl(prog:Program)(w:World)(A:Around)(lt:Nat->Nat->Bool)(vs:List Value)(h0:Heap):Prop:=
 ∀a:Shared,(∀b o,h0.get? b=some o->a.heap.get? b=some o)->
  ∃κ,(∀(c:SortKind->Shared->Prop)(d:Value->Shared->Prop),c κ a->wpAny (model prog w) A (keyKind' vs.toArray) c d a)/\
   ∀i j (C:Bool->Shared->Prop),i<vs.length->j<vs.length->i≠j->C (lt i j) a->kas_ask prog w A κ vs i j C a
section
variable {E:Value->Shared->Prop}{s:Shared}{lt:Nat->Nat->Bool}{vs:List Value}
def gh(h:n<64):n<=sizeLine:=by rw[vp];lia
def FY(h:n<64):n<=sizeLine+1:=fA (gh h)
def FX{P:dI->Shared->Prop}(T:Tot lt vs.length)(r:s.heap.get? a=some (seqObj "list" vs.toArray n))(k0:∀b o,h0.get? b=some o->s.heap.get? b=some o/\b≠a)(g:vs.length<64)
  (ask:2<=vs.length->Jl prog w A lt vs h0)(h:P (.done (.ret .none)) {s with heap:=sortedHeap s.heap a vs (gV lt vs).toArray}):wpAny (model prog w) A (Builtin.«list.sort» ⟨[.ref a],[]⟩) P E s:=by
 have f:vs.toArray.size=vs.length:=by simp
 obtain⟨c,v⟩:∃c,(s.heap.update a (bf fun _=> #[])).get? a=some (seqObj "list" #[] c):=⟨_,tG r _⟩;have l:(((s.heap.update a (bf fun _=> #[])).push (seqObj "tuple" vs.toArray 0)).push (seqObj "list" #[] 0)).get? a=some (seqObj "list" #[] c):=ag _ (ag _ v);have N:∀b o,h0.get? b=some o->(((s.heap.update a (bf fun _=> #[])).push (seqObj "tuple" vs.toArray 0)).push (seqObj "list" #[] 0)).get? b=some o:=fun b o e=>
  ag _ (ag _ ((aS _ _ (bI (k0 b o e).2)).trans (k0 b o e).1))
 rw[list_sort_plain];refine af (listItems_at r rfl (af (fX r rfl ?_ (by rw[f];exact gh g) (aV _))));refine af (vx v rfl (af (wpAny_newTuple ?_ (show vs.length<=_ from gh g))));refine af (pZ (bY ?_) (aV _));by_cases hn:vs.length<2
 ·have e:gV lt vs=vs:=if_pos hn;rw[e]at h;dsimp only;rw[if_pos (by rw[f];exact hn),if_pos (by rw[f];exact hn)];refine af (aj (af ?_));rw[StateT.run_pure];refine aj (af (vx l rfl (af (fX l rfl ?_ (aV _) ?_))))
  ·have q:(arrOf (SortSt.mk' general' (vs.toArray.zip vs.toArray) #[] 7 none)).map (·.2)=vs.toArray:=by show(vs.toArray.zip vs.toArray).map (·.2)=vs.toArray;apply Nn;simp[n6]
   rw[q];have k:failedOf ((),SortSt.mk' general' (vs.toArray.zip vs.toArray) #[] 7 none).snd=none:=rfl;rw[k];simp only[bne_self_eq_false,aZ,if_false];exact aj h
  ·show((vs.toArray.zip vs.toArray).map (·.2)).size<=_;rw[Array.size_map,Array.size_zip,f,Nat.min_self];exact fA (gh g)
 ·have u:2<=vs.length:=by lia
  have e:gV lt vs=(run lt (dX vs.length)).toList.map fun i=>vs.getD i .none:=if_neg hn;rw[e]at h;dsimp only;rw[if_neg (by rw[f];exact hn),if_neg (by rw[f];exact hn)];obtain⟨κ,J,K⟩:=ask u {s with heap:=((s.heap.update a (bf fun _=> #[])).push (seqObj "tuple" vs.toArray 0)).push (seqObj "list" #[] 0)} N;obtain⟨y,O,x⟩:=fk T (by lia:1<=vs.length);refine af (J _ _ (af ?_));have key:=kat_run (prog:=prog) (w:=w) (A:=A) (E:=E) (κ:=κ) (ks:=vs) (vs:=vs) (s:={s with heap:=((s.heap.update a (bf fun _=> #[])).push (seqObj "tuple" vs.toArray 0)).push (seqObj "list" #[] 0)})
   (Q:=fun m d=>d={s with heap:=((s.heap.update a (bf fun _=> #[])).push (seqObj "tuple" vs.toArray 0)).push (seqObj "list" #[] 0)}/\arrOf m=(run lt (dX vs.length)).map (kas_item (vs.toArray.zip vs.toArray))/\failedOf m=none)
   (G:=fun p d=>d={s with heap:=((s.heap.update a (bf fun _=> #[])).push (seqObj "tuple" vs.toArray 0)).push (seqObj "list" #[] 0)}/\p=run lt (dX vs.length)) rfl u g
   (fun p m d _ B q k=>⟨k.1,by rw[B,k.2],q⟩)
   (wp_run (S:=fun d=>d={s with heap:=((s.heap.update a (bf fun _=> #[])).push (seqObj "tuple" vs.toArray 0)).push (seqObj "list" #[] 0)}) (fun i j C d hi I H t D=>by subst t;exact K i j C hi I H (D _ rfl)) _ _ x rfl fun d t=>⟨t,rfl⟩)
  refine cZ key ?_ fun _ _ z=>z;rintro⟨⟨⟩,m⟩ d ⟨rfl,F,hf⟩;have M:=kat_snds (ks:=vs) (vs:=vs) rfl F;dsimp only;rw[M,hf];have L:(eA ((run lt (dX vs.length)).toList.map fun i=>vs.getD i bJ)).size<=sizeLine+1:=by rw[aD,ai,cD,y.size];exact fA (gh g)
  refine af (vx l rfl (af (fX l rfl ?_ (aV _) L)));simp only[bne_self_eq_false,aZ,if_false];exact aj h
def zb{Q:Value->Shared->Prop}(T:Tot lt vs.length)(g:s.heap.IsList l vs.toArray)(a:vs.length<64)(ask:2<=vs.length->Jl prog w A.in1.in1 lt vs s.heap)
  (h:Q (.ref (s.heap.objs.size+1)) {s with heap:=sortedAll s.heap vs (gV lt vs).toArray}):wpAny (model prog w) A (call (.builtin "sorted") [.ref l]) Q E s:=by
 refine mO kind_sorted plain_sorted entry_sorted (args_sorted1 _) ?_;unfold Builtin.«sorted»;refine af (m:=checkCount "sorted" 1 1 _) (aj (af (collect_list g (af (pZ ?_ (show vs.length<=_ from gh a))) (gh a))));generalize hH:(s.heap.push (seqObj "list" #[] 0)).update s.heap.objs.size (bf (·++vs.toArray))=h1;have d:h1.objs.size=s.heap.objs.size+1:=by rw[<-hH,n8,Jp]
 have i:∀b o,s.heap.get? b=some o->h1.get? b=some o:=fun b o e=>by have f:=aA e;rw[<-hH,aS _ _ (eN f)];exact ag _ e
 have c:(h1.push (seqObj "list" vs.toArray 0)).get? (s.heap.objs.size+1)=some (seqObj "list" vs.toArray 0):=by rw[<-d];exact ay _ rfl
 have hq:sortedAll s.heap vs (gV lt vs).toArray=sortedHeap (h1.push (seqObj "list" vs.toArray 0)) (s.heap.objs.size+1) vs (gV lt vs).toArray:=by rw[<-hH];rfl
 rw[hq]at h;show wpAny _ _ _ _ _ {s with heap:=h1.push (seqObj "list" vs.toArray 0)};rw[d];refine af (bY (cS Jo ⟨_,c,rfl⟩ FF (FX T c (fun b o e=>⟨ag _ (i b o e),aP (bK (aA e))⟩) a ask ⟨_,rfl,?_⟩) (args_list_sort _)));exact aj ⟨_,rfl,h⟩
end
abbrev tlt(x y:Str):Bool:=decide (x.cps.toList<y.cps.toList)
abbrev oF(ks:List Str)(i j:Nat):Bool:=tlt (ks.getD i "") (ks.getD j "")
abbrev ord(ks:List Str):List Nat:=if ks.length<2 then aH ks.length else(run (oF ks) (dX ks.length)).toList
abbrev sortBy{α:Type}(d:α)(ks:List Str)(ys:List α):List α:=(ord ks).map fun i=>ys.getD i d
def str_ext{y:Str}(h:x.cps.toList=y.cps.toList):x=y:=by obtain⟨a⟩:=x;obtain⟨b⟩:=y;have :a=b:=Array.toList_inj.mp h;rw[this]
def yT{y:Str}(a:tlt x y=true)(b:tlt y z=true):tlt x z=true:=by unfold tlt at *;rw[decide_eq_true_eq]at *;exact List.lt_trans a b
def tlt_tri{y:Str}(h:x≠y):tlt x y= !tlt y x:=by
 unfold tlt;by_cases c:x.cps.toList<y.cps.toList;·have d:¬y.cps.toList<x.cps.toList:=fun z=>List.lt_irrefl _ (List.lt_trans c z);rw[decide_eq_true c,decide_eq_false d];rfl
 ·by_cases d:y.cps.toList<x.cps.toList;·rw[decide_eq_false c,decide_eq_true d];rfl
  ·exact absurd (str_ext (List.le_antisymm (List.not_lt.mp d) (List.not_lt.mp c))) h
def wj(nd:ks.Nodup):Tot (oF ks) ks.length where
 tri:=fun i j hi c h=>tlt_tri fun e=>h (by rw[aa,aa,ae hi,ae c]at e;exact(eQ nd).mp e)
 tr:=fun i j k _ _ _ a b=>yT a b
def ord_len(ks:List Str)(nd:ks.Nodup):(ord ks).length=ks.length:=by
 unfold ord;split;·simp
 ·rw[cD,(fk (wj nd) (by lia)).1.size]
theorem Le(nd:ks.Nodup)(f:ks.length=ys.length)(r:bM ys vs):bM (sortBy .non ks ys) (gV (oF ks) vs):=by
 have o:=r.length;have e:vs.length=ks.length:=by lia
 unfold gV sortBy ord;rw[e];by_cases c:ks.length<2
 ·rw[if_pos c,if_pos c];have a:(aH ks.length).map (fun i=>ys.getD i V.non)=ys:=by
   rw[f];apply bR;·simp
   ·intro i n b;simp[b]
  rw[a];exact r
 ·rw[if_neg c,if_neg c];have P:=(fk (wj nd) (by lia)).1;have all:∀l:List Nat,(∀i∈l,i<ks.length)->bM (l.map fun i=>ys.getD i V.non) (l.map fun i=>vs.getD i bJ):=by
   intro l
   induction l with
   |nil=>exact fun _=>.nil
   |cons i l ih=>
    intro h;have hi:i<ys.length:=by have :=h i (.head _);lia
    obtain⟨u,g,k⟩:=r.get (ae hi);refine .cons ?_ (ih fun j d=>h j (.tail _ d));show L2.RelV (ys.getD i V.non) (vs.getD i bJ);rw[aa,ae hi,aa,g];exact k
  refine all _ fun i hi=>?_;have m:i∈(aH ks.length).toArray:=P.perm.mem_iff.mp (j7.mp hi);simpa using m
def J8(r:BJ vs ks)(hi:i<ks.length):∃t,vs.getD i .none=.str (ks.getD i "") t:=by
 induction r generalizing i with
 |nil=>exact absurd hi (du _)
 |cons y t h ih=>
  cases i with
  |zero=>exact⟨t,rfl⟩
  |succ i=>exact ih (by simpa using hi)
def wt(r:BJ vs ks):vs.length=ks.length:=by
 induction r with
 |nil=>rfl
 |cons y t h ih=>simp[ih]
section
def Jj(r:BJ vs ks)(d:2<=vs.length):Jl prog w A (oF ks) vs h0:=by
 intro g _;refine⟨oneType',fun f e q=>?_,fun i j C hi a _ q=>?_⟩
 ·match vs,r,d with
  |v1::v2::rest,r,_=>rw[keyKind_strs r];exact aj q
 ·rw[wt r]at hi a;obtain⟨t,b⟩:=J8 r hi;obtain⟨u,c⟩:=J8 r a;unfold kas_ask;rw[b,c,keyLt'_oneType];exact oneLt_str q
end
def td(H:Hp)(ys:List V)(ks:List Str):Prop:=Paired (fun v k=>∃a rest,v=V.ref a/\H a=some (.tup (V.str k::rest))) ys ks
theorem uE:∀{ys:List V}{ks:List Str},td H ys ks->ks.length=ys.length
 |_,_,.nil=>rfl
 |_,_,.cons _ t=>by simp[uE t]
set_option maxHeartbeats 3200000
abbrev has(ac:List Key)(k:Key):Bool:=ac.any fun x=>decide (x=k)
def jS{a:List Key}{k:Key}:has a k=true↔k∈a:=by
 unfold has;rw[b8];constructor;·rintro⟨x,h,e⟩;rw[<-of_decide_eq_true e];exact h
 ·exact fun h=>⟨k,h,decide_eq_true rfl⟩
abbrev more(ac:List Key)(k:Key):List Key:=if has ac k=true then ac else ac++[k]
abbrev met(ks:List Key):List Key:=ks.foldl more []
def Lw(ks:List Key)(k:Key):met (ks++[k])=more (met ks) k:=by unfold met;rw[List.foldl_append];rfl
def CN{a:List Key}{k j:Key}:j∈more a k↔j∈a\/j=k:=by
 unfold more;split
 ·rename_i h;constructor;·exact .inl
  ·rintro(z|rfl);·exact z
   ·exact jS.mp h
 ·simp
def si(a:List Key)(k:Key):(more a k).length=if has a k=true then a.length else a.length+1:=by unfold more;split <;>simp
def ET(ks:List Key):(met ks).length<=ks.length:=by
 unfold met;have g:∀(l a:List Key),(l.foldl more a).length<=a.length+l.length:=by
  intro l
  induction l with
  |nil=>intro a;simp
  |cons k l ih=>intro a;have c:=ih (more a k);have b:=si a k;rw[dR,bC];split at b<;>lia
 simpa using g ks []
def lb{ks:List Key}{k:Key}:k∈met ks↔k∈ks:=by
 unfold met;have g:∀(l a:List Key),k∈l.foldl more a↔k∈a\/k∈l:=by
  intro l
  induction l with
  |nil=>intro a;simp
  |cons j l ih=>intro a;rw[dR,ih,CN,aI,or_assoc]
 simpa using g ks []
def Iz{ks:List Key}(h:ks.Nodup):met ks=ks:=by
 unfold met;have g:∀(l a:List Key),(a++l).Nodup->l.foldl more a=a++l:=by
  intro l
  induction l with
  |nil=>intro a _;simp
  |cons k l ih=>intro a b;have c:k∉a:=fun z=>(eG.mp b).2.2 k z k (.head _) rfl;have e:more a k=a++[k]:=if_neg fun z=>c (jS.mp z);rw[dR,e,ih (a++[k]) (by simpa using b)];simp
 simpa using g ks [] (by simpa using h)
def Io(ks:List Key):(met ks).Nodup:=by
 unfold met;have g:∀(l d:List Key),d.Nodup->(l.foldl more d).Nodup:=by
  intro l
  induction l with
  |nil=>intro d h;exact h
  |cons k l ih=>
   intro d h;rw[dR];refine ih _ ?_;unfold more;split;·exact h
   ·rename_i c;refine eG.mpr ⟨h,by simp,fun a i b j e=>c ?_⟩;have f:b=k:=by simpa using j
    rw[<-f,<-e];exact jS.mpr i
 exact g ks [] jq
def AX{ks:List Key}(h:(met ks).length=ks.length):ks.Nodup:=by
 have s:∀(l d:List Key),(l.foldl more d).length<=d.length+l.length:=by
  intro l
  induction l with
  |nil=>intro d;simp
  |cons k l ih=>intro d;have m:=ih (more d k);have f:=si d k;rw[dR,bC];split at f<;>lia
 have g:∀(l d:List Key),d.Nodup->(l.foldl more d).length=d.length+l.length->(d++l).Nodup:=by
  intro l
  induction l with
  |nil=>intro d h _;simpa using h
  |cons k l ih=>
   intro d q e;rw[dR,bC]at e;have m:=s l (more d k);have f:=si d k;by_cases c:has d k=true;·rw[if_pos c]at f;lia
   ·rw[if_neg c]at f;have j:more d k=d++[k]:=if_neg c;rw[j]at e;have p:k∉d:=fun z=>c (jS.mpr z);have r:(d++[k]).Nodup:=eG.mpr ⟨q,by simp,fun a n b o e=>p (by
     have i:b=k:=by simpa using o
     rw[<-i,<-e];exact n)⟩
    have :=ih (d++[k]) r (by rw[bj,dj];lia);simpa using this
 simpa using g ks [] jq (by simpa[met]using h)
def met_one{ks:List Key}:(met ks).length<=1↔∀a∈ks,∀b∈ks,a=b:=by
 constructor
 ·intro h a f b g;have c:=lb.mpr f;have d:=lb.mpr g
  match e:met ks,h with
  | [],_=>rw[e]at c;cases c
  | [x],_=>rw[e]at c d;rw[aT.mp c,aT.mp d]
 ·intro h
  match e:met ks with
  | []=>simp
  | [x]=>simp
  |x::y::r=>have n:=Io ks;rw[e]at n;have i:x∈ks:=lb.mp (by rw[e];exact .head _);have j:y∈ks:=lb.mp (by rw[e];exact .tail _ (.head _));have :=h x i y j;rw[this]at n;simp at n
noncomputable abbrev nX(led:Bool):Obj:={cls:=.type "set",dict:=none,data:=.set #[] 0 (.fresh 0 0 led)}
abbrev Ex(a:Addr)(n:Nat):HO:=.ext fun h=>∃o es ep t,h.get? a=some o/\o.ExactSet/\o.data=.set es ep t/\es.size<gz/\t.fits es.size=true/\es.size=n
theorem A5:∀{ks:List Key}{us:List Value},bM (ks.map kV) us->∀(i:Nat)(v:Value),us[i]? =some v->∃k,ks[i]? =some k/\RelV (kV k) v
 | [],_,.nil,i,v,e=>by simp at e
 |k::ks,_,.cons r t,0,v,e=>by simp at e;subst e;exact⟨k,rfl,r⟩
 |k::ks,_,.cons r t,i+1,v,e=>A5 t i v (by simpa using e)
def rSet(K:ah):List V->Hp->VK->Prop:=fun xs H Q=>∃p ks,xs=[V.ref p]/\SqL K H p (ks.map kV)/\ks.length<4000/\∀a,H a=none->Q (.ref a) (upd H a (Ex a (met ks).length))
def yK:fV X (.builtin "len") (fun xs H Q=>∃a n,xs=[V.ref a]/\H a=some (Ex a n)/\Q (.int n) H):=by intro k s m H xs l Q I r h;obtain⟨a,n,rfl,e,q⟩:=h;obtain⟨u,rfl,i⟩:=vals1 r;cases i;obtain⟨⟨o,b,j,t,g,f,d,c,hf,rfl⟩,_⟩:=I.hok a _ e;refine call_len_set g f d hf (by have :b.size<4096:=c;lia) ?_;exact⟨.int b.size,H,I.tok _,⟨_,rfl⟩,q⟩
end Q
namespace L2
open PySem PySem.Spec PyProof.Rows
section
theorem zD(a b:Array Nat):∀k:Nat,((bz k a).foldl (·++·) b).size=b.size+k*a.size
 | 0=>by simp
 |k+1=>by rw[dP,dR,zD a (b++a) k,Array.size_append,Jz];lia
def KJ:R2:=fun x y H Q=>∃(z:Str)(n:Int),x=.str z/\y=.int n/\2<=n/\n<=1000/\1<=z.length/\z.length<=1000/\Q (.str ⟨(bz n.toNat z.cps).foldl (·++·) #[]⟩) H
theorem op_repS:OpR X (fQ .Mult) KJ:=by
 intro m s p H x y v u Q I f g h;obtain⟨z,n,rfl,rfl,i,j,k,d,q⟩:=h;obtain⟨t,rfl⟩:=f;obtain⟨o,rfl⟩:=g;have b:¬n<1:=by lia
 have c:(n==1||z.length==0)=false:=by rw[Bool.or_eq_false_iff];exact⟨by simp;lia,by simp;lia⟩
 have a:z.length*n.toNat<=1000*1000:=Nat.mul_le_mul d (by lia);have e:((n.toNat:Nat):Int)=n:=by lia
 have l:(z.length:Int)*n<=1000*1000:=by rw[<-e,<-Int.natCast_mul];exact Int.ofNat_le.mpr a
 refine P.mul_str (by rw[decide_eq_false (by lia),decide_eq_false (by lia)];rfl) (fun _ _=>?_) (fun _ _=>?_) ?_;·exact Int.not_lt.mpr (Int.le_ediv_of_mul_le (by lia) (by lia))
 ·exact decide_eq_false (Nat.not_lt.mpr (aL a (by decide)))
 ·rw[if_neg b,if_neg (by rw[c];exact ak)];refine⟨?_,.str _,H,I.tok _,⟨_,rfl⟩,q⟩;show((bz n.toNat z.cps).foldl (·++·) #[]).size<=_;rw[zD];exact aL (by rw[Nat.mul_comm];simpa[DR]using a) (by decide:1000*1000<=sizeLine)
end
end L2
set_option maxHeartbeats 1000000
namespace HT
open PySem PySem.Spec PyProof.Rows
section
variable {K:Type}[DecidableEq K]{knd:HeapKind prog w K}{s:Shared}{E:Value->Shared->Prop}
def setDef{d:Addr}{xs:List (K×Addr×Value)}{k:K}{v:Value}{Q:Value->Shared->Prop}(n:knd.room A)(h:knd.is s.heap k a)(B:s.heap.DictOfH knd d xs)
  (r:∀u,(atKey xs k).map (·.2)=some u->Q u {s with toks:=s.toks+knd.draws k})
  (t:atKey xs k=none->∀h',h'.DictOfH knd d (storedH xs k a v)->dq d s.heap h'->Q v {s with heap:=h',toks:=s.toks+knd.draws k})
  (G:xs.length<=sizeLine):wpAny (model prog w) A (Jv d (.ref a) v) Q E s:=by
 obtain⟨o,F,q,c,z,b,g,l,i⟩:=B;unfold Jv;refine bY ?_;refine af (knd.pyHash n h ?_);refine af (wpAny_dictFind_heap (s:={s with toks:=s.toks+knd.draws k}) n h c b g l i ?_ ?_)
 ·intro f;have C:k∉xs.map (·.1):=not_mem_keys_of_get f;refine af (iI (af (wpAny_updateDictKeys (hz:=by have e:=size_of_entries g;lia) (s:={s with toks:=s.toks+knd.draws k}) c b (aj (t (pS f) _ ⟨_,_,q+1,ck _ c (Obj.isFreed_of_dict (Nh b _)),
   z.mapDictKeys _,Nh b _,?_,?_,?_⟩ (bQ ..))))))
  ·rw[storedH_new (pS f)];simp[g,entryOfKey]
  ·rw[storedH_new (pS f)];intro x hx;rcases cX.mp hx with hx|hx;·exact knd.keeps (l x hx) c b (bQ ..)
   ·rw[aT.mp hx];exact knd.keeps h c b (bQ ..)
  ·rw[storedH_new (pS f),cQ,eG];refine⟨i,by simp,fun x hx y D e=>?_⟩;have :y=k:=by simpa using D
   exact C (by rw[<-this,<-e];exact hx)
 ·intro j p m;refine af (wpAny_dictEntries (s:={s with toks:=s.toks+knd.draws k}) c b ?_);rw[entry_at g j,m];exact af (iI (aj (r _ (by rw[atKey_of_get i m];rfl))))
variable(knd) in
def A2(d a:Addr)(g:(d==gQ)=false)(b:Value):
  MeetsIn prog w (Builtin.«dict.setdefault» ⟨[.ref d,.ref a,b],[]⟩) (fun A R s=>knd.room A.in1/\∃k xs,knd.is s.heap k a/\s.heap.DictOfH knd d xs/\xs.length<=sizeLine/\
   (∀u,(atKey xs k).map (·.2)=some u->R (.ok (.ret u)) {s with toks:=s.toks+knd.draws k})/\
   (atKey xs k=none->∀h',h'.DictOfH knd d (storedH xs k a b)->dq d s.heap h'->R (.ok (.ret b)) {s with heap:=h',toks:=s.toks+knd.draws k})):=
 .of_wp fun A R s ⟨m,k,xs,h,c,o,e,f⟩=>by unfold Builtin.«dict.setdefault»;refine af ?_;unfold Builtin.Dict.keyAndDefault;refine af (wpAny_notOrdered_dict c.typeIs ?_);show wpAny _ _ (pure (d,bE a,some b)) _ _ s;refine aj ?_;show wpAny _ _ (if(d==gQ)=true then _ else(Jv d (.ref a) b>>=_)) _ _ s;rw[if_neg (by rw[g];exact ak)];exact af (setDef m h c (fun v n=>aj ⟨v,rfl,e v n⟩) (fun j h' i l=>aj ⟨b,rfl,f j h' i l⟩) o)
end
end HT
namespace L2
open PySem PySem.Spec PyProof.Rows
section
variable {pins:List (Addr×Obj)}{s:Shared}{a b:Addr}{v:V}{r:Value}{E:Value->Shared->Prop}{kvs:List (List Key×V)}{k:List Key}
def My{Q:Value->Shared->Prop}(K:A.units+1<cLine)(I:Inv X pins σ H s)(e:H a=some (.dT kvs))(i:H b=some (.tup (k.map kV)))(O:RelV v r)(S:kvs.length<sizeLine)
  (C:∀x g s',eR kvs k=some x->Inv X pins σ H s'->RelV x g->Q g s')(D:eR kvs k=none->∀s',Inv X pins σ (upd H a (.dT (putK kvs k v))) s'->Q r s'):
  wpAny (model X.prog X.w) A (call (.builtin "dict.setdefault") [.ref a,.ref b,r]) Q E s:=by
 obtain⟨z,l,m,f,h⟩:=Mu I.hok e;have N:m.length<=sizeLine:=by rw[<-mP f];exact z
 have F:(putK kvs k v).length<=sizeLine:=by have :=uP kvs k v;lia
 have d:=f.val k;refine call_meetsIn yi h.typeIs PySem.F.entry_dict_setdefault (PySem.F.args_dict_setdefault_3 _ _ _) (HT.A2 (rA (cE X.prog X.w)) a b l r) ⟨tupleKind_room_in1 K,k,m,LS I.hok i,h,N,fun u L=>?_,fun G R n J=>?_⟩
 ·rw[L]at d;cases hv:eR kvs k with
  |none=>rw[hv]at d;exact absurd d (by intro z;cases z)
  |some x=>rw[hv]at d;obtain⟨g,M,P⟩:=ur.some_of d;cases M;exact C x _ _ hv (I.tok _) P
 ·rw[G]at d;refine D (by
   cases hv:eR kvs k with
   |none=>rfl
   |some x=>rw[hv]at d;exact absurd d (by intro z;cases z)) _ ?_
  obtain⟨q,p,o,hq,t,w,y,_,B⟩:=n;refine d_write I (by rw[e];exact True.intro) J ⟨q,hq⟩ ⟨F,l,_,(f.put k i O).keeps fun c T j=>?_,q,p,o,hq,t,w,y,B⟩;rw[ba (ne_of j e (fun z=>nomatch z))];exact j
end
section
def IB{K:Type}[DecidableEq K]{knd:HeapKind prog w K}{d:Addr}{xs:List (K×Addr×Value)}{Q:Value->Shared->Prop}(c:(d==gQ)=false)(a:s.heap.DictOfH knd d xs)(l:(xs.length:Int)<2^63)
  (h:Q (.int xs.length (s.toks+1)) {s with toks:=s.toks+1+1}):wpAny (model prog w) A (call (.builtin "len") [.ref d]) Q E s:=by
 have i:MeetsIn prog w (Builtin.«dict.__len__» ⟨[.ref d],[]⟩) (fun _ R s=>∃xs,s.heap.DictOfH knd d xs/\R (.ok (.ret (.int xs.length s.toks))) {s with toks:=s.toks+1}):=
  .of_wp fun A R s ⟨xs,a,h⟩=>by obtain⟨o,b,j,g,k,e,f,_⟩:=a;show wpAny _ _ (dictSize d>>=_) _ _ s;unfold dictSize;refine af (af (wpAny_dictEntries g e (aj ?_)));show wpAny _ _ (Builtin.Dict.pendingCount d>>=_) _ _ s;refine af (wpAny_pendingCount_other c ?_);refine wpAny_ret_mkInt ?_;have :b.size=xs.length:=size_of_entries f;rw[Nat.add_zero,this];exact h
 refine mO kind_len plain_len entry_len (args_len1 _) ?_;unfold Builtin.«len»;refine af (m:=oneArg "len" _) (aj ?_);refine af (m:=callSpecial? (.ref d) (bu "__len__")) (eK (name:=bu "__len__") a.typeIs F.slot_dict_len
  (call_meetsIn F.slot_dict_len a.typeIs F.entry_dict_len (F.args_dict_len_1 _) i ⟨xs,a,?_⟩))
 show wpAny _ _ _ _ _ {s with toks:=s.toks+1};refine af (bY (aj ?_));refine af (pO ?_);show wpAny _ _ (if((xs.length:Nat):Int)<0 then _ else _) _ _ _;rw[if_neg (by lia)];show wpAny _ _ (if((xs.length:Nat):Int)≥ 2^63 then _ else _) _ _ _;rw[if_neg (by lia)];exact af (wpAny_mkInt (aj ⟨_,rfl,h⟩))
def Dy:fV X (.builtin "len") (fun xs H Q=>∃a kvs,xs=[V.ref a]/\H a=some (.dT kvs)/\Q (.int kvs.length) H):=by intro g s k H xs i Q I r h;obtain⟨a,kvs,rfl,e,q⟩:=h;obtain⟨u,rfl,f⟩:=vals1 r;cases f;obtain⟨z,d,j,b,c⟩:=Mu I.hok e;refine IB d c (by rw[<-mP b];rw[vp]at z;lia) ?_;rw[<-mP b];exact⟨.int kvs.length,H,I.tok _,⟨_,rfl⟩,q⟩
def key_seq{ks:List Key}(I:Inv X pins σ H s)(h:SqT X.K H b (ks.map kV)):(rA (cE X.prog X.w)).is s.heap ks b:=by obtain⟨e,r,⟨o,a,c,n,d⟩,_⟩:=I.tuple h;exact⟨o,e.toArray,n,a,c,d,by simpa using tW r⟩
def rIxD(K:ah):R2:=fun x y H Q=>∃a b kvs k v,x=.ref a/\y=.ref b/\H a=some (.dT kvs)/\SqT K H b (k.map kV)/\eR kvs k=some v/\Q v H
def ix_dict(t:X.A.units+1<cLine):IxR X (rIxD X.K):=by
 intro J G g s j H x y v u Q I E F h n;obtain⟨a,b,M,k,z,rfl,rfl,e,l,w,q⟩:=h;cases E;cases F;obtain⟨_,L,K,C,d⟩:=Mu I.hok e;have f:s.TypeIs (.ref a) "dict":=d.typeIs;unfold MZ;refine af ?_;rw[getitemInPython_of_ne f.not_modules];refine af (wpAny_specialOf f PySem.F.slot_dict_getitem.lookup ?_);have c:wpAny (model X.prog X.w) X.A (subscripted G false (.ref a) (.ref b)) (fun r i=>wpAny (model X.prog X.w) X.A (letTemporaryGo J (.ref a) r>>=fun _=>pure r) (EP X g j Q) X.xe i) X.xe s:=by rw[n];obtain⟨N,A,D⟩:=ur.some_of (v:=z) (o:=(atKey K k).map (·.2)) (by rw[<-w];exact C.val k);obtain⟨p,hp,m⟩:=ja.mp A;refine wpAny_operating (cZ (wpAny_getItem_heap (Q:=EP X g j Q) (tupleKind_room_in1 t) (key_seq I l) d hp ?_) (fun r i B=>af (wpAny_letTemporaryGo (aj B))) fun _ _ x=>x);rw[m];exact⟨z,H,I.tok _,D,q⟩
 first
  |exact aj (af c)
  |exact af (aj (af c))
  |exact af c
def Gc:V->List V->Hp->VK->Prop:=fun x xs H Q=>∃a b kvs k v,x=.ref a/\xs=[.ref b,v]/\H a=some (.dT kvs)/\H b=some (.tup (k.map kV))/\kvs.length<sizeLine/\
 (∀z,eR kvs k=some z->Q z H)/\(eR kvs k=none->Q v (upd H a (.dT (putK kvs k v))))
def Iv(j:X.A.units+1<cLine):MtR X "dict.setdefault" Gc:=by intro A s F H x E v B Q I q p h;obtain⟨a,b,w,k,y,rfl,rfl,e,f,g,m,n⟩:=h;cases q;obtain⟨u,C,rfl,o,d⟩:=vals2 p;cases o;exact My j I e f d g (fun z D t l c r=>⟨z,H,c,r,m z l⟩) fun i t c=>⟨y,_,c,d,n i⟩
end
section
def rInD(K:ah)(b:Bool):R2:=fun x y H Q=>∃p xs ds d,y=.ref p/\SqL K H p xs/\Rep K H d x/\eX K H ds xs/\fw ds<=30/\
 Q (.bl (if b then !(ds.any fun a=>eqD a d)else ds.any fun a=>eqD a d)) H
open Classical in
abbrev eqW(K:ah)(H:Hp)(d:D)(u:Value):Bool:=decide (∃y a,RelV y u/\Rep K H a y/\eqD a d=true)
open Classical in
def Mq(I:Inv X pins σ H s){d d':D}(r:RelV y u)(h:Rep X.K H d' y):eqW X.K H d u=eqD d' d:=by
 unfold eqW;cases e:eqD d' d with
 |true=>exact decide_eq_true (p:=∃y a,RelV y u/\Rep X.K H a y/\eqD a d=true) ⟨y,d',r,h,e⟩
 |false=>refine decide_eq_false ?_;rintro⟨z,a,c,f,b⟩;cases c.inj r;rw[I.vH f h,e]at b;cases b
theorem BB(I:Inv X pins σ H s){d:D}:∀{ds:List D}{xs:List V}{us:List Value},bM xs us->eX X.K H ds xs->us.any (eqW X.K H d)=ds.any fun d'=>eqD d' d
 | [],_,us,r,h=>by rw[show _=[]from h]at r;cases r;rfl
 |d'::ds,_,us,r,h=>by
  obtain⟨x,t,rfl,a,b⟩:=h;cases r with
  |cons r1 r2=>rw[nV,nV,Mq I r1 a,BB I r2 b]
theorem A1(I:Inv X pins σ H s){d:D}{x:V}{v:Value}(c:Rep X.K H d x)(e:RelV x v)(a:A.units+31<cLine):∀{ds:List D}{xs:List V}{us:List Value},bM xs us->eX X.K H ds xs->fw ds<=30->∀u∈us,Nb A s u v (eqW X.K H d u)
 | [],_,us,r,h,_=>by rw[show _=[]from h]at r;cases r;exact fun u a=>nomatch a
 |d'::ds,_,us,r,h,hh=>by
  obtain⟨y,t,rfl,b,f⟩:=h;cases r with
  |cons r1 r2=>
   have g:max (hgt d') (fw ds)<=30:=hh;intro w hw;rcases aI.mp hw with rfl|hw;·rw[Mq I r1 b];exact I.Dq 30 A d' d _ x _ v b c r1 e (by lia) (by lia)
   ·exact A1 I c e a r2 f (by lia) w hw
def op_inD(l:X.A.units+40<cLine):OpR X (cY .In) (rInD X.K false):=by intro n s t H x y v u Q I i j h;obtain⟨p,o,k,d,rfl,hq,c,a,e,q⟩:=h;cases j;obtain⟨b,r,g,m⟩:=I.list hq;refine SeqAt.in_listAt (eqW X.K H d) g.isList (fun w f=>A1 I c i (by show X.A.units+1+31<cLine;lia) r a e w (by simpa using f)) ⟨.bl _,H,I,rfl,?_⟩;rw[show b.toArray.any (eqW X.K H d)=b.any (eqW X.K H d) by simp,BB I r a];exact q
def Ij(l:X.A.units+40<cLine):OpR X (cY .NotIn) (rInD X.K true):=by intro n s t H x y v u Q I i j h;obtain⟨p,o,k,d,rfl,hq,c,a,e,q⟩:=h;cases j;obtain⟨b,r,g,m⟩:=I.list hq;refine Na (eqW X.K H d) g.isList (fun w f=>A1 I c i (by show X.A.units+1+31<cLine;lia) r a e w (by simpa using f)) ⟨.bl _,H,I,rfl,?_⟩;rw[show b.toArray.any (eqW X.K H d)=b.any (eqW X.K H d) by simp,BB I r a];exact q
end
end L2
namespace Q
open PySem PySem.Spec PySem.W PyProof.Rows L2
abbrev ltI(ns:List Int)(i j:Nat):Bool:=decide (ns.getD i 0<ns.getD j 0)
abbrev EL(ns:List Int):List Nat:=if ns.length<2 then aH ns.length else(run (ltI ns) (dX ns.length)).toList
abbrev sortI(ns:List Int):List V:=(EL ns).map fun i=>(ns.map V.int).getD i .non
def totI(nd:ns.Nodup):Tot (ltI ns) ns.length where
 tri:=fun i j hi c h=>by
  have f:ns.getD i 0≠ns.getD j 0:=fun e=>by rw[aa,aa,ae hi,ae c]at e;exact h ((eQ nd).mp e)
  unfold ltI;by_cases a:ns.getD i 0<ns.getD j 0;·rw[decide_eq_true a,decide_eq_false (by lia)];rfl
  ·rw[decide_eq_false a,decide_eq_true (by lia)];rfl
 tr:=fun i j k hi c d a b=>by unfold ltI at a b⊢;have a:=of_decide_eq_true a;have b:=of_decide_eq_true b;exact decide_eq_true (by lia)
def Lf(nd:ns.Nodup):(EL ns).length=ns.length:=by
 unfold EL;split;·simp
 ·rw[cD,(fk (totI nd) (by lia)).1.size]
theorem outI(nd:ns.Nodup)(r:bM (ns.map V.int) vs):bM (sortI ns) (gV (ltI ns) vs):=by
 have g:=r.length;rw[ai]at g;have e:vs.length=ns.length:=by lia
 unfold gV sortI EL;rw[e];by_cases c:ns.length<2
 ·rw[if_pos c,if_pos c];have a:(aH ns.length).map (fun i=>(ns.map V.int).getD i V.non)=ns.map V.int:=by
   apply bR;·simp
   ·intro i o b;have d:i<ns.length:=by simpa using b
    simp[d]
  rw[a];exact r
 ·rw[if_neg c,if_neg c];have P:=(fk (totI nd) (by lia)).1;have all:∀l:List Nat,(∀i∈l,i<ns.length)->bM (l.map fun i=>(ns.map V.int).getD i V.non) (l.map fun i=>vs.getD i bJ):=by
   intro l
   induction l with
   |nil=>exact fun _=>.nil
   |cons i l ih=>
    intro h;have hi:i<(ns.map V.int).length:=by rw[ai];exact h i (.head _)
    obtain⟨u,k,n⟩:=r.get (ae hi);refine .cons ?_ (ih fun j f=>h j (.tail _ f));show L2.RelV ((ns.map V.int).getD i V.non) (vs.getD i bJ);rw[aa,ae hi,aa,k];exact n
  refine all _ fun i hi=>?_;have m:i∈(aH ns.length).toArray:=P.perm.mem_iff.mp (j7.mp hi);simpa using m
def int_at(r:cj vs ns)(hi:i<ns.length):∃t,vs.getD i .none=.int (ns.getD i 0) t:=by
 induction r generalizing i with
 |nil=>exact absurd hi (du _)
 |cons y t h ih=>
  cases i with
  |zero=>exact⟨t,rfl⟩
  |succ i=>exact ih (by simpa using hi)
def LZ(r:cj vs ns):vs.length=ns.length:=by
 induction r with
 |nil=>rfl
 |cons y t h ih=>simp[ih]
def Jk(r:cj vs ns)(d:2<=vs.length):Jl prog w A (ltI ns) vs h0:=by
 intro g _;refine⟨oneType',fun f e q=>?_,fun i j C hi a _ q=>?_⟩
 ·match vs,r,d with
  |v1::v2::rest,r,_=>rw[keyKind_ints r];exact aj q
 ·rw[LZ r]at hi a;obtain⟨t,b⟩:=int_at r hi;obtain⟨u,c⟩:=int_at r a;unfold kas_ask;rw[b,c,keyLt'_oneType];exact oneLt_int q
end Q
namespace L2
open PySem PySem.Spec PyProof.Rows
section
abbrev nats(n:Nat):List V:=(aH n).map fun i:Nat=>V.int (i:Int)
end
end L2
namespace Q
open PySem PySem.Spec PySem.W PyProof.Rows L2
abbrev plt(x y:Int×Int):Bool:=decide (x.1<y.1\/x.1=y.1/\x.2<y.2)
end Q
namespace D8
open PySem PySem.Spec PySem.W PyProof.Rows L2
noncomputable abbrev four:List (Int×Int):=[(0,0),(0,1),(1,0),(1,1)]
end D8
namespace L2
open PySem PySem.Spec PyProof.Rows
def DkIn(P:Program)(w:World)(K:ah)(a:Addr)(kvs:List (Key×V)):Prop:=
 (a==gQ)=false/\∃vs,KV kvs vs/\∀h,K.In h->h.DictOf (cE P w) a vs
end L2
namespace PySem
section
variable {E:Value->Shared->Prop}{s:Shared}
def Lh{j t:Addr}{xs:Array Value}{v:Value}{Q:Value->Shared->Prop}(c:s.heap.IsTupleIter j t k)(g:s.heap.IsTuple t xs)(h:xs[k]? =some v)
  (q:∀h',h'.IsTupleIter j t (k+1)->dq j s.heap h'->Q v {s with heap:=h'}):wpAny (model prog w) A (eE (.ref j)) Q E s:=by
 obtain⟨o,b,d,a⟩:=id c;obtain⟨p,e,_,n,f⟩:=g;unfold eE;refine af (eK (name:=bu "__next__") c.typeIs iG (cS iG c.typeIs Ed ?_ (DY _)));show wpAny _ _ (field (.ref j) 0>>=_) _ _ s;refine af (iJ b a (x:=.ref t) rfl ?_);show wpAny _ _ (if(bE t==bJ)=true then _ else _) _ _ s;rw[if_neg (fun z:(bE t==bJ)=true=>absurd z ak)];show wpAny _ _ (field (.ref j) 1>>=_) _ _ s;refine af (iJ b a (x:=.int k 0) rfl ?_);show wpAny _ _ (vV (.ref t)>>=_) _ _ s;refine af (iH e f ?_);simp only[aN,h];refine af (vo b a (by simp) (aj ⟨v,rfl,aj (q _ ?_ (bQ ..))⟩));exact⟨_,ck _ b (jL (eY a _)),(Obj.cls_mapFields ..).trans d,by rw[eY a];simp[rawInt]⟩
def Gj{j t:Addr}{xs:Array Value}{Q:Value->Shared->Prop}(f:A.handled=none)(d:s.heap.IsTupleIter j t k)(i:s.heap.IsTuple t xs)(l:xs[k]? =none)
  (q:∀h' e,Heap.ExtBut j s.heap h'->(∃o,h'.get? e=some o/\o.cls=.type "StopIteration")->E (.ref e) {s with heap:=h'}):wpAny (model prog w) A (eE (.ref j)) Q E s:=by
 obtain⟨o,b,r,c⟩:=id d;obtain⟨p,g,_,n,h⟩:=i;unfold eE;refine af (eK (name:=bu "__next__") d.typeIs iG (cS iG d.typeIs Ed ?_ (DY _)));show wpAny _ _ (field (.ref j) 0>>=_) _ _ s;refine af (iJ b c (x:=.ref t) rfl ?_);show wpAny _ _ (if(bE t==bJ)=true then _ else _) _ _ s;rw[if_neg (fun z:(bE t==bJ)=true=>absurd z ak)];show wpAny _ _ (field (.ref j) 1>>=_) _ _ s;refine af (iJ b c (x:=.int k 0) rfl ?_);show wpAny _ _ (vV (.ref t)>>=_) _ _ s;refine af (iH g h ?_);simp only[aN,l];refine af (iI (af (vo b c (by simp) ?_)));show wpAny _ _ (newExc (.type "StopIteration") []>>=_) _ _ _;refine af ?_;simp only[newExc,newTuple];refine af (cg ?_ (by size_fits));refine af (m:=vy _ _) (pN (a:=bJ) (by first |rfl| (simp only[vy];rfl)) ?_);refine cg ?_ (by size_fits);simp only[Jr];refine af (wpAny_handled ?_);first |rw[show A.in1.handled=none from f] |rw[f]
 refine af (aj (wpAny_throw ?_));exact q _ _ (((bQ ..).extBut.push _).push _) ⟨_,ay _ rfl,rfl⟩
end
end PySem
namespace L2
open PySem PySem.Spec PyProof.Rows
def tup_ne{g:Array Value}{o:Obj}(f:h.IsTuple a g)(b:h.get? c=some o)(d:o.cls≠.type "tuple"):a≠c:=by obtain⟨i,e,k,_⟩:=f;rintro rfl;rw[e]at b;cases b;exact d k
end L2
namespace PySem
open Sem (wp)
local macro_rules | `(term| «the numeral») => return Lean.mkIdent (cy (cy (cy (Lean.Name.num (cy (cy (cy (cy (cy Ec "_private") "PySem") "Builtin") "Int") "W0All") 0) "PySem") "Builtin") "readNumeral")
local macro_rules | `(term| «a value») => return Lean.mkIdent (cy (cy (cy (cy (Lean.Name.num (cy (cy (cy (cy (cy Ec "_private") "PySem") "Builtin") "Int") "W0All") 0) "PySem") "Builtin") "Numeral") "value")
end PySem
namespace L2
open PySem PySem.Spec PyProof.Rows
inductive Fig:Str->Int->Prop
 |one {a:Nat} (h:a<10):Fig ⟨#[48+a]⟩ (a:Nat)
 |two {a b:Nat} (ha:a<10) (hb:b<10):Fig ⟨#[48+a,48+b]⟩ (10*a+b:Nat)
end L2
namespace Q
open PySem PySem.Spec PySem.W PyProof.Rows L2
abbrev llt:List Int->List Int->Bool
 | [],[]=>false
 | [],_::_=>true
 |_::_,[]=>false
 |a::x,b::y=>decide (a<b)||(decide (a=b)&&llt x y)
theorem tT:∀{x y z:List Int},llt x y=true->llt y z=true->llt x z=true
 | [],[],_,h,_=>nomatch h
 | [],_::_,[],_,h=>nomatch h
 | [],_::_,_::_,_,_=>rfl
 |_::_,[],_,h,_=>nomatch h
 |_::_,_::_,[],_,h=>nomatch h
 |a::x,b::y,c::z,h,k=>by
  simp only[llt,cu,aF,decide_eq_true_eq]at h k⊢;rcases h with h|⟨rfl,h⟩
  ·rcases k with k|⟨rfl,k⟩;·exact .inl (by lia)
   ·exact .inl h
  ·rcases k with k|⟨rfl,k⟩;·exact .inl k
   ·exact .inr ⟨rfl,tT h k⟩
theorem jk:∀{x y:List Int},x≠y->llt x y= !llt y x
 | [],[],h=>absurd rfl h
 | [],_::_,_=>rfl
 |_::_,[],_=>rfl
 |a::x,b::y,h=>by
  by_cases e:a=b;·subst e;have :=jk (x:=x) (y:=y) fun z=>h (by rw[z]);simp[llt,this]
  ·by_cases c:a<b
   ·have :¬b<a:=by lia
    simp[llt,c,this,e,bI e]
   ·have :b<a:=by lia
    simp[llt,c,this,e,bI e]
abbrev ltL(ps:List (List Int))(i j:Nat):Bool:=llt (ps.getD i []) (ps.getD j [])
abbrev wU(ps:List (List Int)):List Nat:=if ps.length<2 then aH ps.length else(run (ltL ps) (dX ps.length)).toList
abbrev cB{α:Type}(d:α)(ps:List (List Int))(ys:List α):List α:=(wU ps).map fun i=>ys.getD i d
def neL{ps:List (List Int)}(nd:ps.Nodup)(hi:i<ps.length)(a:j<ps.length)(h:i≠j):ps.getD i []≠ps.getD j []:=fun e=>by rw[aa,aa,ae hi,ae a]at e;exact h ((eQ nd).mp e)
def HD{ps:List (List Int)}(nd:ps.Nodup):Tot (ltL ps) ps.length where
 tri:=fun i j hi c h=>jk (neL nd hi c h)
 tr:=fun i j k _ _ _ a b=>tT a b
theorem lV{ps:List (List Int)}(nd:ps.Nodup):(wU ps).Perm (aH ps.length):=by
 unfold wU;split;·exact d7 _
 ·have P:=(fk (HD nd) (by lia)).1;have :=eU.mp P.perm;simpa using this
theorem zk{ps:List (List Int)}(nd:ps.Nodup)(f:ps.length=ys.length)(r:bM ys vs):bM (cB .non ps ys) (gV (ltL ps) vs):=by
 have o:=r.length;have e:vs.length=ps.length:=by lia
 unfold gV cB wU;rw[e];by_cases c:ps.length<2
 ·rw[if_pos c,if_pos c];have a:(aH ps.length).map (fun i=>ys.getD i V.non)=ys:=by
   rw[f];apply bR;·simp
   ·intro i n b;simp[b]
  rw[a];exact r
 ·rw[if_neg c,if_neg c];have P:=(fk (HD nd) (by lia)).1;have all:∀l:List Nat,(∀i∈l,i<ps.length)->bM (l.map fun i=>ys.getD i V.non) (l.map fun i=>vs.getD i bJ):=by
   intro l
   induction l with
   |nil=>exact fun _=>.nil
   |cons i l ih=>
    intro h;have hi:i<ys.length:=by have :=h i (.head _);lia
    obtain⟨u,g,k⟩:=r.get (ae hi);refine .cons ?_ (ih fun j d=>h j (.tail _ d));show L2.RelV (ys.getD i V.non) (vs.getD i bJ);rw[aa,ae hi,aa,g];exact k
  refine all _ fun i hi=>?_;have m:i∈(aH ps.length).toArray:=P.perm.mem_iff.mp (j7.mp hi);simpa using m
def uu(h:Heap)(vs:List Value)(ps:List (List Int)):Prop:=Paired (fun v k=>∃a o ad n,v=.ref a/\h.get? a=some o/\o.cls=.type "tuple"/\o.data=.seq ad n/\cj ad.toList k) vs ps
def iv{ps:List (List Int)}(r:uu h vs ps)(hi:i<vs.length):∃a o ad n,vs.getD i .none=.ref a/\h.get? a=some o/\o.data=.seq ad n/\cj ad.toList (ps.getD i []):=by
 unfold uu at r
 induction r generalizing i with
 |nil=>exact absurd hi (du _)
 |cons y t ih=>
  cases i with
  |zero=>obtain⟨a,o,ad,n,b,c,f,d,e⟩:=y;exact⟨a,o,ad,n,b,c,d,e⟩
  |succ i=>exact ih (by simpa using hi)
def L5(q:∀b o,h.get? b=some o->h1.get? b=some o){ps:List (List Int)}(r:uu h vs ps)(hp:∀k∈ps,k≠[]):∃fs,KatTups h1 vs fs/\fs.length=vs.length/\∀v∈fs,∃x t,v=yg x t:=by
 unfold uu at r
 induction r with
 |nil=>exact⟨[],.nil,rfl,fun v hv=>nomatch hv⟩
 | @cons v k vs ps y t ih=>
  obtain⟨fs,e,f,g⟩:=ih fun k c=>hp k (aK _ c);obtain⟨a,o,p,n,rfl,i,j,m,d⟩:=y;have c:=hp k aM;obtain⟨l⟩:=p;cases l with
  |nil=>cases d;exact absurd rfl c
  |cons u l=>
   cases d with
   |cons x t h=>
    refine⟨_::fs,.cons (q _ _ i) j m rfl e,by simp[f],fun v hv=>?_⟩;rcases aI.mp hv with rfl|hv;·exact⟨_,_,rfl⟩
    ·exact g v hv
def LH{b j:Bool}{C:Bool->Shared->Prop}{xs ys:List Value}{x y:List Int}(i:Nat)(g:cj xs x)(d:cj ys y)(f:x.length=y.length)(h:x≠y)(q:C (llt x y) s):KatLex prog w A b j C (xs.zip ys) (i+1) s:=by
 induction g generalizing ys y i with
 |nil=>cases d with
  |nil=>exact absurd rfl h
  |cons=>simp at f
 |cons a t g ih=>cases d with
  |nil=>simp at f
  |cons c u d=>
   refine kat_cons (rq ?_);by_cases e:a=c;·subst e;rw[show(a==a)=true by simp];refine kat_yes (ih (i+1) d (by simpa using f) (fun z=>h (by rw[z])) ?_);simp[llt]at q;exact q
   ·rw[show(a==c)=false by simpa using e];refine kat_no ?_;rw[show(b&&(i+1==0))=false by simp];refine kat_one _ _ (lt_int ?_);simp[llt,e]at q;exact q
theorem Bz{ps:List (List Int)}(nd:ps.Nodup)(f:vs.length=ps.length)(r:uu h0 vs ps)(V:2<=vs.length)(g:∀k∈ps,k.length=m):Jl prog w A (ltL ps) vs h0:=by
 have l:m≠0:=fun z=>by
  have e:∀i,i<ps.length->ps.getD i []=[]:=fun i hi=>by rw[aa,ae hi];exact aY.mp ((g _ (a9 hi)).trans z)
  exact neL nd (i:=0) (j:=1) (by lia) (by lia) (by decide) ((e 0 (by lia)).trans (e 1 (by lia)).symm)
 intro Y p;refine⟨tuples' true,fun S R q=>?_,fun i j C hi h L q=>?_⟩;·obtain⟨fs,s,U,B⟩:=L5 p r fun k M z=>l (by rw[<-g k M,z];rfl);refine kat_kind (T:=.type "int") s (by lia) (fun v O=>?_) rfl q;obtain⟨x,t,rfl⟩:=B v O;exact Looks.of_pure rfl
 ·obtain⟨a,o,P,n,D,E,F,G⟩:=iv r hi;obtain⟨b,X,Q,W,H,I,J,K⟩:=iv r h;have N:=neL nd (f▸hi) (f▸h) L;have l1:(ps.getD i []).length=m:=by rw[aa,ae (f▸hi)];exact g _ (a9 _)
  have l2:(ps.getD j []).length=m:=by rw[aa,ae (f▸h)];exact g _ (a9 _)
  unfold kas_ask;unfold ltL at q;rw[D,H];generalize ps.getD i []=x at *;generalize ps.getD j []=y at *;refine kat_lt (p _ _ E) F (p _ _ I) J ?_;generalize P.toList=xs at *;generalize Q.toList=ys at *;cases G with
  |nil=>exact absurd l1.symm l
  | @cons c t xs x hx=>
   cases K with
   |nil=>exact absurd l2.symm l
   | @cons d u ys y hy=>
    refine kat_cons (rq ?_);by_cases e:c=d;·subst e;rw[show(c==c)=true by simp];refine kat_yes (LH 0 hx hy (by simp at l1 l2;lia) (fun z=>N (by rw[z])) ?_);simp[llt]at q;exact q
    ·rw[show(c==d)=false by simpa using e];refine kat_no (oneLt_int ?_);simp[llt,e]at q;exact q
def IntKeys(H:Hp)(ys:List V)(ps:List (List Int)):Prop:=Paired (fun v k=>∃a,v=V.ref a/\H a=some (.tup (k.map V.int))) ys ps
def C4{ps:List (List Int)}(h:IntKeys H ys ps):ps.length=ys.length:=by
 unfold IntKeys at h
 induction h with
 |nil=>rfl
 |cons _ _ ih=>simp[ih]
def A7(ok:HOk P w H h){ps:List (List Int)}(k:IntKeys H ys ps):bM ys vs->uu h vs ps:=by
 unfold IntKeys at k
 induction k generalizing vs with
 |nil=>intro z;cases z;exact .nil
 |cons y t ih=>
  intro z;cases z with
  |cons r q=>obtain⟨a,rfl,e⟩:=y;cases r;obtain⟨_,f,g,o,b,c,n,d⟩:=ok a _ e;exact .cons ⟨a,o,f.toArray,n,rfl,b,c,d,by simpa using intsAre_of g⟩ (ih q)
def KI(K:ah):List V->Hp->VK->Prop:=fun xs H Q=>∃p ys ps m,xs=[V.ref p]/\SqL K H p ys/\ps.length<64/\ps.Nodup/\(∀k∈ps,k.length=m)/\IntKeys H ys ps/\∀l,H l=none->Q (.ref l) (upd H l (.lst (cB .non ps ys)))
def Bo:fV X (.builtin "sorted") (KI X.K):=by
 intro B s E H D C Q I r h;obtain⟨p,g,a,m,rfl,hq,y,nd,t,i,q⟩:=h;obtain⟨u,rfl,x⟩:=vals1 r;cases x;obtain⟨d,f,w,A⟩:=I.list hq;have n:a.length=g.length:=C4 i;have z:=f.length;have j:d.length=a.length:=by lia
 refine zb (lt:=ltL a) (vs:=d) (by rw[j];exact HD nd) w.isList (by lia) (fun k=>Bz nd j (A7 I.hok i f) k t) ?_;obtain⟨c,l⟩:=sortedAll_at s.heap d (gV (ltL a) d).toArray;have v:(cB V.non a g).length<=sizeLine:=by unfold cB;rw[ai,(lV nd).length_eq,aR];lia
 exact⟨.ref (s.heap.objs.size+1),_,I.laid (t':=s.toks) (fun b o e=>sortedAll_old e) (dU _) (show dO X.prog X.w _ _ _ (.lst (cB .non a g))from⟨v,_,c,zk nd n f,l⟩),rfl,q _ (I.hok.fresh (dU _))⟩
theorem CV:∀x:List Int,llt x x=false
 | []=>rfl
 |a::x=>by simp[llt,CV x]
def GG{B:Builtin}{op:CmpOp}{f:List Int->List Int->Bool}(H:(B=Builtin.«tuple.__lt__»/\op=.Lt/\f=llt)\/(B=Builtin.«tuple.__gt__»/\op=.Gt/\f=fun a b=>llt b a)){p q:Addr}{a b:List Int}{P:dI->Shared->Prop}(M:IsTup s.heap p us.toArray)(J:IsTup s.heap q vs.toArray)
  (C:cj us a)(D:cj vs b)(I:a.length=b.length)
  (h:P (.done (.ret (.bool (f a b)))) s):wpAny (model prog w) A (B ⟨[.ref p,.ref q],[]⟩) P E s:=by
 have⟨g,ci,fc⟩:∃g:Int->Int->Bool,(∀{m n:Int}{t u:Nat}{s:Shared}{Q:Value->Shared->Prop},Q (.bool (g m n)) s->wpAny (model prog w) A (cY op (.int m t) (.int n u)) Q E s)/\∀{m n:Int}{x y:List Int},m≠n->f (m::x) (n::y)=g m n:=by
  rcases H with⟨_,rfl,rfl⟩ |⟨_,rfl,rfl⟩;·exact⟨fun m n=>decide (m<n),fun q=>lt_int q,fun c=>by simp[llt,c]⟩
  ·exact⟨fun m n=>decide (n<m),fun q=>PyProof.Rows.gt_int q,fun c=>by simp[llt,bI c]⟩
 rcases H with⟨rfl,rfl,hf⟩ |⟨rfl,rfl,hf⟩
 all_goals
  show wpAny _ _ (Jt (.ref q) (.type "tuple")>>=_) _ _ s;refine af (rm J.typeIs isSubtype_tuple_tuple ?_);simp only[gM,aZ,if_false];refine af (tupleItemsOf_ M ?_);refine af (tupleItemsOf_ J ?_);refine af ?_;show wpAny _ _ (forIn (us.zip vs) _ _) _ _ s;refine wpAny_forIn_list _ (fun K r G=>r.1=none/\G=s/\∃k l o v,K=List.zip k l/\k.length=l.length/\cj k o/\cj l v/\f a b=f o v) _ ?_ ?_ _ _ ⟨rfl,rfl,us,vs,a,b,rfl,by rw[C.length,D.length,I],C,D,rfl⟩
  ·rintro x K ⟨r,_⟩ G ⟨F,rfl,k,l,o,v,e,j,i,d,z⟩;obtain rfl:r=none:=F;cases i with
   |nil=>cases e
   |cons m t i=>
    cases d with
    |nil=>cases j
    |cons n u d=>
     rw[vb]at e;cases e;dsimp only;refine af (rq ?_);by_cases c:m=n;·rw[show(m==n)=true by simpa using c];simp only[gM,aZ,if_false];refine aj ⟨rfl,rfl,_,_,_,_,rfl,by simpa using j,i,d,?_⟩;rw[z];simp[hf,llt,c]
     ·rw[show(m==n)=false by simpa using c];simp only[Bool.not_false,if_true];rw[z,fc c]at h;refine af (iI (af (ci (af (aj (aj ?_))))));exact aj h
  ·rintro⟨r,_⟩ G ⟨F,rfl,k,l,o,v,e,j,i,d,z⟩;obtain rfl:r=none:=F;dsimp only;have L:f a b=false:=by
    rw[z];cases i with
    |nil=>cases d with
     |nil=>rw[hf];rfl
     |cons n u d=>cases j
    |cons m t i=>cases d with
     |nil=>cases j
     |cons n u d=>rw[vb]at e;cases e
   rw[L]at h;have N:us.toArray.size=vs.toArray.size:=by rw[aD,aD,C.length,D.length,I]
   rw[N];simp only[Builtin.Tuple.tupleCompareSizes,dJ,decide_false];exact aj h
def GA{p q:Addr}{a b:List Int}{P:dI->Shared->Prop}(f:IsTup s.heap p us.toArray)(g:IsTup s.heap q vs.toArray)
  (c:cj us a)(d:cj vs b)(e:a.length=b.length)
  (h:P (.done (.ret (.bool (llt a b)))) s):wpAny (model prog w) A (Builtin.«tuple.__lt__» ⟨[.ref p,.ref q],[]⟩) P E s:=GG (.inl ⟨rfl,rfl,rfl⟩) f g c d e h
def gt_tree{p q:Addr}{a b:List Int}{P:dI->Shared->Prop}(g:IsTup s.heap p us.toArray)(i:IsTup s.heap q vs.toArray)
  (c:cj us a)(d:cj vs b)(e:a.length=b.length)
  (h:P (.done (.ret (.bool (llt b a)))) s):wpAny (model prog w) A (Builtin.«tuple.__gt__» ⟨[.ref p,.ref q],[]⟩) P E s:=GG (f:=fun a b=>llt b a) (.inr ⟨rfl,rfl,rfl⟩) g i c d e h
section
variable {I:Addr}{fp wr:List Addr}{G:Array lN->Array lN->Prop}{P:Nat->Value->Prop}{St:Nat->Shared->Prop}{R:Result->Shared->Prop}
def Lu{N:String}{B:Builtin}{op:CmpOp}(m:Ju table N=some B)(k:plainId N=true)(n:(N="min.loop"/\B=Builtin.«min.loop»/\op=.Lt)\/(N="max.loop"/\B=Builtin.«max.loop»/\op=.Gt))(W:WalksS prog w A.in1 I fp wr G 2 P St)(q:S∉fp){v0 v1:Value}(h0:∀v,P 0 v->v=v0)(O:∀v,P 1 v->v=v1){c:Nat}{bt:Bool}(V:St 0 s)
  (K:s.heap.get? S=some {cls:=.type "list",dict:=none,data:=.seq #[] c,slots:= #[]})
  (U:∀(s':Shared)(Q:Value->Shared->Prop)(E:Value->Shared->Prop),Moved (S::wr) G s s'->Q (.bool bt) s'->wpAny (model prog w) A.in1 (richCompare op v1 v0) Q E s')
  (T:∀s',Moved (S::wr) G s s'->R (.ok (.ret (if bt=true then v1 else v0))) s'):gR (model prog w) A (.builtin N ⟨[.ref I,.none,.ref S],[]⟩) R s:=by
 have r:S∉wr:=fun h=>q (W.sub _ h);have J:∀b∈wr,b∈S::wr:=fun b f=>aK _ f;have D:(toString "min"++toString ".loop":String)="min.loop":=by decide
 have C:(toString "max"++toString ".loop":String)="max.loop":=by decide
 have F:∀{b:Addr},b∉S::wr->S≠b:=fun f h=>f (by rw[h];exact aM)
 --the u turn
 have u:∀(a:Shared)(x:Value)(d:Nat),St 2 a->a.heap.get? S=some {cls:=.type "list",dict:=none,data:=.seq #[x,x] d,slots:= #[]}->Moved (S::wr) G s a->x=(if bt=true then v1 else v0)->
   gR (model prog w) A (.builtin N ⟨[.ref I,.none,.ref S],[]⟩) R a:=by
  intro a x d H g y M;refine eL m ?_;rw[dv k _];rcases n with⟨rfl,rfl,rfl⟩ |⟨rfl,rfl,rfl⟩
  all_goals
   show wpAny _ A.in1 (vV (.ref S)>>=_) _ _ a;refine af (iH g rfl ?_);show wpAny _ A.in1 (tryCatch (pyNext (.ref I)) _>>=_) _ _ a;refine af (vn (W.done a _ _ H fun s' j=>?_));have i:=j.heap S _ r g;show wpAny _ A.in1 (updateSeq S (fun _=> #[])>>=_) _ _ _;refine af (FD i rfl (af (pO (aj ?_))));rw[M];exact T _ (JC W.gtrans y ((j.mono J).then_heap (tk:=s'.toks) (aw _) fun b o f e=>(aS _ _ (F f)).trans e))
 --the L
 have L:∀(a:Shared)(d:Nat),St 1 a->a.heap.get? S=some {cls:=.type "list",dict:=none,data:=.seq #[v0,v0] d,slots:= #[]}->Moved (S::wr) G s a->
   gR (model prog w) A (.builtin N ⟨[.ref I,.none,.ref S],[]⟩) R a:=by
  intro a d H g y;refine eL m ?_;rw[dv k _];rcases n with⟨rfl,rfl,rfl⟩ |⟨rfl,rfl,rfl⟩
  all_goals
   show wpAny _ A.in1 (vV (.ref S)>>=_) _ _ a;refine af (iH g rfl ?_);show wpAny _ A.in1 (tryCatch (pyNext (.ref I)) _>>=_) _ _ a;refine af (vn (W.item 1 a _ _ (by decide) H fun v s' p l j=>?_));obtain rfl:=O v p;have i:=j.heap S _ r g;have z:=JC W.gtrans y (j.mono J);show wpAny _ A.in1 (tryCatch (holding [v,v] (richCompare _ v v0>>=_)) _>>=_) _ _ _;refine af (vn (bY (af (U _ _ _ z ?_))));refine af (bY (dm ?_));refine af (pO (aj ?_));cases f:bt with
   |true=>
    simp only[if_true];refine af (FD i rfl (af (pO ?_)))
    first |rw[D] |rw[C]
    refine aj ⟨fW k _,u _ v _ (W.frame _ s' _ s'.toks l (aw _) fun b t o e=>?_) (ck _ i rfl) (z.then_heap (aw _) fun b o f e=>(aS _ _ (F f)).trans e) (by rw[f];rfl)⟩;exact(aS _ _ (fun h:S=b=>q (by rw[h];exact t))).trans e
   |false=>
    simp only[aZ,if_false];refine af (pO ?_)
    first |rw[D] |rw[C]
    exact aj ⟨fW k _,u _ v0 _ l i z (by rw[f];rfl)⟩
 refine eL m ?_;rw[dv k _];rcases n with⟨rfl,rfl,rfl⟩ |⟨rfl,rfl,rfl⟩
 all_goals
  show wpAny _ A.in1 (vV (.ref S)>>=_) _ _ s;refine af (iH K rfl ?_);show wpAny _ A.in1 (tryCatch (pyNext (.ref I)) _>>=_) _ _ s;refine af (vn (W.item 0 s _ _ (by decide) V fun v s' p l j=>?_));obtain rfl:=h0 v p;have i:=j.heap S _ r K;show wpAny _ A.in1 (updateSeq S (fun _=> #[v,v])>>=_) _ _ _;refine af (FD i rfl ?_)
  first |rw[D] |rw[C]
  refine aj ⟨fW k _,L _ _ (W.frame _ s' _ s'.toks l (aw _) fun b t o e=>?_) (ck _ i rfl) ((j.mono J).then_heap (aw _) fun b o f e=>(aS _ _ (F f)).trans e)⟩;exact(aS _ _ (fun h:S=b=>q (by rw[h];exact t))).trans e
def mm_go{N:String}{B:Builtin}{op:CmpOp}(k:Ju table N=some B)(L:plainId N=true)(t:(N="min.loop"/\B=Builtin.«min.loop»/\op=.Lt)\/(N="max.loop"/\B=Builtin.«max.loop»/\op=.Gt))(y:A.handled=none){p q:Addr}{bt:Bool}
  (x:∀(s':Shared)(Q:Value->Shared->Prop)(E:Value->Shared->Prop),(∀c o,s.heap.get? c=some o->s'.heap.get? c=some o)->Q (.bool bt) s'->wpAny (model prog w) A.in1 (richCompare op (.ref q) (.ref p)) Q E s')
  (h:∀h' tk,(∀c o,s.heap.get? c=some o->h'.get? c=some o)->R (.ok (.ret (if bt=true then .ref q else .ref p))) {s with heap:=h',toks:=tk}) (l:n=s.heap.objs.size+1) (j:m=s.heap.objs.size+2):
  gR (model prog w) A (.builtin N ⟨[.ref n,.none,.ref m],[]⟩) R {s with heap:=((s.heap.push {cls:=.type "tuple",data:=.seq #[.ref p,.ref q]}).push {cls:=.type "tuple_iterator",data:=.fields #[.ref s.heap.objs.size,.int 0 0]}).push {cls:=.type "list",data:=.seq #[]}}:=by
 have u:(s.heap.push {cls:=.type "tuple",data:=.seq #[.ref p,.ref q]}).IsTuple s.heap.objs.size #[.ref p,.ref q]:=⟨_,ay _ rfl,rfl,0,rfl⟩;have C:(s.heap.push {cls:=.type "tuple",data:=.seq #[.ref p,.ref q]}).objs.size=s.heap.objs.size+1:=bG ..;have D:∀o d:Obj,((s.heap.push o).push d).objs.size=s.heap.objs.size+2:=fun o d=>by rw[bG,bG]
 rw[l,j];have old:∀{G:Array lN->Array lN->Prop}{F H I:Obj}{s':Shared},Moved [s.heap.objs.size+2,s.heap.objs.size+1] G {s with heap:=((s.heap.push F).push H).push I} s'->∀c o,s.heap.get? c=some o->s'.heap.get? c=some o:=fun a c o e=>by have z:=aA e;refine a.heap c o (fun b=>?_) (ag _ (ag _ (ag _ e)));simp only[aI,dy,or_false]at b;rcases b with e|e<;>exact absurd z (by rw[e];exact Nat.not_lt.mpr (yQ _ _))
 refine Lu k L t (v0:=.ref p) (v1:=.ref q) (bt:=bt) ((Walks.tuple (A:=A.in1) y _ s.heap.objs.size (aP (eh _)) #[.ref p,.ref q]).toS) (by simp) (fun v e=>by simpa using e.symm) (fun v e=>by simpa using e.symm) ⟨⟨_,ag _ (C▸ay _ rfl),rfl,rfl⟩,(u.push _).push _⟩ (D _ _▸ay _ rfl) (fun s' g f a=>x s' g f (old a)) fun s' a=>?_;have J:=old a;obtain⟨h',r,i,M,K⟩:=s';obtain rfl:r=s.gens:=a.gens;obtain rfl:i=s.drawn:=a.drawn;obtain rfl:K=s.os:=a.os;exact h h' M J
def ui{p q:Addr}{a b:List Int}{Q:Value->Shared->Prop}(j:A.handled=none)(l:A.units+1<cLine)(m:IsTup s.heap p us.toArray)(n:IsTup s.heap q vs.toArray)(g:cj us a)(i:cj vs b)(k:a.length=b.length)
  (h:∀h' tk,(∀c o,s.heap.get? c=some o->h'.get? c=some o)->Q (if llt b a=true then .ref q else .ref p) {s with heap:=h',toks:=tk}):
  wpAny (model prog w) A (call (.builtin "min") [.ref p,.ref q]) Q E s:=by
 refine call_function_tree F.kind_min F.plain_min F.entry_min (F.args_min2 _ _) ?_;show wpAny _ A.in1 (fH "min" ["key","default"] 0 ⟨[],[]⟩>>=_) _ _ s;refine af (pN (show fH "min" ["key","default"] 0 ⟨[],[]⟩=pure [none,none]from rfl) ?_);show wpAny _ A.in1 (newTuple [.ref p,.ref q]>>=_) _ _ s;refine af (cg (af (jy ⟨_,ay _ rfl,rfl,0,rfl⟩ (af (cg ?_)))));rw[show(toString "min"++toString ".loop":String)="min.loop" by decide];refine aj ⟨fW F.plain_min_loop _,mm_go F.entry_min_loop F.plain_min_loop (.inl ⟨rfl,rfl,rfl⟩) j (fun v u t old r=>?_) h (bG ..) ((bG ..).trans (congrArg (·+1) (bG ..)))⟩;have f:=m.keeps old;have d:=n.keeps old;exact ni (op:=.Lt) d.typeIs f.typeIs rJ (cS rJ d.typeIs F.entry_tuple_lt (GA d f i g k.symm ⟨_,rfl,(fun e=>nomatch e),r⟩) (F.args_tuple_lt_2 _ _)) l
def Ja{p q:Addr}{a b:List Int}{Q:Value->Shared->Prop}(j:A.handled=none)(l:A.units+1<cLine)(m:IsTup s.heap p us.toArray)(n:IsTup s.heap q vs.toArray)(g:cj us a)(i:cj vs b)(k:a.length=b.length)
  (h:∀h' tk,(∀c o,s.heap.get? c=some o->h'.get? c=some o)->Q (if llt a b=true then .ref q else .ref p) {s with heap:=h',toks:=tk}):
  wpAny (model prog w) A (call (.builtin "max") [.ref p,.ref q]) Q E s:=by
 refine call_function_tree F.kind_max F.plain_max F.entry_max (F.args_max2 _ _) ?_;show wpAny _ A.in1 (fH "max" ["key","default"] 0 ⟨[],[]⟩>>=_) _ _ s;refine af (pN (show fH "max" ["key","default"] 0 ⟨[],[]⟩=pure [none,none]from rfl) ?_);show wpAny _ A.in1 (newTuple [.ref p,.ref q]>>=_) _ _ s;refine af (cg (af (jy ⟨_,ay _ rfl,rfl,0,rfl⟩ (af (cg ?_)))));rw[show(toString "max"++toString ".loop":String)="max.loop" by decide];refine aj ⟨fW F.plain_max_loop _,mm_go F.entry_max_loop F.plain_max_loop (.inr ⟨rfl,rfl,rfl⟩) j (fun v u t old r=>?_) h (bG ..) ((bG ..).trans (congrArg (·+1) (bG ..)))⟩;have f:=m.keeps old;have d:=n.keeps old;exact ni (op:=.Gt) d.typeIs f.typeIs F.slot_tuple_gt (cS F.slot_tuple_gt d.typeIs F.entry_tuple_gt (gt_tree d f i g k.symm ⟨_,rfl,(fun e=>nomatch e),r⟩) (F.args_tuple_gt_2 _ _)) l
end
def rMinL(K:ah):List V->Hp->VK->Prop:=fun xs H Q=>∃(p q:Addr)(a b:List Int),xs=[V.ref p,V.ref q]/\SqT K H p (a.map V.int)/\SqT K H q (b.map V.int)/\a.length=b.length/\Q (if llt b a=true then .ref q else .ref p) H
def rMaxL(K:ah):List V->Hp->VK->Prop:=fun xs H Q=>∃(p q:Addr)(a b:List Int),xs=[V.ref p,V.ref q]/\SqT K H p (a.map V.int)/\SqT K H q (b.map V.int)/\a.length=b.length/\Q (if llt a b=true then .ref q else .ref p) H
def IY(e:X.calm=true)(g:X.A.units+1<cLine):fV X (.builtin "min") (rMinL X.K):=by intro x s B H A y Q I r h;obtain⟨p,q,a,b,rfl,c,d,f,hq⟩:=h;obtain⟨u,z,rfl,l,m⟩:=vals2 r;cases l;cases m;obtain⟨v,n,i,_⟩:=I.tuple c;obtain⟨w,o,j,_⟩:=I.tuple d;refine _root_.Q.ui (I.ok.hd e) g i j (intsAre_of n) (intsAre_of o) f fun t tk k=>⟨_,H,I.kept k,?_,hq⟩;split <;>rfl
def IZ(e:X.calm=true)(g:X.A.units+1<cLine):fV X (.builtin "max") (rMaxL X.K):=by intro x s B H A y Q I r h;obtain⟨p,q,a,b,rfl,c,d,f,hq⟩:=h;obtain⟨u,z,rfl,l,m⟩:=vals2 r;cases l;cases m;obtain⟨v,n,i,_⟩:=I.tuple c;obtain⟨w,o,j,_⟩:=I.tuple d;refine _root_.Q.Ja (I.ok.hd e) g i j (intsAre_of n) (intsAre_of o) f fun t tk k=>⟨_,H,I.kept k,?_,hq⟩;split <;>rfl
abbrev kQ(k:List Int×List Int):List Int:=k.1++k.2
theorem GD:∀{a c:List Int}(b d:List Int),a.length=c.length->llt (a++b) (c++d)=(llt a c||(decide (a=c)&&llt b d))
 | [],[],b,d,_=>by simp[llt]
 |x::a,y::c,b,d,h=>by
  have e:=GD (a:=a) (c:=c) b d (by simpa using h);simp only[yr,llt,e];by_cases e1:x=y;·subst e1;simp
  ·simp[e1]
def P2(h:Heap)(v:Value)(k:List Int×List Int):Prop:=∃a o ad n x y rest us ws,v=.ref a/\h.get? a=some o/\o.cls=.type "tuple"/\o.data=.seq ad n/\ad.toList=.ref x::.ref y::rest/\IsTup h x (us:List Value).toArray/\IsTup h y (ws:List Value).toArray/\cj us k.1/\cj ws k.2
def P2s(h:Heap)(vs:List Value)(ps:List (List Int×List Int)):Prop:=Paired (P2 h) vs ps
def p2_at{ps:List (List Int×List Int)}(r:P2s h vs ps)(hi:i<vs.length):P2 h (vs.getD i .none) (ps.getD i ([],[])):=by
 unfold P2s at r
 induction r generalizing i with
 |nil=>exact absurd hi (du _)
 |cons y t ih=>
  cases i with
  |zero=>exact y
  |succ i=>exact ih (by simpa using hi)
def p2_kat(c:∀b o,h.get? b=some o->h1.get? b=some o){ps:List (List Int×List Int)}(r:P2s h vs ps):∃fs,KatTups h1 vs fs/\fs.length=vs.length/\∀v∈fs,∃x o,v=bE x/\h1.get? x=some o/\o.cls=.type "tuple":=by
 unfold P2s at r
 induction r with
 |nil=>exact⟨[],.nil,rfl,fun v hv=>nomatch hv⟩
 | @cons v k vs ps y t ih=>
  obtain⟨fs,d,e,f⟩:=ih;obtain⟨a,o,s,n,x,y,u,w,z,rfl,i,j,l,m,⟨q,p,g,_⟩,_⟩:=y;refine⟨.ref x::fs,.cons (c _ _ i) j l (by rw[<-Hv,m];rfl) d,by simp[e],fun v hv=>?_⟩;rcases aI.mp hv with rfl|hv;·exact⟨x,q,rfl,c _ _ p,g⟩
  ·exact f v hv
section
variable {E:Value->Shared->Prop}{s:Shared}
def E3{k:List Int}(r:cj us k):ItemsAre (cE prog w) (k.map .inl) us:=by
 induction r with
 |nil=>exact .nil
 |cons n t r ih=>exact .cons (oB _ _ _ _) ih
def FO{x:Addr}{k:List Int}(t:IsTup h x us.toArray)(r:cj us k):IsTupleKey (cE prog w) h (k.map .inl) x:=by obtain⟨o,c,a,n,b⟩:=t;exact⟨o,us.toArray,n,c,a,b,E3 r⟩
def inl_inj{a c:List Int}:decide (a.map (dY:Int->Key)=c.map dY)=decide (a=c):=by
 refine decide_eq_decide.mpr ⟨fun h=>?_,fun h=>by rw[h]⟩
 induction a generalizing c with
 |nil=>cases c with
  |nil=>rfl
  |cons=>cases h
 |cons x a ih=>cases c with
  |nil=>cases h
  |cons y c=>simp only[b7,JH,dY.injEq]at h;rw[h.1,ih h.2]
def GX{x y:Addr}{b:List Value}{a c:List Int}{Q:Bool->Shared->Prop}(f:A.units<cLine)(g:IsTup s.heap x us.toArray)(i:IsTup s.heap y b.toArray)(d:cj us a)(e:cj b c)(h:Q (decide (a=c)) s):wpAny (model prog w) A (eqBool (.ref x) (.ref y)) Q E s:=by rw[<-inl_inj]at h;exact wpAny_eqBool_tuple (knd:=cE prog w) f (FO g d) (FO i e) h
def Gz{x y:Addr}{f:List Value}{a c:List Int}{Q:Bool->Shared->Prop}(k:A.units<cLine)(b:IsTup s.heap x us.toArray)(d:IsTup s.heap y f.toArray)(g:cj us a)(i:cj f c)(j:a.length=c.length)(h:Q (llt a c) s):wpAny (model prog w) A (oneLt' false (.ref x) (.ref y)) Q E s:=
 kat_one _ _ (ni (op:=.Lt) b.typeIs d.typeIs rJ (cS rJ b.typeIs F.entry_tuple_lt (GA b d g i j ⟨_,rfl,(fun e=>nomatch e),h⟩) (F.args_tuple_lt_2 _ _)) k)
end
def Dx{ps:List (List Int×List Int)}(i:Nat):(ps.map kQ).getD i []=kQ (ps.getD i ([],[])):=by rw[aa,aa,av];cases ps[i]? <;>rfl
def asks_p2{ps:List (List Int×List Int)}(f:A.units<cLine)(nd:(ps.map kQ).Nodup)(I:vs.length=ps.length)(r:P2s h0 vs ps)(h2:2<=vs.length)(J:∀k∈ps,k.1.length=m/\k.2.length=m):Jl prog w A (ltL (ps.map kQ)) vs h0:=by
 intro s1 d;refine⟨tuples' false,fun Y X q=>?_,fun i j C hi H V q=>?_⟩;·obtain⟨fs,K,a2,L⟩:=p2_kat d r;refine kat_kind (T:=.type "tuple") K (by lia) (fun v W=>?_) rfl q;obtain⟨x,o,rfl,g,h⟩:=L v W;intro A Q E a8 k q;exact BE ⟨o,k _ _ g,h⟩ q
 ·obtain⟨a,o,a0,a5,x,b2,a6,us,ws,g,h,e3,M,N,s,t,u,y⟩:=p2_at r hi;obtain⟨Z,o',a4,n',x',y',a7,b0,b1,O,P,f3,R,S,B,D,F,G⟩:=p2_at r H;have l:=neL nd (i:=i) (j:=j) (by rw[ai];lia) (by rw[ai];lia) V;have l1:(ps.getD i ([],[])).1.length=m/\(ps.getD i ([],[])).2.length=m:=by rw[aa,ae (I▸hi)];exact J _ (a9 _)
  have l2:(ps.getD j ([],[])).1.length=m/\(ps.getD j ([],[])).2.length=m:=by rw[aa,ae (I▸H)];exact J _ (a9 _)
  unfold kas_ask;unfold ltL at q;rw[Dx,Dx]at q l;rw[g,O];generalize ps.getD i ([],[])=k at *;generalize ps.getD j ([],[])=k' at *;obtain⟨b,c⟩:=k;obtain⟨n,p⟩:=k';unfold kQ at q l;rw[GD _ _ (l1.1.trans l2.1.symm)]at q;refine kat_lt (d _ _ h) M (d _ _ P) R ?_;rw[N,S];refine kat_cons (GX f (s.keeps d) (B.keeps d) u F ?_);by_cases e:b=n;·subst e;rw[show decide (b=b)=true by simp];have U:c≠p:=fun z=>l (by rw[z]);refine kat_yes (kat_cons (GX f (t.keeps d) (D.keeps d) y G ?_));dsimp only;rw[show decide (c=p)=false by simpa using U];refine kat_no (Gz f (t.keeps d) (D.keeps d) y G (l1.2.trans l2.2.symm) ?_);simp[CV]at q;exact q
  ·rw[show decide (b=n)=false by simpa using e];refine kat_no (Gz f (s.keeps d) (B.keeps d) u F (l1.1.trans l2.1.symm) ?_);simp[e]at q;exact q
def jw(H:Hp)(ys:List V)(ps:List (List Int×List Int)):Prop:=Paired (fun v k=>∃a x y rest,v=V.ref a/\H a=some (.tup (.ref x::.ref y::rest))/\H x=some (.tup (k.1.map V.int))/\H y=some (.tup (k.2.map V.int))) ys ps
def mQ{ps:List (List Int×List Int)}(h:jw H ys ps):ps.length=ys.length:=by
 unfold jw at h
 induction h with
 |nil=>rfl
 |cons _ _ ih=>simp[ih]
def p2_of(ok:HOk P w H h){ps:List (List Int×List Int)}(k:jw H ys ps):bM ys vs->P2s h vs ps:=by
 unfold jw at k
 induction k generalizing vs with
 |nil=>intro z;cases z;exact .nil
 |cons y t ih=>
  intro z;cases z with
  |cons r q=>
   obtain⟨a,x,z,A,rfl,e,g,i⟩:=y;cases r;obtain⟨_,v,b,o,c,d,n,f⟩:=ok a _ e;obtain⟨_,s,j,m⟩:=ok x _ g;obtain⟨_,u,l,p⟩:=ok z _ i;cases b with
   |cons r1 b=>cases b with
    |cons r2 b=>cases r1;cases r2;exact .cons ⟨a,o,_,n,x,z,_,s,u,rfl,c,d,f,rfl,m,p,intsAre_of j,intsAre_of l⟩ (ih q)
def KH(K:ah):List V->Hp->VK->Prop:=fun xs H Q=>∃(p:Addr)(ys:List V)(ps:List (List Int×List Int))(m:Nat),xs=[V.ref p]/\SqL K H p ys/\ps.length<64/\(ps.map kQ).Nodup/\(∀k∈ps,k.1.length=m/\k.2.length=m)/\jw H ys ps/\∀l,H l=none->Q (.ref l) (upd H l (.lst (cB .non (ps.map kQ) ys)))
def Bn(v:X.A.units+2<cLine):fV X (.builtin "sorted") (KH X.K):=by
 intro D s G H F E Q I r h;obtain⟨p,f,a,m,rfl,hq,A,nd,t,i,q⟩:=h;obtain⟨u,rfl,z⟩:=vals1 r;cases z;obtain⟨d,g,y,C⟩:=I.list hq;have n:a.length=f.length:=mQ i;have l:(a.map kQ).length=f.length:=by rw[ai];exact n
 have B:=g.length;have w:d.length=(a.map kQ).length:=by lia
 refine zb (lt:=ltL (a.map kQ)) (vs:=d) (by rw[w];exact HD nd) y.isList (by lia) (fun j=>asks_p2 v nd (by lia) (p2_of I.hok i g) j t) ?_;obtain⟨c,k⟩:=sortedAll_at s.heap d (gV (ltL (a.map kQ)) d).toArray;have x:(cB V.non (a.map kQ) f).length<=sizeLine:=by unfold cB;rw[ai,(lV nd).length_eq,aR];lia
 exact⟨.ref (s.heap.objs.size+1),_,I.laid (t':=s.toks) (fun b o e=>sortedAll_old e) (dU _) (show dO X.prog X.w _ _ _ (.lst (cB .non (a.map kQ) f))from⟨x,_,c,zk nd l g,k⟩),rfl,q _ (I.hok.fresh (dU _))⟩
end Q
namespace PySem
noncomputable abbrev eT1(h:Heap)(t:Addr):Heap:=h.push {cls:=.type "tuple_iterator",data:=.fields #[.ref t,.int 0 0]}
noncomputable abbrev eT2(h:Heap)(t:Addr):Heap:=(eT1 h t).push {cls:=.type "enumerate",data:=.fields #[.none,.bool false,.ref h.objs.size,rawInt 0,.none,.none]}
def CQ(t:Addr)(xs:Array Value)(n:Nat)(c:Option Addr)(f:Array (Option Value)):
  Meets (Builtin.«enumerate.__new__» ⟨[.type "enumerate",.ref t],[]⟩) (fun _ R s=>s.heap.get? t=some {cls:=.type "tuple",dict:=c,data:=.seq xs n,slots:=f}/\R (.ok (.ret (.ref (eT1 s.heap t).objs.size))) {s with heap:=eT2 s.heap t}):=
 .of_wp fun j w A R s h=>by
  obtain⟨hp,g,d,tk,e⟩:=s;obtain⟨a,h⟩:=h;have i:=sub_enumerate;have b:Heap.IsTuple (Shared.heap ⟨hp,g,d,tk,e⟩) t xs:=⟨_,a,rfl,n,rfl⟩
  wp_walk using lR a
  refine wpAny_stack_any fun k=>aj ?_;split;·rename_i cc _ _ _ _ _;generalize(cc==lM "enumerate")=bb;cases bb<;>(wp_walk using lR a,jy b;exact⟨_,rfl,h⟩)
  ·wp_walk using lR a,jy b
   exact⟨_,rfl,h⟩
section
variable {E:Value->Shared->Prop}{s:Shared}
def Fq{t:Addr}{xs:Array Value}{Q:Value->Shared->Prop}(i:s.heap.IsTuple t xs)
  (q:∀h',IsEnum h' (s.heap.objs.size+1) s.heap.objs.size 0 .none->h'.IsTupleIter s.heap.objs.size t 0->(∀c o,s.heap.get? c=some o->h'.get? c=some o)->Q (.ref (s.heap.objs.size+1)) {s with heap:=h'}):
  wpAny (model prog w) A (call (.type "enumerate") [.ref t]) Q E s:=by
 obtain⟨⟨c,b,d,k⟩,e,f,n,g⟩:=i;obtain rfl:c=lM "tuple":=f;obtain rfl:d=Data.seq xs n:=g;have l:(eT1 s.heap t).objs.size=s.heap.objs.size+1:=bG ..;have a:(eT2 s.heap t).get? (eT1 s.heap t).objs.size=some _:=ay _ rfl;have h:(eT2 s.heap t).get? s.heap.objs.size=some _:=ag _ (ay _ rfl);refine callType_new F.called_enumerate (by decide) (F.typeCall_enumerate_1 _) (F.newCall_enumerate_1 _) (fun j=>F.args_object_init_2 j _) F.entry_enumerate_new (CQ t xs n b k) ⟨e,?_⟩;show _/\_;rw[l]at a⊢;exact⟨⟨_,a,rfl⟩,q _ a ⟨_,h,rfl,rfl⟩ fun c o x=>ag _ (ag _ x)⟩
end
def drawsT(l:A.handled=none)(j t:Addr)(n:t≠j)(xs:Array Value):
  Draws prog w A j [j,t] xs.size (fun i v=>xs[i]? =some v) (fun i h=>h.IsTupleIter j t i/\h.IsTuple t xs) where
 live:=fun _ _ a=>by obtain⟨⟨o,b,_⟩,_⟩:=a;exact⟨o,b⟩
 frame:=fun _ _ _ a c=>by obtain⟨⟨o,b,r⟩,⟨e,p,q⟩⟩:=a;exact⟨⟨o,c j (by simp) o b,r⟩,⟨e,c t (by simp) e p,q⟩⟩
 item:=fun i s Q E hi a k=>Lh a.1 a.2 (v:=xs[i]) (by simp[hi]) fun f m d=>k _ f s.toks (by simp[hi]) ⟨m,a.2.extBut d.extBut n⟩ d
 done:=fun s Q E a g=>Gj l a.1 a.2 (by simp) g
end PySem
namespace L2
open PySem PySem.Spec PyProof.Rows
noncomputable abbrev Itet(K:ah)(a:Addr):It:=MV fun H xs=>SqT K H a xs
def en_tup(a f:Addr):En a f (fun K H xs=>SqT K H a xs) (fun i h=>h.IsTupleIter f a i) where
 obj:=fun i h j=>by obtain⟨o,p,c,d⟩:=j;exact⟨o,p,fun v z=>by rw[d]at z;cases z⟩
 kp:=fun i h l j k=>by obtain⟨o,u,r⟩:=j;exact⟨o,k o u,r⟩
 one:=fun I h l=>I.tL h l
 src:=fun{X _ _ _ s xs i} I m hq n=>by
  obtain⟨g,y,b,A⟩:=I.tuple hq;have b:s.heap.IsTuple a g.toArray:=b;have t:a≠f:=by obtain⟨B,w,x,_⟩:=id n;exact tup_ne b w (by rw[x];decide+kernel)
  exact⟨g,fun h=>h.IsTuple a g.toArray,y,b,fun e o q c=>bI (tup_ne b q (by rw[c];decide+kernel)),drawsT m f a t g.toArray,fun h Q E k=>Gj m n b (pv h) k⟩
section
variable {es:List Expr}{kk:Nat}
def E8(K:ah)(t:TA):TI:=fun σ H R=>t σ H fun vs H1=>∃a,vs=[.ref a]/\(∃xs,SqT K H1 a xs)/\R (Itet K a) H1
def KZ{l:Expr}{t:TA}{p:Pos}(k:Gl X "enumerate")(n:X.mg "enumerate"=none)(i:PA X [l] t)(o:bB [l] X.env=[(false,eval l X.env)]:=by rfl):
  PI X (.Tuple es kk pp) (.Call (.Name "enumerate" p) [l] [] pos) (E8 X.K t):=by
 intro x s D H R I h;refine Call_ (lC I k n boot_enumerate (di (thn (i pos x s D H _ I h) fun K C ⟨L,d,c,A,y⟩=>?_) o rfl));obtain⟨a,rfl,⟨M,hq⟩,q⟩:=y;obtain⟨u,rfl,B⟩:=A.one;cases B;obtain⟨v,G,b,F⟩:=c.tuple hq;have b:C.heap.IsTuple a v.toArray:=b;exact Fq b fun E j m w=>c.enum (en_tup a _) j m w q fun r g tn J e t z f q=>⟨r,g,tn,J,d,rfl,e,t,z,f,q⟩
end
end L2
namespace L2
open PySem PySem.Spec PySem.W PyProof.Rows
section
variable {E:Value->Shared->Prop}{g:Array lN}{d:Drawn}{t:Nat}{os:OsState}{nm q:Str}{C N:Addr}{bs bm bmB:List Value}{hdct:Bool}{sn:List Str}{sub:List Value}{ab:Bool}{col:Option Bool}{dd:Option Addr}{k0 k1 k2 k3 k5:Option Value}{B newId initId:String}
noncomputable abbrev CD(h:Heap)(C:Addr)(rest:List Value):Heap:=(h.push {cls:=.type "tuple",data:=.seq rest.toArray}).push {cls:=.ref C,data:=.fields #[.ref h.objs.size,.none,.none,.none,.bool false,.none]}
def km{o:Obj}(e:h.get? b=some o):(CD h C rest).get? b=some o:=ag _ (ag _ e)
def AY:(CD h C rest).get? (h.objs.size+1)=some {cls:=.ref C,data:=.fields #[.ref h.objs.size,.none,.none,.none,.bool false,.none]}:=Heap.get?_push_at (by rw[bG]) rfl
def wc(F:ExcBaseFacts B newId initId bmB)(T:OwnTail h bmB bm){f:Obj}{Q:dI->Shared->Prop}(a:h.get? C=some (pR nm q C N bs bm hdct sn sub ab col dd k0 k1 k2 k3 k5 newId))
  (m:h.Ns N mN)(hi:mN "__init__"=some (.ref fI))(hf:h.get? fI=some f)(l:f.cls=.type "function")(n:rest.length<=sizeLine)
  (hq:wpAny (model prog w) A (call (.ref fI) (.ref (h.objs.size+1)::rest)) (fun r s'=>r=.none/\Q (.done (.ret (.ref (h.objs.size+1)))) s') E ⟨CD h C rest,g,d,t,os⟩):
  wpAny (model prog w) A (Builtin.«type.__call__» ⟨.ref C::rest,[]⟩) Q E ⟨h,g,d,t,os⟩:=by
 repeat(first
  |with_reducible refine jU a ?_
  |with_reducible refine wpAny_madeBy_exc a ?_
  |wp_step)
 refine codeAny_call_builtin_code (ve _ F.quiet) (wpAny_check_new_subT F T a ?_);refine codeAny_exc_new_subT F T a ?_ n;show wpAny _ _ _ _ _ (⟨CD h C rest,g,d,t,os⟩:Shared);have c:=km (C:=C) (rest:=rest) a;have p:(CD h C rest).Ns N mN:=m.keeps fun b o e=>km e;have i:=T.keeps (h':=CD h C rest) fun b o e=>km e;have j:(bE C::bm).contains (.ref C)=true:=by simp
 have k:=AY (h:=h) (C:=C) (rest:=rest);unfold Jt;repeat(first
  |with_reducible refine jU k ?_
  | (with_reducible refine wpAny_isSubtype_exc c ?_;rw[j])
  |wp_step)
 show wpAny _ _ (typeLookup (.ref C) _) _ _ _;refine wpAny_typeLookup_tail c p i F.mroIs F.init.lookup ?_;rw[hi];refine bY (af ?_);unfold bindSpecial;refine af (BE (T:="function") ⟨_,km hf,l⟩ ?_);rw[if_pos (by decide)];refine aj (af (cZ hq (fun r s' z=>?_) fun _ _ z=>z));obtain⟨rfl,z⟩:=z
 wp_walk
 exact z
def Jc(F:ExcBaseFacts B newId initId bmB)(T:OwnTail h bmB bm){b:Obj}{Q:Value->Shared->Prop}(a:h.get? C=some (pR nm q C N bs bm hdct sn sub ab col dd k0 k1 k2 k3 k5 newId))
  (e:h.Ns N mN)(hi:mN "__init__"=some (.ref fI))(hf:h.get? fI=some b)(c:b.cls=.type "function")(f:rest.length<=sizeLine)
  (hq:wpAny (model prog w) (A.under (.builtin "type.__call__" ⟨.ref C::rest,[]⟩)) (call (.ref fI) (.ref (h.objs.size+1)::rest)) (fun r s'=>r=.none/\Q (.ref (h.objs.size+1)) s') E ⟨CD h C rest,g,d,t,os⟩):
  wpAny (model prog w) A (call (.ref C) rest) Q E ⟨h,g,d,t,os⟩:=by
 have i:=tc_lookup;have j:=tc_bind (.ref C);have k:(⟨h,g,d,t,os⟩:Shared).TypeIs (.ref C) "type":=⟨_,a,rfl⟩;refine iK (FG ?_);show wpAny _ _ (callAny (.ref C) _) _ _ _;repeat(any_goals (first
  |assumption
  |with_reducible refine jU a ?_
  |wp_step))
 refine⟨rfl,?_⟩;exact codeAny_call_builtin_at (ve _ (by decide+kernel)) entry_typeCall (wpAny_check_type_call_sub a (wc F T a e hi hf c f hq))
def Ji(F:ExcBaseFacts B newId initId bmB)(T:OwnTail h bmB bm){e:Addr}{Q:Value->Shared->Prop}(f:h.get? C=some (pR nm q C N bs bm hdct sn sub ab col dd k0 k1 k2 k3 k5 newId))
  (a:h.get? e=some {cls:=.ref C,data:=.fields #[.ref x0,.none,.none,.none,.bool false,.none]}) (k:rest.length<=sizeLine)
  (hq:∀h':Heap,(∀b o,b≠e->h.get? b=some o->h'.get? b=some o)->(∃b,h'.get? e=some {cls:=.ref C,data:=.fields #[.ref b,.none,.none,.none,.bool false,.none]})->h.objs.size<=h'.objs.size->Q .none ⟨h',g,d,t,os⟩):
  wpAny (model prog w) A (call (.builtin initId) (.ref e::rest)) Q E ⟨h,g,d,t,os⟩:=by
 refine iK (iO F.init.plain F.initEntry (wpAny_check_init_subT F T f a rfl ?_))
 wp_walk
 have j:=aA a;refine hq _ (fun b o i c=>?_) ⟨h.objs.size,?_⟩ ?_;·rw[aS _ _ (bI i)];exact ag _ c
 ·rw[ck _ (ag _ a) rfl];rfl
 ·rw[n8,bG];exact dU _
end
abbrev exO(e C:Addr)(d:Option Addr):HO:=.ext fun h=>∃x0,h.get? e=some {cls:=.ref C,dict:=d,data:=.fields #[.ref x0,.none,.none,.none,.bool false,.none]}
abbrev xdO(d:Addr)(fs:List (Str×V)):HO:=.ext fun h=>∃mA,h.Ns1 d mA/\(∀f,ur (fs.lookup f) (mA f))/\kU mA (fs.map (·.1))
abbrev isTT:Value->Bool
 |.type t=>decide (t="type")
 |_=>false
abbrev dCl(o:Option Obj)(k:ClassData->Array (Option Value)->Bool):Bool:=match o with
 |some o=>isTT o.cls&&(match o.data with
  |.cls cd=>k cd o.slots
  |_=>false)
 |none=>false
def dCl_of{o:Option Obj}{k:ClassData->Array (Option Value)->Bool}(h:dCl o k=true):∃od cd sl,o=some ⟨.type "type",od,.cls cd,sl⟩/\k cd sl=true:=by
 cases o with
 |none=>cases h
 |some o=>
  obtain⟨c,od,d,sl⟩:=o;obtain⟨a,b⟩:=fh.mp h;have e:c=.type "type":=by cases c<;>first |cases a|exact congrArg _ (of_decide_eq_true a)
  subst e;cases d<;>first |exact⟨_,_,_,rfl,b⟩ |cases b
abbrev dMr(l:List Value)(k:Addr->List Value->Bool):Bool:=match l with
 |.ref c::bm=>k c bm
 |_=>false
def dMr_of{l:List Value}{k:Addr->List Value->Bool}(h:dMr l k=true):∃c bm,l=.ref c::bm/\k c bm=true:=by
 cases l with
 |nil=>cases h
 |cons v bm=>cases v<;>first |exact⟨_,_,rfl,h⟩ |cases h
abbrev dBn(o:Option Value)(k:String->Bool):Bool:=match o with
 |some (.builtin n)=>k n
 |_=>false
def dBn_of{o:Option Value}{k:String->Bool}(h:dBn o k=true):∃n,o=some (.builtin n)/\k n=true:=by
 cases o with
 |none=>cases h
 |some v=>cases v<;>first |exact⟨_,rfl,h⟩ |cases h
def lY{b:Type}{l:List b}(h:l.length=n+1):∃a r,l=a::r/\r.length=n:=by
 cases l with
 |nil=>cases h
 |cons a r=>exact⟨a,r,rfl,i7 h⟩
abbrev t5(K:ah)(C f:Addr)(bmB:List Value)(newId:String):Bool:=dCl (K.lookup C) fun cd sl=>dMr cd.mro fun a bm=>decide (sl.toList.length=6)&&dBn (sl.toList.getD 4 none) fun n=>
 a==C&&n==newId&& !cd.hasDel&&tailIn K bmB bm&&nsOkIn K cd.ns&&nsIn K cd.ns "__init__"==some (some (.ref f))
def ns_some{N:Addr}{n:Str}{v:Value}(X:K.In h)(G:h.Ns N mg)(e:nsIn K N n=some (some v)):mg n=some v:=by
 obtain⟨o,d,c,b,a,_,hf⟩:=G;unfold nsIn at e;split at e
 ·rename_i q;have z:=X _ _ q;rw[b]at z;cases z;cases a;split at e;·rename_i en he;rw[<-hf];unfold nsFind findBy;rw[<-uD,he];simpa using e
  ·split at e<;>cases e
 ·cases e
def ExcO(h:Heap)(C f:Addr)(bmB:List Value)(newId:String):Prop:=∃nm b N bs bm a sn sub ab col dd k0 k1 k2 k3 k5 mN,h.get? C=some (pR nm b C N bs bm a sn sub ab col dd k0 k1 k2 k3 k5 newId)/\h.Ns N mN/\mN "__init__"=some (.ref f)/\OwnTail h bmB bm
def xJ{newId:String}(a:K.In h)(q:t5 K C f bmB newId=true):ExcO h C f bmB newId:=by
 obtain⟨W,cd,F,v,q⟩:=dCl_of q;obtain⟨k,l,u,q⟩:=dMr_of q;obtain⟨E,q⟩:=fh.mp q;obtain⟨n,c,q⟩:=dBn_of q;obtain⟨x,X,d,G⟩:=lY (of_decide_eq_true E);obtain⟨y,Y,e,H⟩:=lY G;obtain⟨z,Z,g,I⟩:=lY H;obtain⟨A,r3,i,J⟩:=lY I;obtain⟨B,r4,j,L⟩:=lY J;obtain⟨D,r5,b,M⟩:=lY L;rw[e,g,i,j,b,aY.mp M]at d;rw[d]at c;have c:B=some (.builtin n):=c;subst c;have w:=d;rw[aF,aF,aF,aF,aF,beq_iff_eq,beq_iff_eq,beq_iff_eq]at q;obtain⟨⟨⟨⟨⟨e,g⟩,i⟩,j⟩,b⟩,p⟩:=q;subst e;subst g;obtain⟨N,P,o,Q,R,S,T,U,V,O,m⟩:=cd;have r:o=.ref k::l:=u;have s:m=false:=by simpa using i
 have t:F= #[x,y,z,A,some (.builtin n),D]:=by
  apply Nn
  exact w
 subst r;subst s;subst t;exact⟨_,_,_,_,_,_,_,_,_,_,_,_,_,_,_,_,_,a _ _ v,.of_isNs (isNs_of_in a b),ns_some a (.of_isNs (isNs_of_in a b)) p,tail_of_in a j⟩
structure MkX(K:ah)(C f:Addr):Prop where
 ex:t5 K C f bmV "ValueError.__new__"=true
 fn:∃o,K.lookup f=some o/\o.cls=.type "function"
 kp:keepIn K (.ref C)=true
section
variable {CX:CXT}{C f:Addr}{fd:fg}{ps:List Str}{sp:Sp}{ds:List Value}{E:XK}
def HV{Q:VK}{vs:List V}(M:MkX X.K C f)(F:jx X.prog X.w X.K X.mg X.base CX k f fd ps sp)(y:jf (k+1) X.A)(o:Binds X.K fd ps ds)(p:bM al ds)
  (A:∀(H':Hp)(i:Shared)(e:Value)(s':Shared),Inv X pins σ H' i->CX X.stack H' i E e s'->X.xe e s')(I:Inv X pins σ H s)(r:bM vs us)(w:vs.length<=sizeLine)
  (h:∀x,s.heap.objs.size<=x->H x=none->sp (.ref x::(vs++al)) (upd H x (exO x C none)) (fun v H2=>v=.non/\Q (.ref x) H2) E):
  wpAny (model X.prog X.w) X.A (call (.ref C) us) (EP X pins σ Q) X.xe s:=by
 have hq:=h (s.heap.objs.size+1) (dU _) (I.hok.fresh (dU _));obtain⟨nm,qn,N,bs,K,U,sn,sub,J,L,O,W,Y,Z,k3,k5,mN,m,n,hi,T⟩:=xJ (bmB:=bmV) I.kIn M.ex;obtain⟨oI,hf,q⟩:=M.fn;have c:Inv X pins σ (upd H (s.heap.objs.size+1) (exO (s.heap.objs.size+1) C none)) {s with heap:=CD s.heap C us}:=by refine I.laid (t':=s.toks) (fun b a0 e=>km e) (dU _) ?_;exact⟨⟨_,AY⟩,⟨_,AY⟩,fun R S ⟨G,z⟩ k=>⟨G,k _ z⟩⟩
 have g:bM (V.ref (s.heap.objs.size+1)::(vs++al)) (bE (s.heap.objs.size+1)::(us++ds)):=.cons rfl (r.append p);have t:(bE (s.heap.objs.size+1)::us++ds).length=ps.length:=by have e:=g.length;rw[F.len _ _ _ _ hq]at e;exact e.symm
 obtain⟨d,P,dr,tk,os⟩:=s;refine Jc (fI:=f) yN T m n hi (I.kIn _ _ hf) q (by rw[<-r.length];exact w) ?_;refine iK (jY (F.run _ X.stack _ _ ⟨bE (d.objs.size+1)::us,[]⟩ (bE (d.objs.size+1)::(us++ds)) _ _ E (y.make C us []) (c.env0.make C us []) (o _ (bE (d.objs.size+1)::us) c.kIn t) g hq) fun r s' a=>?_);cases r with
 |error e=>exact A _ _ e s' c a
 |ok fl=>
  cases fl with
  |ret u=>obtain⟨v,H',j,D,l,B⟩:=c.after a;subst l;exact⟨D,⟨V.ref (d.objs.size+1),H',j,rfl,B⟩⟩
  |next =>exact hV a
  |brk=>exact hV a
  |cont=>exact hV a
end
end L2
namespace L2
open PySem PySem.Spec PySem.W PyProof.Rows PySem.Builtin PySem.Builtin.ObjectAttr
abbrev Cs:List Value->Bool
 |.ref _::r=>Cs r
 |l=>l==bmV
def refuseV(a:Value):refuseLoop a "__setattr__" bmV=pure ():=by kernel_rfl
theorem F9(a:Value):∀{l:List Value},Cs l=true->refuseLoop a "__setattr__" l=pure ()
 |.ref c::r,e=>by rw[refuseLoop_ref];exact F9 a e
 | [],e=>by cases e
 |.type n::r,e=>by rw[show(.type n::r:List Value)=bmV from beq_iff_eq.mp e];exact refuseV a
 |.none::r,e=>by cases e
 |.ellipsis::r,e=>by cases e
 |.notImplemented::r,e=>by cases e
 |.bool _::r,e=>by cases e
 |.int _ _::r,e=>by cases e
 |.float _ _::r,e=>by cases e
 |.str _ _::r,e=>by cases e
 |.bytes _ _::r,e=>by cases e
 |.builtin _::r,e=>by cases e
theorem zj:∀{l:List Value},Cs l=true->l.contains (.type "object")=true
 |.ref c::r,e=>by rw[List.contains_cons,zj (l:=r) e,pV]
 | [],e=>by cases e
 |.type n::r,e=>by rw[show(.type n::r:List Value)=bmV from beq_iff_eq.mp e];decide
 |.none::r,e=>by cases e
 |.ellipsis::r,e=>by cases e
 |.notImplemented::r,e=>by cases e
 |.bool _::r,e=>by cases e
 |.int _ _::r,e=>by cases e
 |.float _ _::r,e=>by cases e
 |.str _ _::r,e=>by cases e
 |.bytes _ _::r,e=>by cases e
 |.builtin _::r,e=>by cases e
section
variable {R:Result->Shared->Prop}{s:Shared}{x C:Addr}
def Ct{r:Obj}{od:Option Obj}{name:Str}{tk:Tok}{v:Value}(X:K.In s.heap)(I:InstAt s.heap x r C od)(hp:(clsIn K C).any (fun cd=>Cs cd.mro)=true)(p:takerIn K C name=some none)
  (h:∀b,wpAny (model prog w) A.in1 (storeInOwnDict (.ref x) (.ref C) (.str name tk) name v b)
   (fun k s'=>match k with |.done f=>R (.ok f) s'|.again c'=>c'.quiet=true/\gR (model prog w) A c' R s') (fun e s'=>R (.error e) s') s):
  gR (model prog w) A (.call (.builtin "object.__setattr__") ⟨[.ref x,.str name tk,v],[]⟩) R s:=by
 have c:=PySem.F.store_object;obtain⟨cd,i,d⟩:=any_some hp;have ne:cd.mro.isEmpty=false:=by cases q:cd.mro with |nil=>rw[q]at d;cases d|cons _ _=>rfl
 have sub:Looks (model prog w) s.heap (Jt (.ref x) (.type "object")) true:=I.type.andThen (looks_mroIn X (by unfold mroIn;rw[i,fK,if_neg (by rw[ne];decide),zj d]));refine iO c.slot.plain c.entry (@check_slot (model prog w) _ _ s "object.__setattr__" "object" "__setattr__" (.ref x) [.str name tk,v] [] _ c.kind c.split sub (c.args (.ref x) (.str name tk) v) ?_);obtain⟨g,l,o⟩:=Option.bind_eq_some_iff.mp p;have n:Looks (model prog w) s.heap (mroOf (.ref C)) cd.mro:=(looks_clsIn X i).andThen .now;have j:Looks (model prog w) s.heap (storeTaker? g) none:=by
  cases g with
  |none=>exact .now
  |some a=>
   obtain⟨b,m,q⟩:=ja.mp o;refine(looks_takesIn X m).andThen ?_;cases b;·exact .now
   ·cases q
 rw[osa_eq,refuse_eq];refine af (af (I.type.here (af (n.here ?_))));rw[F9 _ d];refine aj (af (I.type.here (af ((tj X l).here (af (j.here ?_))))));exact h _
end
section
variable {E:Value->Shared->Prop}{s:Shared}{e C:Addr}{name:Str}{v:Value}{vs:Array Value}{Q:Unit->Shared->Prop}
structure StX(K:ah)(C:Addr)(name:Str):Prop where
 hs:findIn K (.ref C) "__setattr__"=some (some (.builtin "object.__setattr__"))
 hp:(clsIn K C).any (fun cd=>Cs cd.mro)=true
 ht:takerIn K C name=some none
 hd:(clsIn K C).any (·.hasDict)=true
noncomputable abbrev nF(C:Addr)(d:Option Addr)(vs:Array Value):Obj:={cls:=.ref C,dict:=d,data:=.fields vs}
def Mp(a:h.get? e=some (nF C none vs)):InstAt h e (nF C none vs) C none:=⟨a,rfl,rfl,trivial⟩
def Mo{d:Addr}{o:Obj}(b:h.get? e=some (nF C (some d) vs))(a:h.get? d=some o):InstAt h e (nF C (some d) vs) C (some o):=⟨b,rfl,rfl,a⟩
def Ew(X:K.In s.heap)(S:StX K C name)(a:s.heap.get? e=some (nF C none vs))
  (h:∀h',h'.get? e=some (nF C (some s.heap.objs.size) vs)->h'.Ns1 s.heap.objs.size (fun y=>if y=name then some v else none)->(∀b o,b≠e->s.heap.get? b=some o->h'.get? b=some o)->Q () {s with heap:=h',toks:=s.toks+2}):
  wpAny (model prog w) A (setAttr (.ref e) name v) Q E s:=by
 have I:=Mp a;refine set_plain X I S.hs (Ct (s:={s with toks:=s.toks+1}) X I S.hp S.ht fun b=>?_);obtain⟨cd,k,m⟩:=any_some S.hd;refine af (aj (af (af (Jm a (af (BN (s:={s with toks:=s.toks+1}) (Hn X k) ?_))))));rw[m];show wpAny _ _ (alloc {cls:=.type "dict",data:=.dict #[]}>>=_) _ _ _;have c:(s.heap.push {cls:=.type "dict",data:=.dict #[]}).get? e=some (nF C none vs):=ag _ a;have r:=aA a;refine af (wpAny_alloc (af (wpAny_update c ?_)));show wpAny _ _ (pure (some s.heap.objs.size)) _ _ _;refine aj ?_;show wpAny _ _ (pure ()>>=_) _ _ _;refine af (aj (af ?_));have f:s.heap.objs.size≠e:=eN r;have n:((s.heap.push {cls:=.type "dict",data:=.dict #[]}).update e fun o=>{o with dict:=some s.heap.objs.size}).get? s.heap.objs.size=some {cls:=.type "dict",data:=.dict #[]}:=by rw[aS _ _ (bI f)];exact ay _ rfl
 have t:((s.heap.push {cls:=.type "dict",data:=.dict #[]}).update e fun o=>{o with dict:=some s.heap.objs.size}).Ns1 s.heap.objs.size (fun _=>none):=
  ⟨_,#[],_,n,rfl,fun x B=>by simp at B,kg,fun y=>rfl⟩
 have z:kU (fun _=>none:Str->Option Value) []:=kU.nil;refine wpAny_nsSet1 t fun h' d g=>?_;obtain⟨G,F,D,u,p,l⟩:=d.count (DS name v z);refine af (wpAny_lookBehind u (by rw[p];exact pastItsLine_dict (aL l (by show 1<=sizeLine+1;decide))) ?_);refine aj (h _ ?_ d fun b o i q=>?_);·rw[g.2 _ (bI f),ck _ c rfl]
 ·have j:b≠s.heap.objs.size:=aP (aA q);rw[g.2 _ j,aS _ _ (bI i)];exact ag _ q
def HN{d:Addr}{g:List Str}(X:K.In s.heap)(S:StX K C name)(a:s.heap.get? e=some (nF C (some d) vs))(c:s.heap.Ns1 d mA)(q:kU mA g)(B:g.length<sizeLine)
  (h:∀h',h'.Ns1 d (fun y=>if y=name then some v else mA y)->dq d s.heap h'->Q () {s with heap:=h',toks:=s.toks+2}):
  wpAny (model prog w) A (setAttr (.ref e) name v) Q E s:=by
 obtain⟨o,u,r,m,z⟩:=id c;have I:=Mo a m;refine set_plain X I S.hs (Ct (s:={s with toks:=s.toks+1}) X I S.hp S.ht fun b=>?_);obtain⟨cd,i,k⟩:=any_some S.hd;refine af (aj (af (af (Jm a (af (BN (s:={s with toks:=s.toks+1}) (Hn X i) ?_))))));rw[k];show wpAny _ _ (pure (some d)) _ _ _;refine aj ?_;show wpAny _ _ (pure ()>>=_) _ _ _;refine af (aj (af ?_));refine wpAny_nsSet1 (s:={s with toks:=s.toks+1}) c fun h' f p=>?_;obtain⟨D,x,t,n,l,j⟩:=f.count (DS name v q);refine af (wpAny_lookBehind n (by rw[l];exact pastItsLine_dict (aL j (by rw[bC];lia))) ?_);exact aj (h _ f p)
end
end L2
namespace L2
open PySem PySem.Spec PySem.W PyProof.Rows
section
variable {pins:List (Addr×Obj)}{s:Shared}{E:Value->Shared->Prop}{a C:Addr}{f:Str}
def xd_ok{d:Addr}{fs:List (Str×V)}(H:Hp)(n:h.Ns1 d mA)(r:∀f,ur (fs.lookup f) (mA f))(a:kU mA (fs.map (·.1))):dO P w H h d (xdO d fs):=
 ⟨⟨mA,n,r,a⟩,let⟨o,_,_,e,_⟩:=n;⟨o,e⟩,fun b c ⟨m,n,r⟩ k=>⟨m,n.at k,r⟩⟩
def ex_ok{e:Addr}(H:Hp)(q:h.get? e=some (nF C d #[.ref x0,.none,.none,.none,.bool false,.none])):dO P w H h e (exO e C d):=
 ⟨⟨x0,q⟩,⟨_,q⟩,fun a b ⟨x,z⟩ k=>⟨x,k _ z⟩⟩
def Kk{Q:Unit->Shared->Prop}(I:Inv X pins σ H s)(e:H a=some (exO a C none))(S:StX X.K C f)(F:RelV y u)
  (h:∀s' dd,H dd=none->Inv X pins σ (upd (upd H dd (xdO dd [(f,y)])) a (exO a C (some dd))) s'->Q () s'):wpAny (model X.prog X.w) A (setAttr (.ref a) f u) Q E s:=by
 obtain⟨⟨K,j⟩,_⟩:=I.hok a _ e;refine Ew I.kIn S j fun G i t B=>h _ s.heap.objs.size (I.hok.fresh (aw _)) ?_;obtain⟨c,p,n,m,r⟩:=id t;have J:H s.heap.objs.size=none:=I.hok.fresh (aw _);have z:s.heap.objs.size≠a:=eN (aA j);have d:(s.heap.push c).get? s.heap.objs.size=some c:=ay _ (Obj.isFreed_of_dict r.1);have D:(s.heap.push c).Ns1 s.heap.objs.size (fun y=>if y=f then some u else none):=⟨c,p,n,d,r⟩;have k:Inv X pins σ (upd H s.heap.objs.size (xdO s.heap.objs.size [(f,y)])) {s with heap:=s.heap.push c,toks:=s.toks}:=by
  refine I.laid (t':=s.toks) (fun b o q=>ag _ q) (aw _) (xd_ok _ D (fun g=>?_) fun g w=>?_)
  ·by_cases q:g=f;·subst q;simp[cW];exact F
   ·have :(g==f)=false:=by simpa using q
    simp[cW,this,q];exact True.intro
  ·by_cases q:g=f;·simp[q]
   ·exact absurd (if_neg q) w
 have l:upd H s.heap.objs.size (xdO s.heap.objs.size [(f,y)]) a=some (exO a C none):=by rw[ba (bI z)];exact e
 refine k.write (x:=a) (e:=a) (t':=s.toks+2) (by rw[l];exact True.intro) (.inl rfl) (fun b o v q=>?_) ⟨_,i⟩ (ex_ok _ i);by_cases hbs:b=s.heap.objs.size;·subst hbs;have q:(s.heap.push c).get? s.heap.objs.size=some o:=q;rw[d]at q;cases q;exact m
 ·refine B b o v ?_;have q:(s.heap.push c).get? b=some o:=q;rw[Heap.get?_push_ne _ _ _ hbs]at q;exact q
def Kj{dd:Addr}{fs:List (Str×V)}{Q:Unit->Shared->Prop}(I:Inv X pins σ H s)(e:H a=some (exO a C (some dd)))(c:H dd=some (xdO dd fs))(B:fs.length<1000)(S:StX X.K C f)(v:RelV y u)
  (h:∀s',Inv X pins σ (upd H dd (xdO dd (qS f y fs))) s'->Q () s'):wpAny (model X.prog X.w) A (setAttr (.ref a) f u) Q E s:=by
 obtain⟨⟨D,n⟩,_⟩:=I.hok a _ e;obtain⟨⟨d,t,r,j⟩,_⟩:=I.hok dd _ c;refine HN I.kIn S n t j (by rw[ai,vp];lia) fun k i w=>h _ ?_;have m:∃o,k.get? dd=some o:=let⟨o,_,_,e',_⟩:=i;⟨o,e'⟩;refine I.write (x:=dd) (e:=dd) (t':=s.toks+2) (by rw[c];exact True.intro) (.inl rfl) (fun b o l q=>(w.2 b l).trans q) m (xd_ok _ i (fun g=>?_) fun g p=>?_)
 ·show ur ((qS f y fs).lookup g) (if g=f then some u else d g);rw[uO];by_cases q:g=f;·rw[if_pos q,if_pos q];exact v
  ·rw[if_neg q,if_neg q];exact r g
 ·by_cases q:g=f;·rw[q];exact(tV f y fs).1
  ·refine(tV f y fs).2 g (j g fun z=>p ?_);show(if g=f then some u else d g)=none;rw[if_neg q];exact z
end
def sFldX(K:ah)(ta tv:TE)(f:Str):TS:=fun D σ H=>tv σ H fun y H1=>ta σ H1 fun x H2=>∃a C,x=.ref a/\StX K C f/\
 ((H2 a=some (exO a C none)/\∀dd,H2 dd=none->D.nx σ (upd (upd H2 dd (xdO dd [(f,y)])) a (exO a C (some dd))))\/
  ∃dd fs,H2 a=some (exO a C (some dd))/\H2 dd=some (xdO dd fs)/\fs.length<1000/\D.nx σ (upd H2 dd (xdO dd (qS f y fs))))
section
variable {value:Expr}{f:Str}{ta tv:TE}
def ps_fldX(r:PE X o ta)(z:PE X value tv)(w:rB value (some (.Attribute o f pos')) pos.line X.env=pure false):PS X (.Assign [.Attribute o f pos'] value pos) (sFldX X.K ta tv f):=by
 intro i s b H D I h;refine plainObj_wpAny_Assign_Attribute (thn (z i s b H _ I h) fun u F ⟨y,l,m,j,q⟩=>thn (r i F b l _ m q) fun A K ⟨x,J,d,E,a,C,p,S,B⟩=>?_) w;subst p;obtain rfl:A=bE a:=E;rcases B with⟨e,k⟩ |⟨g,fs,e,n,v,k⟩;·exact Kk d e S j fun G g t c=>⟨b,_,c,k g t⟩
 ·exact Kj d e n v S j fun G c=>⟨b,_,c,k⟩
end
structure BsX(K:ah)(B:Addr):Prop where
 ga:specialIn K (.ref B) "__getattribute__"=some (some (.builtin "type.__getattribute__"))
 rd:readsIn K B (.type "type")=true
 fd:findCls K (.ref B) (.type "type") "__init__"=some (.val (.builtin "ValueError.__init__"))
def tBase(K:ah)(B:Addr)(t:TA):TE:=fun σ H Q=>BsX K B/\t σ H fun vs H1=>∃a C f us,vs=.ref a::us/\H1 a=some (exO a C none)/\us.length<=sizeLine/\t5 K C f bmV "ValueError.__new__"=true/\Q .non H1
section
variable {x:Str}{B:Addr}{es:List Expr}{t:TA}{apos:Pos}
def KC{Q:VK}(I:Inv X pins σ H s)(e:H a=some (exO a C none))(m:us.length<=sizeLine)(p:t5 X.K C f bmV "ValueError.__new__"=true)(q:Q .non H):
  wpAny (model X.prog X.w) X.A (call (.builtin "ValueError.__init__") (.ref a::us)) (EP X pins σ Q) X.xe s:=by
 obtain⟨⟨S,l⟩,_⟩:=I.hok a _ e;obtain⟨O,P,N,bs,v,B,R,sub,u,w,y,F,G,J,K,L,M,j,A,hi,T⟩:=xJ (bmB:=bmV) I.kIn p;obtain⟨D,h,dr,tk,t⟩:=s;refine Ji yN T j l m fun i r ⟨b,g⟩ E=>?_;have n:upd H a (exO a C none)=H:=by
  funext c
  by_cases z:c=a;·rw[z,au,e]
  ·rw[ba z]
 have d:Inv X pins σ (upd H a (exO a C none)) ⟨i,h,dr,tk,t⟩:=I.write (x:=a) (e:=a) (t':=tk) (by rw[e];exact True.intro) (.inl rfl) (fun b o k q=>r b o k q) ⟨_,g⟩ (ex_ok _ g);rw[n]at d;exact⟨.non,H,d,rfl,q⟩
def Lv{env:Env}{name:Str}{a:List Expr}{Q:Value->Shared->Prop}
  (g:M1 o name env (eval o env)=eval o env)
  (i:((backTo pos (bB a env)).all (fun x=> !x.1)&&(BH pos (pP [] env)).all (fun x=>x.1.isSome)
   &&decide (a.length+([]:List Keyword).length+(if([]:List Keyword).isEmpty then 0 else 1)<30))=true)
  (k:(apos.endLine==pos.line)=true)
  (h:wpAny (model prog w) A (eval o env) (fun c d=>∀pl,wpAny (model prog w) A (getMethod c name pl) (fun b f=>wpAny (model prog w) A (callWith pos b.1 b.2 (backTo pos (bB a env)) (BH pos (pP [] env))) Q E f) E d) E s):
  wpAny (model prog w) A (eval (.Call (.Attribute o name apos) a [] pos) env) Q E s:=by
 rw[arm_eval_Call,g];refine af (cZ h (fun c d m=>?_) fun _ _ e=>e);refine af (pY ?_);have j:methodCallForm (a.length+([]:List Keyword).length) (backTo pos (bB a env)) (BH pos (pP [] env))=true:=i;have l:methodCallPos true o env apos pos=pure pos:=by unfold methodCallPos;simp[k]
 unfold methodCall;rw[j];refine af (bY (cZ (m _) (fun b f n=>?_) fun _ _ e=>e));exact af (pN l n)
def pe_base(m:Gl X x)(p:X.mg x=some (.ref B))(j:PA X (e::es) t)(k:(x==("__debug__":Str))=false)(u:bB (e::es) X.env=(false,eval e X.env)::bB es X.env)(r:(backTo pos (bB es X.env)).any (·.1)=false)
  (l:((backTo pos (bB (e::es) X.env)).all (fun x=> !x.1)&&(BH pos (pP [] X.env)).all (fun x=>x.1.isSome)
   &&decide ((e::es).length+([]:List Keyword).length+(if([]:List Keyword).isEmpty then 0 else 1)<30))=true)
  (o:(apos.endLine==pos.line)=true):
  PE X (.Call (.Attribute (.Name x np) "__init__" apos) (e::es) [] pos) (tBase X.K B t):=by
 intro w s y H Q I h;obtain⟨b,h⟩:=h;refine Lv rfl l o (pH I m p (fun D=>?_) k);refine PySem.W.method_cls I.kIn b.ga (PySem.W.cls_value I.kIn b.rd b.fd (by decide+kernel) ?_);refine i6 (thn (j pos w _ y H _ (I.tok (s.toks+1)) h) fun F E z=>?_) u r;obtain⟨G,A,d,c,a,C,f,J,g,i,n,v,q⟩:=z;subst g;cases c with
 |cons r0 c=>cases r0;exact KC d i (by rw[<-c.length];exact n) v q
end
abbrev del(H:Hp)(a:Addr):Hp:=fun b=>if b=a then none else H b
def ma:del H a a=none:=if_pos rfl
def jF(h:b≠a):del H a b=H b:=if_neg h
section
variable {M:Model}{E:Value->Shared->Prop}{env:Env}{nm q:Str}{C N:Addr}{bs bm:List Value}{hdct:Bool}{sn:List Str}{sub:List Value}{ab:Bool}{col:Option Bool}{dd:Option Addr}{k0 k1 k2 k3 k5:Option Value}{newId:String}
def EB{x:Sem Value}{Q:Flow->Shared->Prop}(f:bm.contains (.type "BaseException")=true)(k:A.handled=none)
  (h:wpAny M A x (fun v a=>∃e t dx,v=.ref e/\a.heap.get? C=some (pR nm q C N bs bm hdct sn sub ab col dd k0 k1 k2 k3 k5 newId)/\
   a.heap.get? e=some (nF C dx #[.ref t,.none,.none,.none,.bool false,.none])/\E (.ref e) a) E s):
  wpAny M A (raiseStmt env (some x) none) Q E s:=by
 have i:(bE C::bm).contains (.type "BaseException")=true:=by rw[List.contains_cons,f,pV]
 unfold raiseStmt;refine af (cZ h (fun v a l=>?_) fun _ _ x=>x);obtain⟨e,t,dx,rfl,b,j,c⟩:=l;obtain⟨hp,g,d,tk,m⟩:=a;repeat(first |with_reducible refine jU j ?_ |with_reducible refine jU b ?_ | (with_reducible refine wpAny_isSubtype_exc b ?_;rw[i]) |wp_step)
 exact wpAny_raiseNew_none k c
end
section
variable {pins:List (Addr×Obj)}{s:Shared}
theorem Inv.del{g:Heap->Prop}(I:Inv X pins σ H s)(e:H a=some (.ext g)):Inv X pins σ (L2.del H a) s:=by
 have ne:∀{b:Addr}{o:HO},H b=some o->(∀j,o≠.ext j)->b≠a:=fun{b o} q n z=>by rw[z,e]at q;exact n g (bo q).symm
 refine⟨I.ok,I.os,I.bare,⟨I.base.keep,I.base.slot,fun b o q n d=>?_,I.base.there,fun b f q=>?_,fun b o u q=>?_,fun b h q=>?_⟩,I.loc,I.cell,?_,fun x c q=>?_,fun p q=>?_,fun b u q=>?_,I.len⟩
 ·by_cases z:b=a;·rw[z];exact ma
  ·rw[jF z];exact I.base.free b o q n d
 ·have r:=I.base.tups b f q;rw[jF (ne r fun _ z=>by cases z)];exact r
 ·have r:=I.base.frzs b o u q;rw[jF (ne r fun _ z=>by cases z)];exact r
 ·obtain⟨more,r⟩:=I.base.tbls b h q;exact⟨more,by rw[jF (ne r fun _ z=>by cases z)];exact r⟩
 ·by_cases z:X.env.locals=a;·rw[z];exact ma
  ·rw[jF z];exact I.free
 ·by_cases z:c=a;·rw[z];exact ma
  ·rw[jF z];exact I.freeC x c q
 ·obtain⟨i,n,r⟩:=I.pin p q;refine⟨i,?_,r⟩;by_cases z:p.1=a;·rw[z];exact ma
  ·rw[jF z];exact n
 ·by_cases d:b=a;·rw[d,ma]at q;cases q
  ·rw[jF d]at q;exact(I.hok b u q).mS (fun _ _ _ r=>r) (fun c r=>by rw[jF (ne r fun _ z=>by cases z)];exact r) fun c f r=>by rw[jF (ne r fun _ z=>by cases z)];exact r
structure NewX(X:Cx)(pins:List (Addr×Obj))(H:Hp)(s:Shared)(a C:Addr)(d:Option Addr):Prop where
 at_:∃x0,s.heap.get? a=some (nF C d #[.ref x0,.none,.none,.none,.bool false,.none])
 new:X.s₀.heap.get? a=none
 un:H a=none
 pins:∀p∈X.pn++pins,p.1≠a
def zo{M:Model}{Q:Unit->Shared->Prop}(I:Inv X pins σ H s)(c:X.stack=X.env::X.outer)(hf:X.env.frame=some X.env.locals)(n:NewX X pins H s a C d)
  (h:∀s2,Inv X pins σ H s2->Fly X.s₀.heap s2.heap H (X.pn++pins) a (.ref C) d->Q () s2):
  wpAny M X.A (nT (.ref a) X.env) (fun _ s'=>wpAny M X.A (DO (.ref a) none) Q E s') E s:=by
 obtain⟨e,b⟩:=n.at_;unfold nT;simp only[hf];refine af (iJ (x:=.none) b rfl (by rfl) ?_);rw[if_neg (show ¬(bJ != bJ)=true by simp)];exact enter I c hf b rfl (by simp) n.new n.un n.pins h
def Fz(X:Cx)(E:XS):Prop:=∀(pins:List (Addr×Obj))(σ:St)(H:Hp)(s:Shared)(a C:Addr)(d:Option Addr),Inv X pins σ H s->NewX X pins H s a C d->E σ (.ref C) d H->X.xe (.ref a) s
def Ft{cd:Value}{outer:List Env}{E:XK}:
  Fz (Bl (CXx P w) P w K mg base N qual scope f cd A outer s H E) (fun _=>E):=by
 intro F L e G a C d I n q;show wpAny _ _ (leaving _ _) _ _ _;unfold leaving;refine af (zo I rfl rfl n fun J b c=>?_);obtain⟨⟨T,y,D,x,B,i,l,m,o,p,r,t,u,v,j,k,_⟩,g,h,_⟩:=c;exact⟨a,.ref C,d,e,rfl,b.os,b.bare,b.base,b.hok,⟨⟨T,y,D,x,B,i,l,m,o,p,r,t,u,v,j,k,fun _ z=>nomatch z⟩,g,h,fun _ z=>nomatch z⟩,q⟩
def HB{n:Str}{b:Stmt}{c:List Stmt}{e:Pos}{g:TS}{D:Ends}(O:DM X x n C i (b::c) g){f:Addr}(ok:X.Ok)
  (I:Inv (X.re X.A X.calm (X.pn++pins) (kh X pins D [.ExceptHandler (some (.Name x np)) (some n) (b::c) e])) pins' σ H s)(m:NewX (X.re X.A X.calm (X.pn++pins) (kh X pins D [.ExceptHandler (some (.Name x np)) (some n) (b::c) e])) pins' H s a f d)(h:t9 X.K C i g D σ (.ref f) d H):
  kh X pins D [.ExceptHandler (some (.Name x np)) (some n) (b::c) e] (.ref a) s:=by
 have J:Inv X pins σ H s:=I.JR ok fun p z=>bZ _ z;exact zo J O.stk O.fr ⟨m.at_,m.new,m.un,fun p hp=>m.pins p (bZ _ hp)⟩ fun l k j=>uf O k j h
def Kn(C:Addr)(sp:Sp)(al:List V)(E:XS)(t:TA):TS:=fun _ σ H=>t σ H fun vs H1=>vs.length<=sizeLine/\∀a,H1 a=none->
 sp (.ref a::(vs++al)) (upd H1 a (exO a C none)) (fun v H2=>v=.non/\∃d,H2 a=some (exO a C d)/\E σ (.ref C) d (del H2 a)) (E σ)
def HZ{CX:CXT}{A:fg}{sp:Sp}{E:XS}{i:List Expr}{t:TA}{m:Pos}(Mk:MkX X.K C f)(F:jx X.prog X.w X.K X.mg X.base CX k f A ps sp)(hr:jf (k+1) X.A)(Y:Binds X.K A ps ds)(hd:bM al ds)
  (hx:z6 CX X E)(hg:Gl X x)(hm:X.mg x=some (.ref C))(U:PA X (e::i) t)(hc:X.calm=true)(a0:(x==("__debug__":Str))=false)
  (a3:bB (e::i) X.env=(false,eval e X.env)::bB i X.env)(a2:(backTo m (bB i X.env)).any (·.1)=false)(a4:Fz X E):
  PS X (.Raise (some (.Call (.Name x np) (e::i) [] m)) none pos) (Kn C sp al E t):=by
 intro w s g H D I h;obtain⟨nm,J,N,bs,bm,B,sn,sub,ab,col,dd,k0,k1,k2,k3,k5,mN,R,hN,hi,T⟩:=xJ (bmB:=bmV) I.mod.kin Mk.ex;have Z:bm.contains (.type "BaseException")=true:=T.hasType (by decide+kernel);rw[arm_exec_Raise];show wpAny _ _ (do standAt pos;raiseStmt X.env (some (do let v<-eval (.Call (.Name x np) (e::i) [] m) X.env;standAt pos;pure v)) none) _ _ s;refine af (pY (EB (C:=C) (nm:=nm) (q:=J) (N:=N) (bs:=bs) (bm:=bm) (hdct:=B) (sn:=sn) (sub:=sub) (ab:=ab) (col:=col) (dd:=dd) (k0:=k0) (k1:=k1) (k2:=k2) (k3:=k3) (k5:=k5) (newId:="ValueError.__new__") Z (I.ok.hd hc) (af (cZ (Q:=fun v c=>∃a a9 O,v=.ref a/\c.heap.get? C=some (pR nm J C N bs bm B sn sub ab col dd k0 k1 k2 k3 k5 "ValueError.__new__")/\c.heap.get? a=some (nF C O #[.ref a9,.none,.none,.none,.bool false,.none])/\X.xe (.ref a) c) (E:=X.xe) ?_ (fun v c z=>af (pY (aj z))) fun _ _ z=>z))));refine gP (pH I hg hm ?_ a0);refine Jx (h₀:=X.base) I.ok.mod.kin Mk.kp (thn (U m w s g H _ I h) fun us c ⟨vs,H1,l,a6,a1,q⟩=>⟨l.kIn,?_⟩) a3 a2;refine cZ (HV (E:=E g) (Q:=fun v b=>∃a d,c.heap.objs.size<=a/\v=.ref a/\b a=some (exO a C d)/\E g (.ref C) d (del b a)) Mk F hr Y hd (fun L s' e a8 M z=>hx w g L s' e a8 M z) l a6 a1 (fun a n W=>?_)) (fun v s2 z=>?_) fun _ _ z=>z
 ·have e:(fun(v:V)(b:Hp)=>v=.non/\∃d,b a=some (exO a C d)/\E g (.ref C) d (del b a))=fun v b=>v=.non/\∃j d,c.heap.objs.size<=j/\V.ref a=V.ref j/\b j=some (exO j C d)/\E g (.ref C) d (del b j):=by
   funext v b
   apply propext
   constructor;·rintro⟨p,d,r,u⟩;exact⟨p,a,d,n,rfl,r,u⟩
   ·rintro⟨p,b0,d,_,P,r,u⟩;cases P;exact⟨p,d,r,u⟩
  rw[<-e];exact q a W
 ·obtain⟨w',b,o,a7,a,d,n,rfl,y,S⟩:=z;cases a7;obtain⟨⟨K,G⟩,_⟩:=o.hok a _ y;refine⟨a,K,d,rfl,o.bk _ _ R,G,a4 w g (del b a) s2 a C d (o.del y) ⟨⟨K,G⟩,rH (aL l.sz n),ma,fun a5 hp=>?_⟩ S⟩;exact aP (aU (aA (l.pin a5 hp).1) n)
end
abbrev qj(K:ah)(C:Addr)(f:Str):Bool:=
 sy K C&&findIn K (.ref C) f==some none&&(match clsIn K C with |some cd=>cd.hasDict|none=>false)
def Fb{v:V}(r:RelV v u):handedIn u=true:=by
 cases v with
 |non=>cases r;rfl
 |bl b=>cases r;rfl
 |int i=>obtain⟨t,rfl⟩:=r;rfl
 |str x=>obtain⟨t,rfl⟩:=r;rfl
 |byt b=>obtain⟨t,rfl⟩:=r;rfl
 |flt b=>obtain⟨t,rfl⟩:=r;rfl
 |ref a=>cases r;rfl
 |ty n=>cases r;rfl
def LC{d:Addr}{m:Str->Option Value}{f:Str}(N:h.Ns1 d m)(e:m f=some u):∃o,h.get? d=some o/\lookIn f o=some (some u):=by
 obtain⟨o,a,g,c,b,_,_,hf⟩:=N;refine⟨o,c,?_⟩;have q:=(hf f).trans e;unfold nsFind findBy at q;rw[<-uD]at q;unfold lookIn;rw[b];dsimp only;cases hz:a.toList.find? (·.key.isStr f)with
 |none=>rw[hz]at q;cases q
 |some en=>rw[hz]at q;simpa using q
def Dk{f:Str}{o:Obj}(F:qj K C f=true)(e:lookIn f o=some (some u)):vW K C (some o) f=some (.value u):=by
 unfold qj at F;rw[aF,aF,beq_iff_eq]at F;obtain⟨⟨_,b⟩,a⟩:=F;cases hc:clsIn K C with
 |none=>rw[hc]at a;cases a
 |some cd=>
  rw[hc]at a;unfold vW;rw[hc,fK,b,fK];have c:PySem.W.ownOf cd (some o) f=some (some u):=by unfold PySem.W.ownOf;rw[if_pos a];exact e
  simp[c]
section
variable {E:Value->Shared->Prop}{s:Shared}{a C:Addr}{o:Obj}{od:Option Obj}{f:Str}{u:Value}
def MP{tk:Tok}{R:Result->Shared->Prop}(b:K.In s.heap)(J:InstAt s.heap a o C od)(F:yf K C)(hf:vW K C od f=some (.value u))(h:R (.ok (.ret u)) s):
  gR (model prog w) A (.call (.builtin "BaseException.__getattribute__") ⟨[.ref a,.str f tk],[]⟩) R s:=by
 obtain⟨i,g,d,t,j⟩:=s;have c:=J.type (M:=model prog w);have e:=looks_find (M:=model prog w) b J hf;refine iO gB.ga.plain Ea (yd b J F ?_);unfold Builtin.«object.__getattribute__»;repeat(first |with_reducible refine iK ?_ |lk|wp_step)
 exact h
def exc_fld{b:Bool}{Q:Value->Shared->Prop}(c:K.In s.heap)(J:InstAt s.heap a o C od)(F:yf K C)(hf:vW K C od f=some (.value u))(l:handedIn u=true)(h:Q u {s with toks:=s.toks+1}):
  wpAny (model prog w) A (getAttr (.ref a) f b) Q E s:=by
 obtain⟨k,g,d,t,m⟩:=s;have e:=J.type (M:=model prog w);have i:=tj (M:=model prog w) c F.ga;have j:=tj (M:=model prog w) c F.hook;unfold getAttr getAttrBy;refine af (wpAny_mkText (bY (af (e.at (af (i.at ?_))))));show wpAny _ _ (if(DP (.ref C)&&(iQ "BaseException.__getattribute__"==iQ "object.__getattribute__"))=true then _ else _) _ _ _;rw[ga_ne,fT,if_neg ak];unfold getAttrByItsOwn hookBefore;rw[if_pos (show DP (.ref C)=true from rfl)];refine af (j.at ?_);unfold callGetattribute boundAndCalled;rw[show DP (iQ "BaseException.__getattribute__")=false from rfl,fT,if_neg ak];refine af (jg (bY (af ?_)));rw[gB.ga.bind (.ref a)];refine aj (iK (MP (s:=⟨k,g,d,t+1,m⟩) c J F hf ?_));show wpAny _ _ (handedOut u) _ _ _;rw[handedOut_of l];exact aj h
end
def rFld(K:ah)(f:Str):V->Hp->VK->Prop:=fun x H Q=>∃a C dd fs v,x=.ref a/\H a=some (xK a (.ref C) (some dd))/\H dd=some (xdO dd fs)/\qj K C f=true/\fs.lookup f=some v/\Q v H
section
variable {pins:List (Addr×Obj)}{s:Shared}
def get_fld{x:V}{f:Str}{b:Bool}{Q:VK}(I:Inv X pins σ H s)(r:RelV x u)(h:rFld X.K f x H Q):wpAny (model X.prog X.w) X.A (getAttr u f b) (EP X pins σ Q) X.xe s:=by
 obtain⟨a,C,e,fs,v,rfl,l,m,F,p,q⟩:=h;obtain rfl:u=.ref a:=r;obtain⟨⟨o,g,i,j,k⟩,_⟩:=I.hok a _ l;obtain⟨⟨w,N,z,_⟩,_⟩:=I.hok e _ m;have c:=z f;rw[p]at c;cases hm:w f with
 |none=>rw[hm]at c;exact c.elim
 |some y=>
  rw[hm]at c;obtain⟨od,t,n⟩:=LC N hm;have d:sy X.K C=true:=by unfold qj at F;rw[aF,aF]at F;exact F.1.1
  exact exc_fld I.kIn (od:=some od) ⟨g,i,k,by rw[j];exact t⟩ (Dl d) (Dk F n) (Fb c) ⟨v,H,I.tok _,c,q⟩
def Gh{n f:Str}{t:TE}(b:PE X (.Name n np) t):PE X (.Attribute (.Name n np) f pos) (fun σ H Q=>t σ H fun x H1=>rFld X.K f x H1 Q):=by intro c s σ H Q I h;refine Attribute_name (thn (b c s σ H _ I h) fun u d ⟨x,H1,a,r,q⟩=>?_);exact get_fld a r q
def Bs:fV X (.builtin "isinstance") (fun xs H Q=>∃a C d y cv b,xs=[.ref a,y]/\H a=some (xK a (.ref C) d)/\(∀dd,d=some dd->∃fs,H dd=some (xdO dd fs))/\sy X.K C=true/\((∃T,y=.ty T/\cv=lM T)\/(∃D,y=.ref D/\cv=bE D))/\kitOne X.K (.ref C) cv=some b/\Q (.bl b) H):=by
 intro o s r H xs p Q I n h;obtain⟨a,C,d,y,cv,b,rfl,g,j,ok,l,e,q⟩:=h;obtain⟨u,c,rfl,m,f⟩:=n.two;obtain rfl:u=bE a:=m;have i:c=cv:=by
  rcases l with⟨T,rfl,rfl⟩ |⟨D,rfl,rfl⟩;·cases f;rfl
  ·cases f;rfl
 subst i;exact kia_one (LO (Dl ok)) I.kIn (Fd I.hok g fun dd z=>by obtain⟨fs,k⟩:=j dd z;exact⟨_,k⟩) e (fun z=>nomatch z) fun tk=>⟨.bl b,H,I.tok tk,rfl,q⟩
end
end L2
namespace Q
open PySem
def uo(xs:Array Nat):Prop:=xs.toList.Pairwise (·<·)
structure Parts(xs:Array Nat)(j p:Nat):Prop where
 le:p<=xs.size
 lo:∀i x,i<p->xs[i]? =some x->x<j
 hi:∀i x,p<=i->xs[i]? =some x->j<=x
def vG{xs:Array Nat}(h:uo xs){x y:Nat}(e:i<k)(f:xs[i]? =some x)(j:xs[k]? =some y):x<y:=by
 have g:xs.toList[i]? =some x:=by simpa using f
 have l:xs.toList[k]? =some y:=by simpa using j
 obtain⟨c,a⟩:=aC.mp g;obtain⟨d,b⟩:=aC.mp l;have :=da.mp h i k c d e;rw[a,b]at this;exact this
theorem xD{xs:Array Nat}(h:uo xs)(j:Nat):∀(fuel lo hi:Nat),hi-lo<=fuel->lo<=hi->hi<=xs.size->(∀i x,i<lo->xs[i]? =some x->x<j)->(∀i x,hi<=i->xs[i]? =some x->j<=x)->Parts xs j (BK xs j fuel lo hi)
 | 0,lo,hi,hf,hl,hs,a,b=>by
  have e:lo=hi:=by lia
  subst e;exact⟨hs,a,b⟩
 |fuel+1,lo,hi,hf,hl,hs,a,b=>by
  unfold BK;by_cases c:lo<hi
  ·rw[if_pos c];have g:(lo+hi)/2<xs.size:=by lia
   have f:xs[(lo+hi)/2]? =some xs[(lo+hi)/2]:=by simp[g]
   have l:xs.getD ((lo+hi)/2) j=xs[(lo+hi)/2]:=by simp[Nl,g]
   simp only[l];by_cases d:xs[(lo+hi)/2]<j
   ·rw[if_pos d];refine xD h j fuel _ hi (by lia) (by lia) hs (fun i x m e=>?_) b;by_cases k:i=(lo+hi)/2;·subst k;rw[f]at e;cases e;exact d
    ·exact gA (vG h (by lia) e f) d
   ·rw[if_neg d];refine xD h j fuel lo _ (by lia) (by lia) (by lia) a fun i x m e=>?_;by_cases k:i=(lo+hi)/2;·subst k;rw[f]at e;cases e;lia
    ·have :=vG h (by lia:(lo+hi)/2<i) f e;lia
  ·rw[if_neg c];have e:lo=hi:=by lia
   subst e;exact⟨hs,a,b⟩
def lu{xs:Array Nat}(h:uo xs)(j:Nat):Parts xs j (cC xs j):=
 xD h j xs.size 0 xs.size (by lia) (aV _) (aw _) (fun i x hi _=>absurd hi (du _)) fun i x hi e=>by have :=(cH.mp e).1;lia
def C5{a:Type}(xs:Array a)(p:Nat)(x:a):(tH xs p x).toList=xs.toList.take p++x::xs.toList.drop p:=by unfold tH;simp;exact gv (by simp)
theorem Cd{xs:Array Nat}(h:uo xs)(d:∀i:Nat,xs[i]? ≠some j):uo (tH xs (cC xs j) j):=by
 have P:=lu h j;unfold uo;rw[C5];have sub:=h;unfold uo at sub;rw[List.pairwise_append];refine⟨sub.sublist (vY _ _),List.pairwise_cons.mpr ⟨fun y hy=>?_,sub.sublist (List.drop_sublist _ _)⟩,fun x f y hy=>?_⟩
 ·obtain⟨i,hi⟩:=bS.mp hy;rw[gw]at hi;have e:xs[cC xs j+i]? =some y:=by simpa using hi
  have :=P.hi _ _ (yQ _ _) e;have ne:y≠j:=fun z=>d _ (z▸e);lia
 ·obtain⟨i,hi⟩:=bS.mp f;have a:i<cC xs j:=by have :=(aC.mp hi).1;rw[dz]at this;lia
  rw[Eb a]at hi;have e:xs[i]? =some x:=by simpa using hi
  have g:=P.lo _ _ a e;rcases aI.mp hy with rfl|hy;·exact g
  ·obtain⟨k,b⟩:=bS.mp hy;rw[gw]at b;have c:xs[cC xs j+k]? =some y:=by simpa using b
   have :=P.hi _ _ (yQ _ _) c;lia
theorem Fv{xs:Array Nat}(h:uo xs){x:Nat}(e:xs[i]? =some x):cC xs (x+1)=i+1:=by
 have P:=lu h (x+1);have hi:=(cH.mp e).1;apply BQ
 ·apply fY
  intro c;have f:i+1<xs.size:=aU c P.le;have d:xs[i+1]? =some xs[i+1]:=by simp[f]
  have a:=P.lo _ _ c d;have b:=vG h (eh i) e d;lia
 ·apply fY
  intro c;have :=P.hi i x (by lia) e;lia
theorem Fu{xs:Array Nat}(h:uo xs):cC xs 0=0:=by have P:=lu h 0;apply BQ _ (aV _);apply fY;intro c;have a:0<xs.size:=aU c P.le;have :=P.lo 0 xs[0] c (by simp[a]);lia
theorem Jh{xs:Array Nat}(h:uo xs){x:Nat}(e:xs[i]? =some x):cC xs x=i:=by
 have P:=lu h x;apply BQ
 ·apply fY
  intro c;exact dJ _ (P.lo i x c e)
 ·apply fY
  intro c;have f:cC xs x<xs.size:=gA c (cH.mp e).1;have d:xs[cC xs x]? =some xs[cC xs x]:=by simp[f]
  have a:=P.hi _ _ (aw _) d;have b:=vG h c d e;lia
def Ez(n:Nat):uo (Array.range n):=by unfold uo;rw[Array.toList_range];exact Hr
structure kR(t:bF):Prop where
 up:uo t.place
 no:t.dummies= #[]
def slot_no{t:bF}(T:kR t)(j:Nat):t.slot j≠.dummy:=by
 unfold bF.slot;simp only[T.no];split;·simp
 ·split;·rename_i h;exact absurd h (by simp[BU])
  ·simp
def HL{t:bF}(T:kR t)(h:t.slot j=.empty):∀i:Nat,t.place[i]? ≠some j:=fun i e=>by have :=Jh T.up e;unfold bF.slot at h;simp only[this,e,beq_self_eq_true,if_true]at h;cases h
def yL(t:bF)(p:bF.Probe):(t.advance p).dummy=p.dummy:=by unfold bF.advance;split <;>rfl
theorem wM{t:bF}(T:kR t){f:Nat->Int}{h:Int}{d:Option Nat}:∀(fuel:Nat)(p:bF.Probe),p.dummy=none->pT t f h fuel p=some (.empty j d)->t.slot j=.empty/\d=none
 | 0,p,_,e=>by simp[pT]at e
 |fuel+1,p,hp,e=>by
  unfold pT at e;cases hs:t.slot p.j with
  |empty=>rw[hs]at e;simp only[kM,bF.Met.empty.injEq]at e;exact⟨by rw[<-e.1];exact hs,by rw[<-e.2];exact hp⟩
  |dummy=>exact absurd hs (slot_no T _)
  |live i=>
   rw[hs]at e;simp only at e;split at e;·cases e
   ·exact wM T fuel _ (by rw[yL];exact hp) e
def yG{t:bF}(T:kR t){h:Int}{b:Bool}(e:t.freeSlot h=some (j,b)):(∀i:Nat,t.place[i]? ≠some j)/\b=false:=by
 unfold bF.freeSlot at e;split at e;·rename_i j' d hm;unfold bF.probe at hm;obtain⟨a,c⟩:=wM T _ _ (by rfl) hm;subst c;simp only[vX,JF,kM,Prod.mk.injEq]at e;obtain⟨rfl,rfl⟩:=e;exact⟨HL T a,rfl⟩
 ·cases e
def jN(t:bF)(n:Nat):kR (t.standIn n):=⟨Ez n,rfl⟩
def KQ{t:bF}(T:kR t)(a:∀i:Nat,t.place[i]? ≠some j):kR (t.put j).1:=by refine⟨Cd T.up a,?_⟩;show(if BU t.dummies j=true then _ else t.dummies)= #[];rw[T.no];simp[BU]
def wV{t:bF}(T:kR t)(n:Nat):kR (t.orStandIn n):=by
 unfold Hm;split;·exact T
 ·exact jN t n
def C0{t:bF}(T:kR t)(a:Array (Int×Value))(h:Int)(x:Value):kR (layNew t a h x).2.1/\(layNew t a h x).2.2.1=false:=by
 unfold layNew;split;·rename_i j b e;obtain⟨c,d⟩:=yG T e;subst d;exact⟨wV (KQ T c) _,rfl⟩
 ·exact⟨jN t _,rfl⟩
def zv{mask finger moves:Nat}{plain:Bool}{f:Array Int}{t:bF}{g:Array Nat}(h:bF.laid mask finger moves led plain f=some (t,g)):kR t/\t.led=led/\t.plain=plain:=by
 unfold bF.laid at h;cases e:bF.layClean mask f with
 |none=>rw[e]at h;cases h
 |some owner=>
  rw[e]at h;have i:some (({mask,place:=(((aH (mask+1)).filterMap fun j=>(owner.getD j none).map (j,·)).map (·.1)).toArray,dummies:= #[],finger,led,moves,plain}:bF),(((aH (mask+1)).filterMap fun j=>(owner.getD j none).map (j,·)).map (·.2)).toArray)=some (t,g):=h;have k:=(Prod.mk.inj (bo i)).1;subst k;refine⟨⟨?_,rfl⟩,rfl,rfl⟩;show((((aH (mask+1)).filterMap fun j=>(owner.getD j none).map (j,·)).map (·.1)).toArray).toList.Pairwise (·<·);rw[Ni,de,List.pairwise_filterMap];refine Hr.imp fun{a b} l x c y d=>?_;cases ha:owner.getD a none with
  |none=>rw[ha]at c;cases c
  |some u=>
   cases hb:owner.getD b none with
   |none=>rw[hb]at d;cases d
   |some v=>rw[ha]at c;rw[hb]at d;cases c;cases d;exact l
def yA(t:bF)(a:Array (Int×Value))(b:Nat):kR (rC t a b).2.1:=by
 unfold rC;split
 ·rename_i t' order e;simp only;split;·unfold M2 at e;exact(zv e).1
  ·exact jN t _
 ·exact jN t _
theorem put_led(t:bF)(j:Nat):(t.put j).1.led=t.led:=rfl
def yF(t:bF)(n:Nat):(t.orStandIn n).led=t.led:=by unfold Hm;split <;>rfl
def EY(t:bF)(a:Array (Int×Value))(h:Int)(x:Value):(layNew t a h x).2.1.led=t.led:=by
 unfold layNew;split;·exact(yF _ _).trans (put_led _ _)
 ·rfl
def AB(t:bF)(a:Array (Int×Value))(b:Nat):(rC t a b).2.1.led=t.led:=by
 unfold rC;split
 ·rename_i t' order e;simp only;split;·unfold M2 at e;exact(zv e).2.1
  ·rfl
 ·rfl
section
variable {K:Type}[DecidableEq K]{knd:KeyKind prog w K}{E:Value->Shared->Prop}{s:Shared}
def tf(knd:KeyKind prog w K)(h:Heap)(a:Addr)(S:K->Bool)(n:Nat)(led:Bool):Prop:=
 ∃o es ep t,h.get? a=some o/\o.ExactSet/\o.data=.set es ep t/\ElemsOf knd es.toList/\(∀k,S k=true↔∃e∈es.toList,knd.is k e.2=true)/\es.size<gz/\t.fits es.size=true/\es.size=n/\kR t/\t.led=led
def tf.of{S:K->Bool}(x:tf knd h a S n led):h.SetOf knd a S n:=by obtain⟨o,l,k,t,b,c,d,e,f,g,i,j,_⟩:=x;exact⟨o,l,k,t,b,c,d,e,f,g,i,j⟩
def wG{o:Obj}{t:bF}(l:h.get? a=some o)(i:o.ExactSet)(j:o.data=.set es ep t){t':bF}{b:K->Bool}(d:ElemsOf knd es'.toList)(f:∀k,b k=true↔∃e∈es'.toList,knd.is k e.2=true)(c:es'.size<gz)(hf:t'.fits es'.size=true)(m:kR t'):
  tf knd (h.update a (Obj.putSet es' t')) a b es'.size t'.led:=by
 have g:=(SetOf_store (knd:=knd) l i j d f c hf).1;exact⟨_,es',ep+1,t',g,i,rfl,d,f,c,hf,rfl,m,rfl⟩
def DL{g:Bool->Sem Unit}(G:∀(b:Bool)(C:Shared)(x:Unit->Shared->Prop),x () C->wpAny (model prog w) A (g b) x E C){o:Obj}{t:bF}(p:s.heap.get? a=some o)(u:o.ExactSet)(k:o.data=.set es ep t)
  {c:bF}{y:K->Bool}(m:ElemsOf knd aq.toList)(n:∀f,y f=true↔∃e∈aq.toList,knd.is f e.2=true)(d:aq.size<gz)(hf:c.fits aq.size=true)(H:kR c){I:Bool}{R:Option Bool->Shared->Prop}
  (h:∀h',dq a s.heap h'->tf knd h' a y aq.size c.led->R (some true) {s with heap:=h'}):
  wpAny (model prog w) A (do
    storeSet a aq c
    if(!I&&c.tooFull)=true then do
      g (rC c aq (fC aq.size)).2.2
      storeSet a (rC c aq (fC aq.size)).1 (rC c aq (fC aq.size)).2.1
      pure (some true)
     else pure (some true)) R E s:=by
 refine af (wpAny_storeSet_of p k ?_ (pQ d));have z:=(SetOf_store (knd:=knd) p u k m n d hf).1;have J:=wG (knd:=knd) p u k m n d hf H;have B:=bQ s.heap a (Obj.putSet aq c);split
 ·have hp:=relayAll_perm c aq (fC aq.size);have r:=relayAll_fits c aq (fC aq.size);have j:=yA c aq (fC aq.size);have i:=AB c aq (fC aq.size);generalize rC c aq (fC aq.size)=Rl at hp r j i⊢;obtain⟨F,t3,L⟩:=Rl;dsimp only at hp r j i⊢;have v:F.size=aq.size:=by rw[<-cD,hp.length_eq,cD]
  refine af (G _ _ _ (af (wpAny_storeSet_of z rfl ?_ (pQ (by rw[v];exact d)))));have D:=wG (knd:=knd) z u rfl (m.perm hp) (fun f=>(n f).trans ⟨fun⟨e,l,q⟩=>⟨e,hp.mem_iff.mpr l,q⟩,fun⟨e,l,q⟩=>⟨e,hp.mem_iff.mp l,q⟩⟩) (by rw[v];exact d) r j;rw[v,i]at D;exact aj (h _ (B.trans (bQ _ a _)) D)
 ·exact aj (h _ B J)
def EE{t:bF}(T:kR t):kR {t with plain:=false}:=⟨T.up,T.no⟩
def addX{S:K->Bool}{k:K}{x:Value}{Q:Bool->Shared->Prop}(F:knd.is k x=true)(H:x.scannable=true)(V:tf knd s.heap a S n led)(O:n+1<gz)
  (h:∀h',dq a s.heap h'->tf knd h' a (fun c=>S c||decide (c=k)) (if S k then n else n+1) led->Q (!S k) {s with heap:=h'}):
  wpAny (model prog w) A (setAddHashed a x (knd.hash k)) Q E s:=by
 obtain⟨o,d,U,t,u,I,p,B,C,N,hf,G,P,z⟩:=V;have a0:d.size+1<gz:=by rw[G];exact O
 unfold setAddHashed setAddHashedIn;refine bY (af (iy u p hf ?_));dsimp only;rw[byScan_of H N B];simp only[↓reduceIte];unfold setAddByScan;refine af ?_;refine af (iI (af (wpAny_setScan_of F u p hf B ?_)));cases hr:List.findIdx? (fun e=>knd.is k e.2) d.toList with
 |some j=>
  dsimp only;obtain⟨W,hp,_⟩:=List.findIdx?_eq_some_iff_getElem.mp hr;have l:S k=true:=(C k).mpr ⟨d.toList[j],a9 W,hp⟩;refine aj (aj ?_);have :=h s.heap (dq.refl a s.heap) ⟨o,d,U,t,u,I,p,B,fun c=>by rw[cu,decide_eq_true_eq,<-C c];exact⟨fun q=>q.elim id (fun e=>e▸l),.inl⟩,N,hf,by rw[l];exact G,P,z⟩
  rw[l]at this;exact this
 |none=>
  dsimp only;have l:S k=false:=by
   cases q:S k with
   |false=>rfl
   |true=>obtain⟨e,D,Y⟩:=(C k).mp q;have :=List.findIdx?_eq_none_iff.mp hr e D;rw[Y]at this;cases this
  have X:∀(b:Bool){y:Shared}{f:Unit->Shared->Prop},f () y->wpAny (model prog w) A (match b with |true=>rule "set.scan.the-table-gave-way" |false=>pure ()) f E y:=fun b y f q=>by cases b<;>first |exact aj q|exact iI q
  have hp:=layNew_perm t d (knd.hash k) x;have r:=layNew_fits t d (knd.hash k) x;have m:=(C0 P d (knd.hash k) x).1;have i:=EY t d (knd.hash k) x;generalize layNew t d (knd.hash k) x=L at hp r m i⊢;obtain⟨g,t1,wd,Z⟩:=L;dsimp only at hp r m i⊢;rw[Array.toList_push]at hp;have l1:ElemsOf knd g.toList:=(B.push F H).perm hp;have D:∀c,(S c||decide (c=k))=true↔∃e∈g.toList,knd.is c e.2=true:=mem_push_iff F C hp;have R:g.size=n+1:=by rw[<-cD,hp.length_eq,bj,cD,G];rfl
  have J:g.size<gz:=by rw[R];exact O
  refine af (X _ ?_);have M:∀h',dq a s.heap h'->tf knd h' a (fun c=>S c||decide (c=k)) g.size led->Q true {s with heap:=h'}:=fun h' v x=>by have :=h h' v;rw[l]at this;rw[R]at x;exact this x
  split
  ·refine af ?_;rw[hashByValue_scannable 8 H];refine aj (DL ?_ u I p l1 D J ?_ ?_ ?_);·intro b y f q;cases b<;>first |exact aj q|exact iI q
   ·split;·exact r
    ·exact bF.fits_plain_off r
   ·split;·exact m
    ·exact EE m
   ·intro h' v x;refine aj (M h' v ?_);split at x;·rw[i,z]at x;exact x
    ·have T:({t1 with plain:=false}:bF).led=led:=i.trans z;rw[T]at x;exact x
  ·refine af (aj ?_);simp only[↓reduceIte];refine DL ?_ u I p l1 D J r m ?_;·intro b y f q;cases b<;>first |exact aj q|exact iI q
   ·intro h' v x;rw[i,z]at x;exact aj (M h' v x)
end
end Q
set_option maxHeartbeats 3200000
namespace Q
open PySem PySem.Spec PySem.W PyProof.Rows L2
section
variable {R:Result->Shared->Prop}{I:Addr}{fp wr:List Addr}{G:Array lN->Array lN->Prop}{P:Nat->Value->Prop}{St:Nat->Shared->Prop}
theorem zd(W:WalksS prog w A.in1 I fp wr G n P St)(S:Addr)(h:S∉fp)(ks:List Key)(r:ks.length=n)(y:∀i v,P i v->∃k,ks[i]? =some k/\RelV (kV k) v)(d:n+1<gz):
  ∀(m i:Nat)(s:Shared),n-i=m->i<=n->St i s->tf (cE prog w) s.heap S (has (met (ks.take i))) (met (ks.take i)).length led->
   (∀s',Moved (S::wr) G s s'->tf (cE prog w) s'.heap S (has (met ks)) (met ks).length led->R (.ok (.ret .none)) s')->
   gR (model prog w) A (.builtin "set.update.loop" ⟨[.ref S,.ref I],[]⟩) R s
 | 0,i,s,hm,hi,st,hS,hR=>by
  obtain rfl:i=n:=by lia
  rw[<-r,fS]at hS;refine eL nU ?_;rw[dv gC _];show wpAny _ A.in1 (pyNext (.ref I)>>=_) _ _ s;refine af (W.done s _ _ st fun s' g=>?_);obtain⟨o,c,a,t,f,p⟩:=hS;exact aj (hR s' (g.mono fun b d=>aK _ d) ⟨o,c,a,t,g.heap S _ (fun z=>h (W.sub _ z)) f,p⟩)
 |m+1,i,s,hm,hi,st,hS,hR=>by
  have q:i<n:=by lia
  refine eL nU ?_;rw[dv gC _];show wpAny _ A.in1 (pyNext (.ref I)>>=_) _ _ s;refine af (W.item i s _ _ q st fun v s' D a0 g=>?_);obtain⟨k,O,l⟩:=y i v D;have E:tf (cE prog w) s'.heap S (has (met (ks.take i))) (met (ks.take i)).length led:=by obtain⟨o,c,a,t,f,p⟩:=hS;exact⟨o,c,a,t,g.heap S _ (fun z=>h (W.sub _ z)) f,p⟩
  have V:v.scannable=true:=by
   cases k with
   |inl j=>obtain⟨t,rfl⟩:=l;rfl
   |inr x=>obtain⟨t,rfl⟩:=l;rfl
  show wpAny _ A.in1 (holding [v] (setAdd S v)>>=_) _ _ s';refine af (bY ?_);unfold setAdd;refine bY (af ((cE prog w).pyHash (k:=k) (LU l) ?_));have Q:=ET (ks.take i);rw[dz]at Q;refine addX (knd:=cE prog w) (led:=led) (s:={s' with toks:=s'.toks+1}) (LU l) V E (by lia) fun C u F=>?_;have B:ks.take (i+1)=ks.take i++[k]:=by rw[dM,O];rfl
  have H:tf (cE prog w) C S (has (met (ks.take (i+1)))) (met (ks.take (i+1))).length led:=by rw[B,Lw];obtain⟨o,c,a,t,f,N,L,M,T,K,hf,U,X⟩:=F;refine⟨o,c,a,t,f,N,L,M,fun j=>?_,K,hf,by rw[si];exact U,X⟩;rw[<-T j,jS,CN,cu,jS,decide_eq_true_eq]
  refine aj ⟨fW gC _,zd W S h ks r y d m (i+1) _ (by lia) q (W.frame _ s' _ _ a0 (dU _) fun b hq o e=>?_) H fun Z Y J=>?_⟩;·rw[u.2 b (fun z:b=S=>h (by rw[<-z];exact hq))];exact e
  ·refine hR Z (JC W.gtrans ((g.mono fun b d=>aK _ d).then_heap (dU _) fun b o hq e=>?_) Y) J;rw[u.2 b (fun z:b=S=>hq (by rw[z];exact aM))];exact e
end
section
variable {E:Value->Shared->Prop}{s:Shared}
def IU(a:Value)(h:Q₁ (.ref s.heap.objs.size) {s with heap:=s.heap.push (nX (!w.params.followText "set-order"))}):gR (model prog w) A (.call (.builtin "set.__new__") ⟨[.type "set",a],[]⟩) (wants Q₁ E) s:=by refine FG ?_;show wpAny _ A.in1 (do DQ "set.__new__" ⟨[.type "set",a],[]⟩;again (.builtin "set.__new__" ⟨[.type "set",a],[]⟩)) _ _ s;refine af (pN (F.newCall_set_1 a) (aj ⟨fW F.plain_set_new _,eL F.entry_set_new ?_⟩));rw[dv F.plain_set_new _];unfold Builtin.«set.__new__» Builtin.Frozenset.newClass;have b:=sub_set_self;obtain⟨hp,g,d,tk,c⟩:=s;dsimp only;wp_walk;refine iY (aj ?_);dsimp only;simp only[newObj];exact af (wpAny_alloc (aj (aj h)))
def HP{P:Bool->Heap->Prop}{Q:Value->Shared->Prop}(D:s.heap.IsList l bi)
  (I:∀(led:Bool)(R:Result->Shared->Prop),(∀s',Moved (s.heap.objs.size::[(s.heap.push (nX led)).objs.size]) (fun a b=>b=a) {s with heap:=(s.heap.push (nX led)).push {cls:=.type "list_iterator",data:=.fields #[.ref l,.int 0 0]}} s'->P led s'.heap->R (.ok (.ret .none)) s')->gR (model prog w) A.in1.in1 (.builtin "set.update.loop" ⟨[.ref s.heap.objs.size,.ref (s.heap.push (nX led)).objs.size],[]⟩) R {s with heap:=(s.heap.push (nX led)).push {cls:=.type "list_iterator",data:=.fields #[.ref l,.int 0 0]}})
  (h:∀(h':Heap)(tk:Nat),P (!w.params.followText "set-order") h'->(∀b o,b<s.heap.objs.size->s.heap.get? b=some o->h'.get? b=some o)->Q (.ref s.heap.objs.size) {s with heap:=h',toks:=tk}):
  wpAny (model prog w) A (call (.type "set") [.ref l]) Q E s:=by
 have d:=F.called_set;obtain⟨c,tl,a1⟩:=d.mro;have W:=d.made;have X:=d.sub;have Y:=d.notType;have Z:=d.canCreate;have f5:=F.typeCall_set_1 (.ref l);refine iK (FG ?_);show wpAny _ _ (callAny (.type "set") _) _ _ _;refine aj ⟨ve _ (by decide+kernel),eL F.entry_type_call ?_⟩;rw[Around.under_plain (weight_type_call_type "set" [.ref l] []) rfl];repeat(any_goals (first |assumption|wp_step))
 refine jY (IU (.ref l) (E:=E) (Q₁:=fun obj n=>∃led:Bool,led=(!w.params.followText "set-order")/\obj=.ref s.heap.objs.size/\n={s with heap:=s.heap.push (nX led)}) ⟨_,rfl,rfl,rfl⟩) fun r n f=>?_;rcases r with e|fl;·exact f
 rcases fl with _|_|_|obj;·exact f.elim
 ·exact f.elim
 ·exact f.elim
 obtain⟨led,H,rfl,rfl⟩:=f;rw[<-H]at h;have u:(s.heap.push (nX led)).get? s.heap.objs.size=some (nX led):=ay _ rfl;have x:Shared.TypeIs {s with heap:=s.heap.push (nX led)} (.ref s.heap.objs.size) "set":=⟨_,u,rfl⟩;have f6:=d.init.lookup;have f7:=d.init.bind (.ref s.heap.objs.size);repeat(any_goals (first |assumption|wp_step))
 refine jY (iO (R:=wants (fun r p=>r=.none/\∃h' tk,p={s with heap:=h',toks:=tk}/\P led h'/\
  (∀b o,b<s.heap.objs.size->s.heap.get? b=some o->h'.get? b=some o)) E) d.init.plain F.entry_set_init (check_set_init_1 x ?_)) fun U p g=>?_
 ·obtain⟨O,m,y,k,B⟩:=D;obtain⟨L,M,N,T⟩:=O;obtain rfl:L=.type "list":=y;obtain rfl:N=.seq bi k:=B;have J:(s.heap.push (nX led)).get? l=some {cls:=.type "list",dict:=M,data:=.seq bi k,slots:=T}:=ag _ m;have g1:=F.sub_list_set;have g2:=F.sub_list_frozenset;have g3:(lM "list"==lM "dict")=false:=by decide
  have G:(s.heap.push (nX led)).IsList l bi:=⟨_,J,rfl,k,rfl⟩;unfold Builtin.«set.__init__» noKeywords Builtin.Frozenset.updateFrom;generalize hPI:pyIter=PI
  wp_walk
  subst hPI;refine pM G (af (wpAny_runValue ?_));have a0:l<s.heap.objs.size:=aA m;have K:(s.heap.push (nX led)).objs.size=s.heap.objs.size+1:=bG _ _;refine I led _ fun s' i j=>?_
  ·obtain⟨h',t,q,V,S⟩:=s';obtain rfl:t=s.gens:=i.gens;obtain rfl:q=s.drawn:=i.drawn;obtain rfl:S=s.os:=i.os;show wpAny _ _ _ _ _ _;refine aj ?_;show wpAny _ _ (ret bJ) _ _ _;refine aj ⟨rfl,h',V,rfl,j,fun b o hq e=>i.heap b o (fun z=>?_) (ag _ (ag _ e))⟩;rcases aI.mp z with z|z;·exact aP hq z
   ·exact aP (bK hq) ((aT.mp z).trans K)
 ·rcases U with e|fl2;·exact g
  rcases fl2 with _|_|_|v;·exact g.elim
  ·exact g.elim
  ·exact g.elim
  obtain⟨rfl,h',tk,rfl,j,C⟩:=g;repeat(any_goals (first |assumption|wp_step))
  exact h _ _ j C
def ze{ks:List Key}{Q:Value->Shared->Prop}(p:A.handled=none)(a:s.heap.IsList l bi)(q:ks.length=bi.size)
  (u:∀(i:Nat)(v:Value),bi[i]? =some v->∃k,ks[i]? =some k/\RelV (kV k) v)(m:bi.size+1<gz)
  (h:∀(h':Heap)(tk:Nat),tf (cE prog w) h' s.heap.objs.size (has (met ks)) (met ks).length (!w.params.followText "set-order")->(∀b o,b<s.heap.objs.size->s.heap.get? b=some o->h'.get? b=some o)->Q (.ref s.heap.objs.size) {s with heap:=h',toks:=tk}):
  wpAny (model prog w) A (call (.type "set") [.ref l]) Q E s:=by
 have c:l<s.heap.objs.size:=let⟨_,e,_⟩:=a;aA e;refine HP (P:=fun led h=>tf (cE prog w) h s.heap.objs.size (has (met ks)) (met ks).length led) a (fun led R g=>?_) h;have f:A.in1.in1.in1.handled=none:=by simp[p]
 have d:(s.heap.push (nX led)).objs.size=s.heap.objs.size+1:=bG _ _;have r:l≠(s.heap.push (nX led)).objs.size:=by rw[d];exact aP (bK c)
 have t:s.heap.objs.size∉[(s.heap.push (nX led)).objs.size,l]:=by
  rw[d];intro z;rcases aI.mp z with z|z;·exact aP (eh _) z
  ·exact eN c (aT.mp z)
 have j:(s.heap.push (nX led)).get? s.heap.objs.size=some (nX led):=ay _ rfl;refine zd (led:=led) ((Walks.list f _ l r bi).toS) s.heap.objs.size t ks q u m (bi.size-0) 0 _ (by lia) (aV _) ⟨⟨_,ay _ rfl,rfl,rfl⟩,(a.push _).push _⟩ ?_ g;exact⟨nX led,#[],0,_,ag _ j,⟨rfl,rfl,rfl⟩,rfl,fun e n=>by simp at n,fun k=>by simp[met,has],by decide,by rfl,rfl,⟨kg,rfl⟩,rfl⟩
end
def IX(m:X.calm=true):fV X (.type "set") (rSet X.K):=by intro M s P H O N Q I r h;obtain⟨p,ks,rfl,hq,K,q⟩:=h;obtain⟨u,rfl,C⟩:=vals1 r;cases C;obtain⟨L,g,A,_⟩:=I.list hq;have f:=g.length;rw[ai]at f;refine ze (ks:=ks) (I.ok.hd m) A.isList (by rw[aD];exact f) (fun i v e=>A5 g i v (by simpa using e)) (by rw[aD,<-f];unfold gz;lia) fun D tk j y=>?_;refine⟨.ref s.heap.objs.size,_,I.laid (t':=tk) (fun b o e=>y b o (aA e) e) (aw _) (show dO X.prog X.w _ _ _ (Ex _ (met ks).length)from ?_),rfl,q _ (I.hok.fresh (aw _))⟩;obtain⟨o,d,c,t,a,w,n,G,J,l,hf,x⟩:=j.of;refine⟨⟨o,d,c,t,a,w,n,l,hf,x⟩,⟨o,a⟩,fun E F z k=>?_⟩;obtain⟨o,d,c,t,a,B⟩:=z;exact⟨o,d,c,t,k o a,B⟩
end Q
set_option maxHeartbeats 1000000
namespace Q
open PySem
theorem qZ{c:Type}:∀{l:List c}{i:Nat}(h:i<l.length),(l[i]::l.eraseIdx i).Perm l
 |a::l,0,_=>d7 _
 |a::l,i+1,h=>by
  have hi:i<l.length:=by simpa using h
  have b:=qZ hi;show(l[i]::a::l.eraseIdx i).Perm (a::l);exact(ym _ _ _).trans (b.cons a)
theorem Gg{b:Type}(next :Nat->Nat):∀(fuel k:Nat)(left:List b)(out:Array b),left.length<=fuel->(BF next fuel k left out).toList.Perm (out.toList++left)
 | 0,k,left,out,h=>by have e:left=[]:=aY.mp (by lia);subst e;simp[BF]
 |fuel+1,k,left,out,h=>by
  unfold BF;cases left with
  |nil=>simp
  |cons a l=>
   have hi:next k%(a::l).length<(a::l).length:=DU _ (by simp)
   rw[ae hi];dsimp only;refine(Gg next fuel (k+1) _ _ (by rw[lO hi];simp at h⊢;lia)).trans ?_;rw[Array.toList_push,nr];exact List.Perm.append_left _ (qZ hi)
def pD{a:Type}(next :Nat->Nat)(xs:Array a):(jB next xs).toList.Perm xs.toList:=by unfold jB;exact(Gg next xs.size 0 xs.toList #[] (by simp)).trans (by simp)
section
variable {M:Model}{E:Value->Shared->Prop}
def yw{a:Source}{Q:Nat->Shared->Prop}(h:n≠0)(q:∀i d,i<n->Q i {s with drawn:=d}):wpAny M A (choose a n) Q E s:=fun c p b=>by unfold choose;rw[Sem.wp_choose];exact⟨h,q _ _ (DU _ (Nat.pos_of_ne_zero h))⟩
theorem zF{b:Type}:∀(n:Nat)(xs:List b)(s:Shared)(Q:List b->Shared->Prop),xs.length<=n->(∀ys d,ys.Perm xs->Q ys {s with drawn:=d})->wpAny M A (drawOrder n xs) Q E s
 | 0,xs,s,Q,h,q=>by have e:xs=[]:=aY.mp (by lia);subst e;unfold drawOrder;exact aj (q [] s.drawn (d7 _))
 |n+1,[],s,Q,h,q=>by unfold drawOrder;exact aj (q [] s.drawn (d7 _))
 |n+1,a::l,s,Q,h,q=>by unfold drawOrder;refine af (yw (by simp) fun i d hi=>?_);rw[ae hi];dsimp only;refine af (zF n _ _ _ (by rw[lO hi];simp at h⊢;lia) fun ys c f=>aj ?_);exact q _ c ((f.cons _).trans (qZ hi))
end
end Q
set_option maxHeartbeats 3200000
namespace Q
open PySem PySem.Spec PySem.W PyProof.Rows L2
def fL:Slot "set_iterator" "__next__" "set_iterator.__next__":=
 .of (owner:="set_iterator") (n:="__next__") (by rw[typeLookup_type,builtinLookup_eq_fast];kernel_rfl) (by decide+kernel) (by decide+kernel) (by decide+kernel) (by first |exact .inl (by decide+kernel) |exact .inr (by decide+kernel)) (by rw[Js];kernel_rfl)
def ql:Ju table "set_iterator.__next__"=some Builtin.«set_iterator.__next__»:=entryFor_of_tree (by kernel_rfl)
def sX(a:Value):argsOk "set_iterator.__next__" ⟨[a],[]⟩:=by unfold argsOk;kernel_rfl
def vm:Ju table "set.__iter__"=some Builtin.«frozenset.__iter__»:=entryFor_alias (id':="frozenset.__iter__") (by kernel_rfl) rfl (by decide+kernel) (by kernel_rfl)
noncomputable abbrev siO(S:Addr)(first :Value)(i n ep:Nat):Obj:={cls:=.type "set_iterator",dict:=none,data:=.fields #[first,.int i 0,.ref S,.int n 0,.int ep 0],slots:= #[]}
section
variable {E:Value->Shared->Prop}{s:Shared}
abbrev jm(es:Array (Int×Value))(t:bF):Bool:= !t.plain&&es.size>1
def rK{o:Obj}{t:bF}{Q:Bool->Shared->Prop}(c:s.heap.get? a=some o)(b:o.data=.set es ep t)(hf:t.fits es.size=true)(h:Q (!w.params.followText "set-order"&&jm es t) s):
  wpAny (model prog w) A (setDrawn a) Q E s:=by
 unfold setDrawn Jq;refine af (iy c b hf ?_);dsimp only;refine af (af (iY (aj (aj ?_))));exact h
def LW{o:Obj}{t:bF}{Q:Value->Shared->Prop}(b:s.heap.get? S=some o)(g:o.cls=.type "set")(a:o.data=.set es ep t)(hf:t.fits es.size=true)(k:es.size<gz)
  (e:(!w.params.followText "set-order"&&jm es t)=false->Q (.ref s.heap.objs.size) {s with heap:=s.heap.push (siO S (.int 0 0) 0 es.size ep)})
  (f:(!w.params.followText "set-order"&&jm es t)=true->∀(ps:List Nat)(d:Drawn),ps.Perm (aH es.size)->Q (.ref (s.heap.objs.size+1)) {s with drawn:=d,heap:=(s.heap.push {cls:=.type "tuple",data:=.seq (ps.map fun(i:Nat)=>rawInt i).toArray}).push (siO S (.ref s.heap.objs.size) 0 es.size ep)}):
  wpAny (model prog w) A (pyIter (.ref S)) Q E s:=by
 have c:s.TypeIs (.ref S) "set":=⟨o,b,g⟩;refine wpAny_pyIter_slot c F.slot_set_iter (cS F.slot_set_iter c vm ?_ (F.args_set_iter_1 _));unfold Builtin.«frozenset.__iter__» Builtin.Frozenset.slot0 Builtin.Frozenset.sizeOf
 wp_walk
 have h:(t.place.size != es.size||decide (t.fill>t.mask))=false:=by simp only[bF.fits,aF,beq_iff_eq,decide_eq_true_eq]at hf;simp[hf.1,Nat.not_lt.mpr hf.2]
 rw[a];dsimp only;rw[if_neg (by rw[h];decide)];refine aj (aj (aj ?_));refine af (rK b a hf ?_);dsimp only;cases hb:(!w.params.followText "set-order"&&jm es t)with
 |false=>rw[if_neg (by decide)];refine af (aj (af (wpAny_setEpoch_of b a hf ?_)));refine af (cg (aj ⟨_,rfl,"set_iterator",_,⟨_,ay _ rfl,rfl⟩,fL.lookup,e hb⟩))
 |true=>rw[if_pos rfl];refine af (zF _ _ _ _ (by simp) fun ps d hp=>?_);refine af (cg ?_ (by show(ps.map fun(i:Nat)=>rawInt i).toArray.size<=sizeLine;rw[aD,ai,hp.length_eq,aR];exact pQ k));have j:(s.heap.push {cls:=.type "tuple",data:=.seq (ps.map fun(i:Nat)=>rawInt i).toArray}).get? S=some o:=ag _ b;refine af (wpAny_setEpoch_of (s:={s with drawn:=d,heap:=s.heap.push {cls:=.type "tuple",data:=.seq (ps.map fun(i:Nat)=>rawInt i).toArray}}) j a hf ?_);have l:(s.heap.push {cls:=.type "tuple",data:=.seq (ps.map fun(i:Nat)=>rawInt i).toArray}).objs.size=s.heap.objs.size+1:=bG ..;refine af (cg (aj ⟨_,rfl,"set_iterator",_,⟨_,ay _ rfl,rfl⟩,fL.lookup,?_⟩));have :=f hb ps d hp;rw[<-l]at this;exact this
end
section
variable {E:Value->Shared->Prop}{s:Shared}
structure ly(h:Heap)(S:Addr)(es:Array (Int×Value))(ep:Nat)(t:bF):Prop where
 ob:∃o,h.get? S=some o/\o.cls=.type "set"/\o.data=.set es ep t
 fit:t.fits es.size=true
def j8{first :Value}{t:bF}{Q:dI->Shared->Prop}(hi:s.heap.get? I=some (siO S first i es.size ep))(c:ly s.heap S es ep t)
  (h:wpAny (model prog w) A (match first with
   |.int slot _=>do
    match<-setNext S slot.toNat i ep with
    |some (x,next)=>do
     vq (.ref I) 0 (rawInt next)
     vq (.ref I) 1 (rawInt ((i:Int)+1))
     ret x
    |none=>do
     vq (.ref I) 2 .none
     Jr (<-newExc (.type "StopIteration") [])
   |_=>do
    let some places<-vV first |unsupported "internal:set_iterator"
    match places[i]? with
    |some (.int place _)=>do
     let x<-setNextDrawn S place.toNat ep
     vq (.ref I) 1 (rawInt ((i:Int)+1))
     ret x
    |some _=>unsupported "internal:set_iterator"
    |none=>do
     vq (.ref I) 0 (rawInt 0)
     vq (.ref I) 2 .none
     Jr (<-newExc (.type "StopIteration") [])) Q E s):
  wpAny (model prog w) A (Builtin.«set_iterator.__next__» ⟨[.ref I],[]⟩) Q E s:=by
 obtain⟨⟨o,b,d,a⟩,hf⟩:=c;unfold Builtin.«set_iterator.__next__»;show wpAny _ _ (fieldsOf (.ref I)>>=_) _ _ _;refine af (wpAny_fieldsOf hi rfl ?_);dsimp only;refine af (wpAny_setEntries_of b a hf ?_);rw[if_neg (by simp)];exact h
def nxA{t:bF}{o:Obj}{Q:Option (Value×Nat)->Shared->Prop}(c:w.params.followText "set-order"=true)(b:s.heap.get? S=some o)(a:o.data=.set es ep t)(hf:t.fits es.size=true)
  (q:Q ((jB (w.params.setOrder S ep) es)[i]?.map fun e=>(e.2,k)) s):wpAny (model prog w) A (setNext S k i ep) Q E s:=by
 unfold setNext Jq;refine af (iy b a hf ?_);dsimp only;refine af (af (iY (aj ?_)));dsimp only;rw[show(model prog w).w.params.followText "set-order"=true from c];simp only[if_true,bne_self_eq_false,aZ,if_false];refine af ?_;unfold setWalk Jq;refine af (iy b a hf ?_);dsimp only;refine af (af (iY (aj ?_)));dsimp only;rw[show(model prog w).w.params.followText "set-order"=true from c];simp only[if_true];exact af (iY (aj (aj q)))
def nxB{t:bF}{o:Obj}{Q:Option (Value×Nat)->Shared->Prop}(h:w.params.followText "set-order"=false)(e:jm es t=false)(f:t.led=true)(g:s.heap.get? S=some o)(d:o.data=.set es ep t)(hf:t.fits es.size=true)(b:cC t.place k=i)
  (l:∀x j,es[i]? =some x->t.place[i]? =some j->Q (some (x.2,j+1)) s)(m:es[i]? =none->Q none s):wpAny (model prog w) A (setNext S k n ep) Q E s:=by
 unfold setNext Jq;refine af (iy g d hf ?_);dsimp only;refine af (af (iY (aj ?_)));dsimp only;rw[show(model prog w).w.params.followText "set-order"=false from h];simp only[aZ,if_false];rw[if_neg (fun z=>by have c:jm es t=true:=z;rw[e]at c;cases c)];refine af (show wpAny _ _ (if(!t.led&& !es.isEmpty)=true then unsupported "set:maker-not-led" else pure ()) _ _ _ from ?_);rw[if_neg (by rw[f];simp)];refine aj (aj ?_);cases hx:es[i]? with
 |none=>simp only[b,hx];exact m hx
 |some x=>
  have q:t.place.size=es.size:=by simp only[bF.fits,aF,beq_iff_eq]at hf;exact hf.1
  have p:i<es.size:=(cH.mp hx).1;have a:t.place[i]? =some (t.place[i]'(by lia)):=by simp[show i<t.place.size by lia]
  simp only[b,hx,a];exact l x _ hx a
def nextA{t:bF}{x:Int×Value}{Q:dI->Shared->Prop}(j:w.params.followText "set-order"=true)(hi:s.heap.get? I=some (siO S (.int k 0) i es.size ep))(d:ly s.heap S es ep t)
  (l:(jB (w.params.setOrder S ep) es)[i]? =some x)(h:∀h',h'.get? I=some (siO S (.int k 0) (i+1) es.size ep)->dq I s.heap h'->Q (.done (.ret x.2)) {s with heap:=h'}):
  wpAny (model prog w) A (Builtin.«set_iterator.__next__» ⟨[.ref I],[]⟩) Q E s:=by
 refine j8 hi d ?_;obtain⟨⟨o,g,p,f⟩,hf⟩:=d;refine af (nxA j g f hf ?_);rw[l,kc];dsimp only;refine af (dF hi (by simp) fun e a m=>?_);have a:e.get? I=some (siO S (.int k 0) i es.size ep):=a;refine af (dF a (by simp) fun c b n=>?_);have b:c.get? I=some (siO S (.int k 0) (i+1) es.size ep):=b;exact aj (h c b (m.trans n))
def nextB{t:bF}{x:Int×Value}{Q:dI->Shared->Prop}(u:w.params.followText "set-order"=false)(n:jm es t=false)(q:t.led=true)(hi:s.heap.get? I=some (siO S (.int k 0) i es.size ep))(e:ly s.heap S es ep t)
  (p:cC t.place k=i)(f:es[i]? =some x)(h:∀h' j,t.place[i]? =some j->h'.get? I=some (siO S (.int (j+1:Nat) 0) (i+1) es.size ep)->dq I s.heap h'->Q (.done (.ret x.2)) {s with heap:=h'}):
  wpAny (model prog w) A (Builtin.«set_iterator.__next__» ⟨[.ref I],[]⟩) Q E s:=by
 refine j8 hi e ?_;obtain⟨⟨o,r,C,m⟩,hf⟩:=e;refine af (nxB u n q r m hf p (fun y j c g=>?_) fun z=>by rw[f]at z;cases z);rw[f]at c;cases c;dsimp only;refine af (dF hi (by simp) fun l a v=>?_);have a:l.get? I=some (siO S (.int (j+1:Nat) 0) i es.size ep):=a;refine af (dF a (by simp) fun d b B=>?_);have b:d.get? I=some (siO S (.int (j+1:Nat) 0) (i+1) es.size ep):=b;exact aj (h d _ g b (v.trans B))
def nextC{tk:Tok}{t:bF}{ps:Array Value}{d:Obj}{x:Int×Value}{Q:dI->Shared->Prop}(hi:s.heap.get? I=some (siO S (.ref T) i es.size ep))(c:ly s.heap S es ep t)
  (e:s.heap.get? T=some d)(f:d.data=.seq ps m)(hp:ps[i]? =some (.int p tk))(k:es[p]? =some x)(h:∀h',h'.get? I=some (siO S (.ref T) (i+1) es.size ep)->dq I s.heap h'->Q (.done (.ret x.2)) {s with heap:=h'}):
  wpAny (model prog w) A (Builtin.«set_iterator.__next__» ⟨[.ref I],[]⟩) Q E s:=by
 refine j8 hi c ?_;obtain⟨⟨o,j,n,g⟩,hf⟩:=c;dsimp only;refine af (iH e f ?_);simp only[hp,aN];refine af ?_;unfold setNextDrawn;refine af (iy j g hf ?_);simp only[bne_self_eq_false,aZ,if_false,k];refine aj ?_;refine af (dF hi (by simp) fun b a l=>?_);have a:b.get? I=some (siO S (.ref T) (i+1) es.size ep):=a;exact aj (h b a l)
end
section
variable {E:Value->Shared->Prop}{s:Shared}
def qQ{d:Type}{Q:d->Shared->Prop}(b:A.handled=none)(h:∀h' e,(∀c o,s.heap.get? c=some o->h'.get? c=some o)->(∃o,h'.get? e=some o/\o.cls=.type "StopIteration")->E (.ref e) {s with heap:=h'}):
  wpAny (model prog w) A (newExc (.type "StopIteration") []>>=fun x=>Jr x) Q E s:=by
 refine af ?_;simp only[newExc,newTuple];refine af (cg ?_ (by size_fits));refine af (m:=vy _ _) (pN (a:=bJ) (by first |rfl| (simp only[vy];rfl)) ?_);refine cg ?_ (by size_fits);simp only[Jr];refine af (wpAny_handled ?_);rw[b];refine af (aj (wpAny_throw ?_));exact h _ _ (fun c o e=>ag _ (ag _ e)) ⟨_,ay _ rfl,rfl⟩
def Ends(E:Value->Shared->Prop)(I:Addr)(s:Shared):Prop:=∀h' e,(∀c o,c≠I->s.heap.get? c=some o->h'.get? c=some o)->(∃o,h'.get? e=some o/\o.cls=.type "StopIteration")->E (.ref e) {s with heap:=h'}
def endA{t:bF}{Q:dI->Shared->Prop}(j:A.handled=none)(m:w.params.followText "set-order"=true)(hi:s.heap.get? I=some (siO S (.int k 0) es.size es.size ep))(a:ly s.heap S es ep t)(h:Ends E I s):
  wpAny (model prog w) A (Builtin.«set_iterator.__next__» ⟨[.ref I],[]⟩) Q E s:=by
 have n:(jB (w.params.setOrder S ep) es)[es.size]? =none:=by have :=(pD (w.params.setOrder S ep) es).length_eq;simp at this⊢;lia
 refine j8 hi a ?_;obtain⟨⟨o,l,v,g⟩,hf⟩:=a;refine af (nxA m l g hf ?_);rw[n,Option.map_none];dsimp only;refine af (dF hi (by simp) fun f u r=>?_);exact qQ (s:={s with heap:=f}) j fun d e p i=>h d e (fun c o b q=>p c o (r.extBut c o b q)) i
def endB{t:bF}{Q:dI->Shared->Prop}(n:A.handled=none)(v:w.params.followText "set-order"=false)(l:jm es t=false)(r:t.led=true)(hi:s.heap.get? I=some (siO S (.int k 0) es.size es.size ep))(a:ly s.heap S es ep t)
  (p:cC t.place k=es.size)(h:Ends E I s):wpAny (model prog w) A (Builtin.«set_iterator.__next__» ⟨[.ref I],[]⟩) Q E s:=by
 refine j8 hi a ?_;obtain⟨⟨o,u,D,i⟩,hf⟩:=a;refine af (nxB v l r u i hf p (fun y j d C=>by simp at d) fun _=>?_);dsimp only;refine af (dF hi (by simp) fun g B z=>?_);exact qQ (s:={s with heap:=g}) n fun f e x m=>h f e (fun c o b q=>x c o (z.extBut c o b q)) m
def endC{t:bF}{ps:Array Value}{d:Obj}{Q:dI->Shared->Prop}(n:A.handled=none)(hi:s.heap.get? I=some (siO S (.ref T) es.size es.size ep))(r:ly s.heap S es ep t)(j:s.heap.get? T=some d)(k:d.data=.seq ps m)(hp:ps.size=es.size)(h:Ends E I s):
  wpAny (model prog w) A (Builtin.«set_iterator.__next__» ⟨[.ref I],[]⟩) Q E s:=by
 refine j8 hi r ?_;dsimp only;refine af (iH j k ?_);have p:ps[es.size]? =none:=by simp;lia
 simp only[p];refine af (dF hi (by simp) fun g a v=>?_);have a:g.get? I=some (siO S (.int 0 0) es.size es.size ep):=a;refine af (dF a (by simp) fun i y x=>?_);exact qQ (s:={s with heap:=i}) n fun f e u l=>h f e (fun c o b q=>u c o (x.extBut c o b (v.extBut c o b q))) l
end
def rP:Slot "set_iterator" "__iter__" "set_iterator.__iter__":=
 .of (owner:="set_iterator") (n:="__iter__") (by rw[typeLookup_type,builtinLookup_eq_fast];kernel_rfl) (by decide+kernel) (by decide+kernel) (by decide+kernel) (by first |exact .inl (by decide+kernel) |exact .inr (by decide+kernel)) (by rw[Js];kernel_rfl)
def yH:Ju table "set_iterator.__iter__"=some Builtin.«dict_keyiterator.__iter__»:=
 entryFor_alias (id':="dict_keyiterator.__iter__") (by kernel_rfl) (by first |rfl|decide+kernel) (by decide+kernel) (by kernel_rfl)
def BA(a:Value):argsOk "set_iterator.__iter__" ⟨[a],[]⟩:=by unfold argsOk;kernel_rfl
section
variable {E:Value->Shared->Prop}{s:Shared}
def Au{Q:Option Value->Shared->Prop}(b:s.TypeIs (.ref I) "set_iterator")(h:∀(a:dI->Shared->Prop)(c:Value->Shared->Prop),(∀v h',Q (some v) {s with heap:=h'}->a (.done (.ret v)) {s with heap:=h'})->wpAny (model prog w) A.in1 (Builtin.«set_iterator.__next__» ⟨[.ref I],[]⟩) a c s):
  wpAny (model prog w) A (pyNext (.ref I)) Q E s:=by
 unfold pyNext;exact af (jg (eK (name:=bu "__next__") b fL (cS fL b ql (h _ _ fun v h' q=>⟨_,rfl,aj q⟩) (sX _))))
def Av{Q:Option Value->Shared->Prop}(d:s.TypeIs (.ref I) "set_iterator")(h:∀(f:dI->Shared->Prop)(a:Value->Shared->Prop),(∀h' e,(∀c o,c≠I->s.heap.get? c=some o->h'.get? c=some o)->(∃o,h'.get? e=some o/\o.cls=.type "StopIteration")->a (.ref e) {s with heap:=h'})->wpAny (model prog w) A.in1 (Builtin.«set_iterator.__next__» ⟨[.ref I],[]⟩) f a s)
  (q:∀h',(∀c o,c≠I->s.heap.get? c=some o->h'.get? c=some o)->Q none {s with heap:=h'}):wpAny (model prog w) A (pyNext (.ref I)) Q E s:=by
 unfold pyNext;refine af (jg (eK (name:=bu "__next__") d fL (cS fL d ql (h _ _ fun h' e k j=>?_) (sX _))));obtain⟨o,g,i⟩:=j;exact af (rm (T:="StopIteration") (b:=true) ⟨o,g,i⟩ isSubtype_stop (aj (q _ k)))
def As{Q:Value->Shared->Prop}(a:s.TypeIs (.ref I) "set_iterator")(h:Q (.ref I) s):wpAny (model prog w) A (pyIter (.ref I)) Q E s:=by refine wpAny_pyIter_slot a rP (cS rP a yH ?_ (BA _));show wpAny _ _ (ret (.ref I)) _ _ s;exact aj ⟨_,rfl,"set_iterator",_,a,fL.lookup,h⟩
end
def ly.at{t:bF}(x:ly h S es ep t)(k:∀o,h.get? S=some o->h'.get? S=some o):ly h' S es ep t:=let⟨⟨o,a,b,c⟩,f⟩:=x;⟨⟨o,k o a,b,c⟩,f⟩
def walkA(y:A.handled=none)(l:w.params.followText "set-order"=true)(ne:S≠I)(a:Array (Int×Value))(c:Nat)(t:bF):
  Walks prog w A I [I,S] [I] a.size (fun i v=>((jB (w.params.setOrder S c) a).toList.map (·.2))[i]? =some v) (fun i h=>ly h S a c t/\∃k:Nat,h.get? I=some (siO S (.int k 0) i a.size c)) where
 sub:=fun b d=>by simp at d⊢;exact .inl d
 frame:=fun i h f ⟨x,k,e⟩ g=>⟨x.at fun o q=>g S (by simp) o q,k,g I (by simp) _ e⟩
 item:=fun i s Q E hi ⟨x,k,e⟩ j=>by
  have B:=(pD (w.params.setOrder S c) a).length_eq;simp only[cD]at B;have m:(jB (w.params.setOrder S c) a)[i]? =some ((jB (w.params.setOrder S c) a)[i]'(by lia)):=by simp[show i<(jB (w.params.setOrder S c) a).size by lia]
  refine Au ⟨_,e,rfl⟩ fun r p q=>nextA l e x m fun f u n=>q _ f ?_;exact j _ f s.toks (by simp[m]) ⟨x.at fun o z=>n.extBut S o ne z,k,u⟩ fun b o d z=>n.extBut b o (by simpa using d) z
 done:=fun s Q E ⟨x,k,e⟩ j=>Av ⟨_,e,rfl⟩ (fun r p q=>endA (by simp[y]) l e x q) fun f g=>j f s.toks fun b o d z=>g b o (by simpa using d) z
 self:=fun i s Q E ⟨x,k,e⟩ q=>As ⟨_,e,rfl⟩ q
def walkB(G:A.handled=none)(r:w.params.followText "set-order"=false)(ne:S≠I)(a:Array (Int×Value))(m:Nat)(t:bF)(n:jm a t=false)(p:t.led=true)(F:kR t):
  Walks prog w A I [I,S] [I] a.size (fun i v=>(a.toList.map (·.2))[i]? =some v) (fun i h=>ly h S a m t/\∃k:Nat,cC t.place k=i/\h.get? I=some (siO S (.int k 0) i a.size m)) where
 sub:=fun b c=>by simp at c⊢;exact .inl c
 frame:=fun i h f ⟨x,k,d,e⟩ g=>⟨x.at fun o q=>g S (by simp) o q,k,d,g I (by simp) _ e⟩
 item:=fun i s Q E hi ⟨x,k,d,e⟩ l=>by
  have u:a[i]? =some a[i]:=by simp[hi]
  refine Au ⟨_,e,rfl⟩ fun C B q=>nextB r n p e x d u fun f j H D y=>q _ f ?_;exact l _ f s.toks (by simp[u]) ⟨x.at fun o z=>y.extBut S o ne z,j+1,Fv F.up H,D⟩ fun b o c z=>y.extBut b o (by simpa using c) z
 done:=fun s Q E ⟨x,k,d,e⟩ l=>Av ⟨_,e,rfl⟩ (fun C B q=>endB (by simp[G]) r n p e x d q) fun f g=>l f s.toks fun b o c z=>g b o (by simpa using c) z
 self:=fun i s Q E ⟨x,k,d,e⟩ q=>As ⟨_,e,rfl⟩ q
def walkC(B:A.handled=none)(ne:S≠I)(D:T≠I)(a:Array (Int×Value))(l:Nat)(t:bF)(ps:List Nat)(hp:ps.Perm (aH a.size)):
  Walks prog w A I [I,S,T] [I] a.size (fun i v=>(ps.map fun p=>(a.getD p (0,.none)).2)[i]? =some v) (fun i h=>ly h S a l t/\h.get? T=some {cls:=.type "tuple",data:=.seq (ps.map fun(i:Nat)=>rawInt i).toArray}/\h.get? I=some (siO S (.ref T) i a.size l)) where
 sub:=fun b c=>by simp at c⊢;exact .inl c
 frame:=fun i h d ⟨x,z,e⟩ f=>⟨x.at fun o q=>f S (by simp) o q,f T (by simp) _ z,f I (by simp) _ e⟩
 item:=fun i s Q E hi ⟨x,z,e⟩ g=>by
  have F:ps.length=a.size:=by rw[hp.length_eq,aR]
  have j:i<ps.length:=by lia
  have m:ps[i]<a.size:=aW.mp (hp.mem_iff.mp (a9 j));have C:a[ps[i]]? =some a[ps[i]]:=by simp[m]
  refine Au ⟨_,e,rfl⟩ fun r n q=>nextC (p:=ps[i]) (tk:=0) e x z rfl (by simp[j,rawInt]) C fun d u k=>q _ d ?_;exact g _ d s.toks (by simp[j,m,Nl]) ⟨x.at fun o y=>k.extBut S o ne y,k.extBut T _ D z,u⟩ fun b o c y=>k.extBut b o (by simpa using c) y
 done:=fun s Q E ⟨x,z,e⟩ g=>Av ⟨_,e,rfl⟩ (fun r n q=>endC (by simp[B]) e x z rfl (by simp[hp.length_eq]) q) fun d f=>g d s.toks fun b o c y=>f b o (by simpa using c) y
 self:=fun i s Q E ⟨x,z,e⟩ q=>As ⟨_,e,rfl⟩ q
end Q
namespace Q
open PySem PySem.Spec PySem.W PyProof.Rows L2
section
variable {E:Value->Shared->Prop}{s:Shared}
def ite_yes{a:Type}{M:Model}{b:Bool}{x y:Sem a}{Q:a->Shared->Prop}(c:b=true)(h:wpAny M A x Q E s):wpAny M A (if b=true then x else y) Q E s:=by rw[if_pos c];exact h
def C6{Q:Bool->Shared->Prop}(a:s.TypeIs (.ref S) "set")(h:Q false s):wpAny (model prog w) A (uA (.ref S)) Q E s:=by
 unfold uA;refine af (wpAny_specialOf a F.slot_set_len.lookup ?_);generalize hid:("set.__len__":String)=id0
 (fail_if_success (clear hid id0))
 wp_delta
 rw[show splitId id0=some ("set","__len__")from by subst hid;decide+kernel];subst hid;refine af (rm (b:=true) a (by rw[Js];kernel_rfl) ?_);rw[if_neg (by decide)];refine ite_yes (by decide+kernel) (af (BE a ?_));exact aj h
noncomputable abbrev jE(ac:Array Value)(c:Nat):Obj:={cls:=.type "list",dict:=none,data:=.seq ac c,slots:= #[]}
def touch{c:Nat}{Q:Unit->Shared->Prop}(f:s.heap.get? L=some (jE ac c))(hz:ac.size<=5000)(h:∀h' c',h'.get? L=some (jE ac c')->dq L s.heap h'->Q () {s with heap:=h'}):wpAny (model prog w) A (lQ (.ref L)) Q E s:=by have g:ac.size<=sizeLine:=aL hz (by decide);unfold lQ;refine af (fX f rfl ?_ g (by simp;lia));have a:∃e,(s.heap.update L (bf fun x=>x.push bJ)).get? L=some (jE (ac.push .none) e):=⟨_,by rw[ck _ f rfl];rfl⟩;obtain⟨e,a⟩:=a;refine fX (s:={s with heap:=s.heap.update L (bf fun x=>x.push bJ)}) a rfl ?_ (by simp;exact aL (by lia:ac.size+1<=5001) (by decide)) (by simp;lia);have d:∃b,((s.heap.update L (bf fun x=>x.push bJ)).update L (bf fun x=>x.pop)).get? L=some (jE ac b):=⟨_,by rw[ck _ a rfl];simp[bf];rfl⟩;obtain⟨b,d⟩:=d;exact h _ b d ((bQ ..).trans (bQ ..))
def xr{k:List Addr}{P:Nat->Value->Prop}{St:Nat->Heap->Prop}{i:Value}{c:Nat}{R:Result->Shared->Prop}(hq:∀c' s',c'.quiet=true/\gR (model prog w) A c' R s'->Qf (.again c') s')(W:Walks prog w A.in1 I fp k n P St)(u:n<=sizeLine)(g:L∉fp)(q:s.heap.get? L=some (jE #[] c))(st:St 0 s.heap)
  (h:∀s' ac c',(∀b o,b∉L::k->s.heap.get? b=some o->s'.heap.get? b=some o)->s'.gens=s.gens->s'.drawn=s.drawn->s'.os=s.os->s'.heap.get? L=some (jE ac c')->ItemsOf P ac n->R (.ok (.ret i)) s'):
  wpAny (model prog w) A.in1 (do
   rule "list.extend.makes-room"
   let f<-lQ (.ref L)
   (fun(f:Unit)=>again (Code.builtin "list.extend.loop" {pos:=[bE L,bE I,i]})) f) Qf E s:=by
 refine af (iI (af (touch q (by simp) fun p x m j=>?_)));have v:=W.frame 0 s.heap p st fun b a o e=>j.extBut b o (fun z=>g (z▸a)) e;refine aj (hq _ _ ⟨fW F.plain_extend_loop _,codeAny_extend_loopS W.toS u _ g _ n 0 _ _ _ rfl (aV _) v m (ItemsOf.nil P) fun s' l c' d r t=>?_⟩);exact h s' l c' (fun b o a e=>d.heap b o a (j.extBut b o (fun z=>a (by rw[z];exact aM)) e)) d.gens d.drawn d.os r t
end
def E2(h:ItemsOf (fun i v=>vs[i]? =some v) ac vs.length):ac.toList=vs:=by
 obtain⟨c,d⟩:=h;apply bR;·simpa using c
 ·intro i a b;have :vs[i]? =some ac[i]:=d i ac[i] (by simp);rw[ae b]at this;simpa using(bo this).symm
def es_map(c:Array (Int×Value)):((aH c.size).map fun p=>(c.getD p (0,.none)).2)=c.toList.map (·.2):=by
 apply bR;·simp
 ·intro i a b;have hi:i<c.size:=by simpa using a
  simp[hi,Nl]
section
variable {E:Value->Shared->Prop}{s:Shared}
def Du{o:Obj}{t:bF}{Q:List Value->Shared->Prop}(H:A.handled=none)(M:s.heap.get? S=some o)(n:o.cls=.type "set")(G:o.data=.set es ep t)(hf:t.fits es.size=true)(O:es.size<gz)(L:kR t)(X:w.params.followText "set-order"=false->t.led=true)
  (T:∀(vs:List Value) s',vs.Perm (es.toList.map (·.2))->(∀b o,s.heap.get? b=some o->s'.heap.get? b=some o)->s'.gens=s.gens->s'.os=s.os->s.heap.objs.size<s'.heap.objs.size->Q vs s'):wpAny (model prog w) A (collect (.ref S)) Q E s:=by
 have m:S<s.heap.objs.size:=aA M;have J:es.size<=sizeLine:=pQ O;unfold collect;refine af (wpAny_runValue (eL F.entry_proto_collect ?_));rw[dv F.plain_proto_collect _];show wpAny _ A.in1 (newList []>>=fun a0=>again (.builtin "list.__iadd__" ⟨[a0,.ref S],[]⟩)) _ _ s;refine af (cg ?_);refine aj ⟨fW F.plain_list_iadd _,eL F.entry_list_iadd ?_⟩;rw[dv F.plain_list_iadd _];have D:(s.heap.push (jE #[] 0)).get? s.heap.objs.size=some (jE #[] 0):=ay _ rfl;have u:(s.heap.push (jE #[] 0)).get? S=some o:=ag _ M;have v:(s.heap.push (jE #[] 0)).objs.size=s.heap.objs.size+1:=bG ..;have U:Shared.TypeIs {s with heap:=s.heap.push (jE #[] 0)} (.ref S) "set":=⟨o,u,n⟩;show wpAny _ A.in1 (uB (.ref s.heap.objs.size) (.ref S) (.ref s.heap.objs.size)) _ _ {s with heap:=s.heap.push (jE #[] 0)};unfold uB;refine af (BE U ?_);rw[if_neg (by simp[Builtin.List.listSameRef];exact eN m)];have C:∀(vs:List Value)(s':Shared)(c:Array Value)(a:Nat),vs.length=es.size->vs.Perm (es.toList.map (·.2))->(∀b o,s.heap.get? b=some o->s'.heap.get? b=some o)->s'.gens=s.gens->s'.os=s.os->s'.heap.get? s.heap.objs.size=some (jE c a)->ItemsOf (fun i a2=>vs[i]? =some a2) c es.size->
   wpAny (model prog w) A (load s.heap.objs.size>>=fun a3=>match a3.data with |.seq xs _=>pure xs.toList|_=>unsupported "internal:collect") Q E s':=fun vs s' c a r hp j l z e g=>by
  refine af (wpAny_load e ?_);rw[<-r]at g;have :=E2 g;exact aj (by rw[this];exact T vs s' hp j l z (aA e))
 refine af (LW u n G hf O (fun I=>?_) fun I f d hp=>?_)
 ·rw[v];refine af (bY (C6 ⟨o,ag _ u,n⟩ ?_));refine ite_yes (by decide+kernel) ?_;have y:((s.heap.push (jE #[] 0)).push (siO S (.int 0 0) 0 es.size ep)).get? (s.heap.objs.size+1)=some (siO S (.int 0 0) 0 es.size ep):=by rw[<-v];exact ay _ rfl
  have K:ly ((s.heap.push (jE #[] 0)).push (siO S (.int 0 0) 0 es.size ep)) S es ep t:=⟨⟨o,ag _ u,n,G⟩,hf⟩;have B:s.heap.objs.size∉[s.heap.objs.size+1,S]:=by simp only[aI,dy,or_false,not_or];exact⟨aP (eh _),eN m⟩
  have P:∀(s':Shared),(∀b o,b∉s.heap.objs.size::[s.heap.objs.size+1]->((s.heap.push (jE #[] 0)).push (siO S (.int 0 0) 0 es.size ep)).get? b=some o->s'.heap.get? b=some o)->∀b o,s.heap.get? b=some o->s'.heap.get? b=some o:=fun s' k b o e=>by have p:=aA e;refine k b o ?_ (ag _ (ag _ e));simp only[aI,dy,or_false,not_or];exact⟨aP p,aP (bK p)⟩
  cases hw:w.params.followText "set-order" with
  |true=>
   have r:((jB (w.params.setOrder S ep) es).toList.map (·.2)).length=es.size:=by have :=(pD (w.params.setOrder S ep) es).length_eq;simpa using this
   refine xr (s:={s with heap:=(s.heap.push (jE #[] 0)).push (siO S (.int 0 0) 0 es.size ep)}) (fun a s' h=>h) (walkA (A:=A.in1) (by simp[H]) hw (aP (bK m)) es ep t) J B (ag _ D) ⟨K,0,y⟩ fun s' c a j l z x e g=>?_;exact C _ s' c a r ((pD (w.params.setOrder S ep) es).map _) (P s' j) l x e g
  |false=>
   have W:jm es t=false:=by rw[hw]at I;simpa using I
   refine xr (s:={s with heap:=(s.heap.push (jE #[] 0)).push (siO S (.int 0 0) 0 es.size ep)}) (fun a s' h=>h) (walkB (A:=A.in1) (by simp[H]) hw (aP (bK m)) es ep t W (X hw) L) J B (ag _ D) ⟨K,0,Fu L.up,y⟩ fun s' c a j l z x e g=>?_;exact C _ s' c a (by simp) (d7 _) (P s' j) l x e g
 ·rw[v];have Y:((s.heap.push (jE #[] 0)).push {cls:=.type "tuple",data:=.seq (f.map fun(i:Nat)=>rawInt i).toArray}).objs.size=s.heap.objs.size+1+1:=by rw[bG,v]
  have V:((s.heap.push (jE #[] 0)).push {cls:=.type "tuple",data:=.seq (f.map fun(i:Nat)=>rawInt i).toArray}).get? (s.heap.objs.size+1)=some {cls:=.type "tuple",data:=.seq (f.map fun(i:Nat)=>rawInt i).toArray}:=by rw[<-v];exact ay _ rfl
  have N:((s.heap.push (jE #[] 0)).push {cls:=.type "tuple",data:=.seq (f.map fun(i:Nat)=>rawInt i).toArray}).get? S=some o:=ag _ u;have R:((s.heap.push (jE #[] 0)).push {cls:=.type "tuple",data:=.seq (f.map fun(i:Nat)=>rawInt i).toArray}).get? s.heap.objs.size=some (jE #[] 0):=ag _ D;have Z:∀b o,s.heap.get? b=some o->((s.heap.push (jE #[] 0)).push {cls:=.type "tuple",data:=.seq (f.map fun(i:Nat)=>rawInt i).toArray}).get? b=some o:=fun b o e=>ag _ (ag _ e);generalize(s.heap.push (jE #[] 0)).push {cls:=.type "tuple",data:=.seq (f.map fun(i:Nat)=>rawInt i).toArray}=h2 at *;refine af (bY (C6 ⟨o,ag _ N,n⟩ ?_));refine ite_yes (by decide+kernel) ?_;have y:(h2.push (siO S (.ref (s.heap.objs.size+1)) 0 es.size ep)).get? (s.heap.objs.size+1+1)=some (siO S (.ref (s.heap.objs.size+1)) 0 es.size ep):=by rw[<-Y];exact ay _ rfl
  have B:s.heap.objs.size∉[s.heap.objs.size+1+1,S,s.heap.objs.size+1]:=by simp only[aI,dy,or_false,not_or];exact⟨aP (bK (eh _)),eN m,aP (eh _)⟩
  have r:(f.map fun a1=>(es.getD a1 (0,.none)).2).length=es.size:=by rw[ai,hp.length_eq,aR]
  refine xr (s:={s with drawn:=d,heap:=h2.push (siO S (.ref (s.heap.objs.size+1)) 0 es.size ep)}) (fun a s' h=>h) (walkC (A:=A.in1) (by simp[H]) (aP (bK (bK m))) (aP (eh _)) es ep t f hp) J B (ag _ R)
   ⟨⟨⟨o,ag _ N,n,G⟩,hf⟩,ag _ V,y⟩ fun s' c a j l z x e g=>?_
  refine C _ s' c a r ((hp.map _).trans (by rw[es_map])) (fun b o q=>?_) l x e g;have p:=aA q;refine j b o ?_ (ag _ (Z b o q));simp only[aI,dy,or_false,not_or];exact⟨aP p,aP (bK (bK p))⟩
end
def IJ{xs:List Value}(p:vs.Perm xs):∀{ks:List Int},cj xs ks->∃c:List Int,c.Perm ks/\cj vs c:=by
 induction p with
 |nil=>intro ks h;exact⟨ks,d7 _,h⟩
 |cons x p ih=>
  intro ks h;cases h with
  |cons k t h=>obtain⟨c,a,b⟩:=ih h;exact⟨k::c,a.cons k,.cons k t b⟩
 |swap x y l=>
  intro ks h;cases h with
  |cons k t h=>cases h with
   |cons k' t' h=>exact⟨k'::k::_,ym _ _ _,.cons k' t' (.cons k t h)⟩
 |trans p q ih1 ih2=>intro ks h;obtain⟨c,a,b⟩:=ih2 h;obtain⟨f,d,e⟩:=ih1 b;exact⟨f,d.trans a,e⟩
section
variable {E:Value->Shared->Prop}{s:Shared}
def Et{o:Obj}{t:bF}{ks:List Int}{Q:Value->Shared->Prop}(v:A.handled=none)(B:s.heap.get? S=some o)(q:o.cls=.type "set")(u:o.data=.set es ep t)(hf:t.fits es.size=true)(n:es.size<64)(p:kR t)(z:w.params.followText "set-order"=false->t.led=true)
  (x:cj (es.toList.map (·.2)) ks)(nd:ks.Nodup)
  (h:∀(a:List Int)(vs:List Value)(s':Shared)(l:Addr)(c:Nat),a.Perm ks->cj vs a->(∀b o,s.heap.get? b=some o->s'.heap.get? b=some o)->s'.gens=s.gens->s'.os=s.os->s.heap.objs.size<=l->s'.heap.get? l=some (seqObj "list" (gV (ltI a) vs).toArray c)->Q (.ref l) s'):
  wpAny (model prog w) A (call (.builtin "sorted") [.ref S]) Q E s:=by
 refine mO kind_sorted plain_sorted entry_sorted (args_sorted1 _) ?_;unfold Builtin.«sorted»;refine af (m:=checkCount "sorted" 1 1 _) (aj (af (Du (by simp[v]) B q u hf (gA n (by decide)) p z fun vs s' hp H D F G=>af (pZ ?_ ?_))))
 ·obtain⟨a,j,f⟩:=IJ hp x;have y:vs.length=a.length:=f.length;have C:vs.length<64:=by have :=hp.length_eq;simp at this;lia
  have d:(s'.heap.push (seqObj "list" vs.toArray 0)).get? s'.heap.objs.size=some (seqObj "list" vs.toArray 0):=ay _ rfl;have I:a.Nodup:=j.nodup_iff.mpr nd;show wpAny _ _ _ _ _ {s' with heap:=s'.heap.push (seqObj "list" vs.toArray 0)};refine af (bY (cS Jo ⟨_,d,rfl⟩ FF (FX (lt:=ltI a) (h0:=s'.heap) (by rw[y];exact totI I) d (fun b o e=>⟨ag _ e,aP (aA e)⟩) C (fun k=>Jk f k) ⟨_,rfl,?_⟩) (args_list_sort _)));refine aj ⟨_,rfl,?_⟩;obtain⟨c,r⟩:=sortedHeap_at (out:=(gV (ltI a) vs).toArray) d;refine h a vs _ _ c j f (fun b o e=>?_) D F (jA G) r;have g:=H b o e;have i:=aA g;show(sortedHeap (s'.heap.push (seqObj "list" vs.toArray 0)) s'.heap.objs.size vs (gV (ltI a) vs).toArray).get? b=some o;rw[sortedHeap_old (aP i) (by rw[Jp];exact bK i)];exact ag _ g
 ·have :=hp.length_eq;simp at this;exact aL (by lia:vs.length<=64) (by decide)
end
def A0(ks:List Key):(met ks).Nodup:=by
 unfold met;have g:∀(l d:List Key),d.Nodup->(l.foldl more d).Nodup:=by
  intro l
  induction l with
  |nil=>exact fun _ h=>h
  |cons k l ih=>
   intro d h;refine ih _ ?_;unfold more;split;·exact h
   ·rename_i c;refine eG.mpr ⟨h,by simp,fun a f b e=>?_⟩;rw[aT]at e;subst e;intro z;subst z;exact c (jS.mpr f)
 exact g ks [] jq
theorem zi{c:Type}[DecidableEq c]:∀{m l:List c},m.Nodup->(∀x∈m,x∈l)->l.length=m.length->l.Perm m
 | [],l,_,_,h=>by rw[qa]at h;rw[List.eq_nil_of_length_eq_zero h]
 |a::m,l,nd,hs,h=>by have d:a∈l:=hs a aM;have p:=rE d;rw[bW]at nd;have e:=p.length_eq;rw[bC]at e h;have q:=zi (m:=m) (l:=l.erase a) nd.2 (fun x b=>(rF (fun z:x=a=>nd.1 (by rw[<-z];exact b))).mpr (hs x (aK _ b))) (by lia);exact p.trans (q.cons a)
section
def GH{k:Int}{v:Value}(h:(cE prog w).is (.inl k) v=true):∃t,v=.int k t:=by rw[ES]at h;exact Value.isInt_shape (k:=k) (v:=v) h
def vP{l:List (Int×Value)}(h:ElemsOf (cE prog w) l)(hi:∀e∈l,∀k,(cE prog w).is k e.2=true->∃n:Int,k=.inl n):∃a:List Int,cj (l.map (·.2)) a:=by
 induction l with
 |nil=>exact⟨[],.nil⟩
 |cons e l ih=>obtain⟨a,r⟩:=ih h.tail fun c f=>hi c (aK _ f);obtain⟨⟨k,b,_⟩,_⟩:=h.head;obtain⟨n,rfl⟩:=hi e aM k b;obtain⟨t,d⟩:=GH b;refine⟨n::a,?_⟩;rw[b7,d];exact .cons n t r
def LY:∀{vs:List Value}{a:List Int},cj vs a->∀n,n∈a↔∃v∈vs,(cE prog w).is (.inl n) v=true:=by
 intro vs a r
 induction r with
 |nil=>simp
 |cons k t r ih=>
  intro n;rw[aI,ih n];constructor
  ·rintro(rfl|⟨v,hv,e⟩);·exact⟨_,aM,oB _ _ _ _⟩
   ·exact⟨v,aK _ hv,e⟩
  ·rintro⟨v,hv,e⟩;rcases aI.mp hv with rfl|hv;·obtain⟨c,b⟩:=GH e;cases b;exact .inl rfl
   ·exact .inr ⟨v,hv,e⟩
def HQ(x:tf (cE prog w) h a (has (met (ns.map .inl))) (met (ns.map .inl)).length led):
  ∃o es ep t b,h.get? a=some o/\o.cls=.type "set"/\o.data=.set es ep t/\t.fits es.size=true/\es.size<=ns.length/\kR t/\t.led=led/\cj (es.toList.map (·.2)) b/\b.Nodup/\∀n,n∈b↔n∈ns:=by
 obtain⟨o,es,ep,t,B,g,q,u,i,D,hf,f,m,l⟩:=x;have y:=ET (ns.map (dY:Int->Key));rw[ai]at y;have inl:∀e∈es.toList,∀k,(cE prog w).is k e.2=true->∃n:Int,n∈ns/\k=.inl n:=fun e c k d=>by have :=lb.mp (jS.mp ((i k).mpr ⟨e,c,d⟩));obtain⟨n,f,rfl⟩:=az.mp this;exact⟨n,f,rfl⟩
 obtain⟨b,r⟩:=vP u fun e c k d=>let⟨n,_,e⟩:=inl e c k d;⟨n,e⟩;have mem:∀n,n∈b↔n∈ns:=fun n=>by
  rw[LY (prog:=prog) (w:=w) r n];constructor;·rintro⟨v,C,e⟩;obtain⟨j,s,rfl⟩:=az.mp C;obtain⟨E,A,z⟩:=inl j s _ e;cases z;exact A
  ·intro h;obtain⟨e,c,d⟩:=(i (.inl n)).mp (jS.mpr (lb.mpr (tI h)));exact⟨e.2,tI c,d⟩
 have len:b.length=es.size:=by have :=r.length;simp at this;lia
 have p:(b.map (dY:Int->Key)).Perm (met (ns.map .inl)):=zi (A0 _) (fun x g=>by obtain⟨n,f,rfl⟩:=az.mp (lb.mp g);exact tI ((mem n).mpr f)) (by rw[ai];lia)
 have nd:(b.map (dY:Int->Key)).Nodup:=p.nodup_iff.mpr (A0 _);exact⟨o,es,ep,t,b,B,g.1,q,hf,by lia,m,l,r,(de.mp nd).imp fun h z=>h (congrArg _ z),mem⟩
end
end Q
namespace L2
open PySem PySem.Spec PyProof.Rows Q
section
def Inv.same{σ:List (Option V)}(I:Inv X pins σ H s)(c:s'.heap=s.heap)(e:s'.gens=s.gens)(f:s'.os=s.os):Inv X pins σ H s':=by obtain⟨h,g,d,t,o⟩:=s;obtain⟨b,a,j,k,i⟩:=s';obtain rfl:b=h:=c;obtain rfl:a=g:=e;obtain rfl:i=o:=f;exact⟨I.ok,I.os,I.bare,I.base,I.loc,I.cell,I.free,I.freeC,I.pin,I.hok,I.len⟩
theorem rX{c:Type}[DecidableEq c]:∀{l m:List c},l.Nodup->(∀x∈l,x∈m)->l.length<=m.length
 | [],_,_,_=>aV _
 |a::l,m,nd,h=>by rw[bW]at nd;have d:=h a aM;have p:=(rE d).length_eq;have :=rX (m:=m.erase a) nd.2 fun x b=>(rF fun z:x=a=>nd.1 (z▸b)).mpr (h x (aK _ b));rw[bC]at p⊢;lia
def Few(ns:List Int):Prop:=ns.length<1000/\∃a:List Int,a.length<64/\∀x∈ns,x∈a
def Few.of(h:ns.length<64):Few ns:=⟨by lia,ns,h,fun _ h=>h⟩
def B4(K:ah)(ta:TA):TE:=fun σ H Q=>ta σ H fun vs H1=>∃(p:Addr)(ns:List Int),vs=[V.ref p]/\SqL K H1 p (ns.map V.int)/\Few ns/\
 ∀(a:List Int) l,a.Nodup->(∀x,x∈a↔x∈ns)->H1 l=none->Q (.ref l) (upd H1 l (.lst (sortI a)))
def Bw:fP "sorted"=some (.builtin "sorted"):=by decide+kernel
def Jd:fP "set"=some (.type "set"):=by decide+kernel
def EF{a:Expr}{A:TA}{p p':Pos}(q:X.calm=true)(G:Gl X "sorted")(L:X.mg "sorted"=none)(J:Gl X "set")(M:X.mg "set"=none)(E:PA X [a] A)(O:bB [a] X.env=[(false,eval a X.env)]:=by rfl):
  PE X (.Call (.Name "sorted" p) [.Call (.Name "set" p') [a] [] pos'] [] pos) (B4 X.K A):=by
 intro a0 s σ H a7 I h;refine Call_ (lC I G L Bw (i6 (Nk ?_) rfl rfl));refine Call_ (lC I J M Jd (di (thn (E pos' a0 s σ H _ I h) fun us s1 ⟨vs,H1,d,r1,q1⟩=>?_) O rfl));obtain⟨pl,w,e,hq,⟨a8,mm,a9,N⟩,a4⟩:=q1;subst e;obtain⟨b3,rfl,rx⟩:=vals1 r1;cases rx;obtain⟨R,y,a3,_⟩:=d.list hq;have j:=y.length;rw[ai]at j;have r2:bM ((w.map (dY:Int->Key)).map kV) R:=by rw[bp];exact y
 refine ze (ks:=w.map .inl) (d.ok.hd q) a3.isList (by rw[aD,ai];exact j) (fun i a5 e=>A5 r2 i a5 (by simpa using e)) (by rw[aD,<-j];unfold gz;lia) fun h' tk C Y=>?_;obtain⟨o,n,ep,t,ms,v,k,F,hf,b2,D,B,r,nd,mem⟩:=HQ C;have b0:n.size<64:=by have g:=r.length;simp at g;have :=rX nd fun x k=>N x ((mem x).mp k);lia
 refine aj ?_;refine Et (s:={s1 with heap:=h',toks:=tk}) (d.ok.hd q) v k F hf (by lia) D (fun a6=>by rw[B,a6];rfl) r nd fun f vs z l c hp P Z S T U V=>?_;have m:f.Nodup:=hp.nodup_iff.mpr nd;have b1:f.length=n.size:=by have a1:=hp.length_eq;have g:=r.length;simp at g;lia
 have W:∀b o,s1.heap.get? b=some o->z.heap.get? b=some o:=fun b o e=>Z b o (Y b o (aA e) e);have K:s1.heap.objs.size<h'.objs.size:=aA v;have u:s1.heap.objs.size<=l:=aL (jA K) U;have Q:(sortI f).length<=sizeLine:=by unfold sortI;rw[ai,Lf m];exact gh (by lia)
 exact⟨.ref l,_,(d.laid (h':=z.heap) (t':=s1.toks) W u (show dO X.prog X.w _ _ _ (.lst (sortI f))from⟨Q,_,c,outI m (tK P),V⟩)).same rfl S T,rfl,a4 _ _ m (fun x=>(hp.mem_iff).trans (mem x)) (d.hok.fresh u)⟩
end
end L2
set_option maxHeartbeats 1000000
namespace Q
open PySem PySem.Spec PySem.W PyProof.Rows L2
section
variable {E:Value->Shared->Prop}{s:Shared}{lt:Nat->Nat->Bool}{vs:List Value}
open Classical in
end
end Q
set_option maxHeartbeats 3200000
namespace L2
open PySem PySem.Spec PyProof.Rows Q
set_option maxHeartbeats 1000000
end L2
namespace Q
open PySem PySem.Spec PySem.W PyProof.Rows L2
noncomputable abbrev Tri:=Int×Str×Str
abbrev t3(x y:Tri):Bool:=decide (x.1<y.1)||(decide (x.1=y.1)&&(tlt x.2.1 y.2.1||(decide (x.2.1=y.2.1)&&tlt x.2.2 y.2.2)))
end Q
set_option genInjectivity false
set_option genSizeOf false
namespace R
open PySem PySem.Spec PyProof.Rows L2
inductive Bf where
 |len|isinstance|all|list|tuple|set|min|int|lend|isx|sortl|minl|maxl|sortt
 deriving DecidableEq
abbrev Bf.name:Bf->Str
 |.len=>"len" |.isinstance=>"isinstance" |.all=>"all" |.list=>"list" |.tuple=>"tuple" |.set=>"set" |.min=>"min" |.int=>"int" |.lend=>"len" |.isx=>"isinstance" |.sortl=>"sorted" |.minl=>"min" |.maxl=>"max" |.sortt=>"sorted"
abbrev Bf.val:Bf->Value
 |.len=>.builtin "len" |.isinstance=>.builtin "isinstance" |.all=>.builtin "all" |.list=>.type "list" |.tuple=>.type "tuple" |.set=>.type "set" |.min=>.builtin "min" |.int=>.type "int" |.lend=>.builtin "len" |.isx=>.builtin "isinstance" |.sortl=>.builtin "sorted" |.minl=>.builtin "min" |.maxl=>.builtin "max" |.sortt=>.builtin "sorted"
def Bf.boot:∀b:Bf,fP b.name=some b.val
 |.len=>PySem.boot_len|.isinstance=>boot_isinstance|.all=>boot_all|.list=>yn|.tuple=>yj
 |.set=>by decide+kernel|.min=>by decide+kernel|.int=>yO|.lend=>PySem.boot_len|.isx=>boot_isinstance|.sortl=>by decide+kernel|.minl=>by decide+kernel|.maxl=>by decide+kernel|.sortt=>by decide+kernel
def Bf.plain:∀b:Bf,b.name≠"__name__"/\(b.name==("__debug__":Str))=false:=by intro b;cases b<;>exact⟨by decide+kernel,by decide+kernel⟩
inductive Ty where
 |int|bool|str|list|tuple|dict|valueError
 deriving DecidableEq
abbrev Ty.name:Ty->Str
 |.int=>"int" |.bool=>"bool" |.str=>"str" |.list=>"list" |.tuple=>"tuple" |.dict=>"dict" |.valueError=>"ValueError"
abbrev Ty.t:Ty->String
 |.int=>"int" |.bool=>"bool" |.str=>"str" |.list=>"list" |.tuple=>"tuple" |.dict=>"dict" |.valueError=>"ValueError"
def Ty.boot:∀b:Ty,fP b.name=some (.type b.t)
 |.int=>yO|.bool=>PyProof.Rows.boot_bool|.str=>PyProof.Rows.boot_str|.list=>yn|.tuple=>yj|.dict=>PyProof.Rows.boot_dict|.valueError=>by decide+kernel
def Ty.plain:∀b:Ty,b.name≠"__name__"/\(b.name==("__debug__":Str))=false:=by intro b;cases b<;>exact⟨by decide+kernel,by decide+kernel⟩
abbrev rS(K:ah):Operator->R2
 |.Add=>fun x y H Q=>(rI0 fun i j=>.int (i+j)) x y H Q\/(∃i j,x=.str i/\y=.str j/\i.length+j.length<=sizeLine/\Q (.str (i++j)) H)\/rCat x y H Q\/False
 |.Sub=>rI0 fun i j=>.int (i-j)
 |.Mult=>fun x y H Q=>(rI FC fun i j=>.int (i*j)) x y H Q\/rRep x y H Q\/KJ x y H Q
 |.Mod=>rI (fun _ j=>0<j) fun i j=>.int (i%j)
 |.FloorDiv=>rI CDiv fun i j=>.int (i/j)
 |.Pow=>rI MX fun i j=>.int (i^j.toNat)
 |.RShift=>rI (fun _ j=>0<=j) fun i j=>.int (i/2^j.toNat)
 |.LShift=>rI MX fun i j=>.int (i*2^j.toNat)
 |.BitAnd=>rI0 fun i j=>.int (i9 i j)
 |.BitXor=>rI0 fun i j=>.int (k6 i j)
 |_=>fun _ _ _ _=>False
abbrev fM(K:ah):CmpOp->R2
 |.Eq=>rEqD K
 |.NotEq=>rNeD K
 |.Lt=>rI0 fun i j=>.bl (decide (i<j))
 |.LtE=>rI0 fun i j=>.bl (decide (i<=j))
 |.Gt=>rI0 fun i j=>.bl (decide (j<i))
 |.GtE=>rI0 fun i j=>.bl (decide (j<=i))
 |.Is=>fun x y H Q=>y=.non/\Q (.bl (decide (x=.non))) H
 |.IsNot=>fun x y H Q=>y=.non/\Q (.bl (!decide (x=.non))) H
 |.In=>fun x y H Q=>((∃i j,x=.str i/\y=.str j/\Q (.bl (!(iA j i 0 j.length 1).isEmpty)) H)\/rInD K false x y H Q)\/rIn K false x y H Q
 |.NotIn=>fun x y H Q=>((∃i j,x=.str i/\y=.str j/\Q (.bl (!(!(iA j i 0 j.length 1).isEmpty))) H)\/rInD K true x y H Q)\/rIn K true x y H Q
def rSlc(K:ah):V->Option Int->Option Int->Hp->VK->Prop:=fun x lo hi H Q=>rSlL K x lo hi H Q\/rSlS x lo hi H Q
abbrev rBf(K:ah):Bf->List V->Hp->VK->Prop
 |.len=>fun xs H Q=>(∃p ys,xs=[.ref p]/\(SqL K H p ys\/SqT K H p ys)/\Q (.int ys.length) H)\/(∃z:Str,xs=[.str z]/\z.length<=sizeLine/\Q (.int z.length) H)\/(∃a n,xs=[V.ref a]/\H a=some (_root_.Q.Ex a n)/\Q (.int n) H)
 |.isinstance=>fun xs H Q=>(∃x T t b,xs=[x,.ty T]/\nY K H x t/\gS K t (.type T)=some b/\Q (.bl b) H)\/(∃x C t b,xs=[x,.ref C]/\nY K H x t/\gS K t (.ref C)=some b/\Q (.bl b) H)
 |.all=>fun xs H Q=>∃(p:Addr)(bs:List Bool),xs=[.ref p]/\SqL K H p (bs.map V.bl)/\Q (.bl (bs.all id)) H
 |.list=>fun xs H Q=>∃p ys,xs=[.ref p]/\(SqL K H p ys\/SqT K H p ys)/\∀l,H l=none->Q (.ref l) (upd H l (.lst ys))
 |.tuple=>fun xs H Q=>∃p ys,xs=[.ref p]/\((SqL K H p ys/\∀l,H l=none->Q (.ref l) (upd H l (.tup ys)))\/(SqT K H p ys/\Q (.ref p) H))
 |.set=>Q.rSet K
 |.min=>fun xs H Q=>∃i j,xs=[.int i,.int j]/\Q (.int (if j<i then j else i)) H
 |.int=>fun xs H Q=>(∃i,xs=[.int i]/\Q (.int i) H)\/∃k,xs=[.bl k]/\Q (.int (if k then 1 else 0)) H
 |.lend=>fun xs H Q=>∃a kvs,xs=[V.ref a]/\H a=some (.dT kvs)/\Q (.int kvs.length) H
 |.sortl=>Q.KI K
 |.sortt=>Q.KH K
 |.minl=>Q.rMinL K
 |.maxl=>Q.rMaxL K
 |.isx=>fun xs H Q=>∃a C d y cv b,xs=[.ref a,y]/\H a=some (xK a (.ref C) d)/\(∀dd,d=some dd->∃fs,H dd=some (xdO dd fs))/\sy K C=true/\((∃T,y=.ty T/\cv=lM T)\/(∃D,y=.ref D/\cv=bE D))/\gS K (.ref C) cv=some b/\Q (.bl b) H
inductive Mm where
 |append|clear|reverse|pop|index|extend
 deriving DecidableEq
abbrev Mm.name:Mm->Str
 |.append=>"append" |.clear=>"clear" |.reverse=>"reverse" |.pop=>"pop" |.index=>"index" |.extend=>"extend"
abbrev Mm.id:Mm->String
 |.append=>"list.append" |.clear=>"list.clear" |.reverse=>"list.reverse" |.pop=>"list.pop" |.index=>"list.index" |.extend=>"list.extend"
abbrev rMm:Mm->V->List V->Hp->VK->Prop
 |.append=>Ge
 |.clear=>KN
 |.reverse=>Cf
 |.pop=>fun x xs H Q=>False\/KL x xs H Q
 |.index=>fun _ _ _ _=>False
 |.extend=>Gd
abbrev baseOk:Expr->Bool
 |.Name .. =>true|.Subscript .. =>true
 |.Call f _ _ _=>match f with
  |.Attribute .. =>true
  |_=>false
 |_=>false
mutual
inductive CE where
 |var (i:Nat)
 |con (c:Const)
 |glo (x:Str)
 |ty (t:Ty)
 |bin (op:Operator) (a b:CE)
 |cmp (op:CmpOp) (a b:CE)
 |chain (op op':CmpOp) (a b c:CE)
 |not (a:CE)
 |and (a b:CE)
 |or (a b:CE)
 |ite (c a b:CE)
 |idx (a i:CE)
 |cut (a:CE) (lo hi:CO)
 |tup (es:CL)
 |lst (es:CL)
 |call (f:Str) (es:CL)
 |bfn (b:Bf) (es:CL)
 |meth1 (m:Mm) (o a:CE)
 |idxd (a i:CE)
 |dicT
 |setd (o a b:CE)
 |base (x:Str) (es:CL)
 |fld (a:CE) (f:Str)
 |sortset (a:CE)
 |comp (own:List Str) (fr:List Nat) (tg:CG) (it:CI) (cond:CO) (elt:CE)
inductive CL where
 |nil
 |cons (e:CE) (es:CL)
inductive CO where
 |no
 |yes (e:CE)
inductive CG where
 |name (i:Nat)
 |tup (gs:CGs)
inductive CGs where
 |nil
 |cons (g:CG) (gs:CGs)
inductive CI where
 |seq (e:CE)
 |lseq (e:CE)
 |range1 (e:CE)
 |range2 (a b:CE)
 |enum (e:CE)
 |enumt (e:CE)
end
abbrev CL.len:CL->Nat
 |.nil=>0
 |.cons _ r=>r.len+1
abbrev CGs.len:CGs->Nat
 |.nil=>0
 |.cons _ r=>r.len+1
mutual
inductive CS where
 |asg (g:CG) (e:CE)
 |asgc (i:Nat) (e:CE)
 |expr (e:CE)
 |iff (c:CE) (a b:CB)
 |whl (c:CE) (b:CB)
 |forr (g:CG) (it:CI) (b:CB)
 |ret (e:CE)
 |retN
 |pass|brk|cont
 |raisX (x:Str) (es:CL)
 |fldX (o:CE) (f:Str) (e:CE)
 |tryc (x:Str) (i:Nat) (b su:CB)
inductive CB where
 |nil
 |hole
 |cons (s:CS) (r:CB)
end
abbrev C2(sc:Scope)(x:Str):Bool:=sc.names.lookup x==some .local||sc.names.lookup x==some .cell||sc.names.lookup x==some .free
abbrev kP(sc:Scope)(x:Str):Bool:=sc.names.lookup x==some .globalImplicit
abbrev uG(x:Str):Bool:=(x==("__debug__":Str))==false&&(x==("__classdict__":Str))==false
abbrev okCon:Const->Bool
 |.none=>true|.bool _=>true|.int _=>true|.str _=>true|_=>false
abbrev cv:Const->V
 |.none=>.non|.bool b=>.bl b|.int i=>.int i|.str x=>.str x|_=>.non
abbrev namesOf(N own:List Str)(fr:List Nat):List Str:=own++fr.map fun j=>N.getD j ""
abbrev mV(own:List Str)(fr:List Nat)(σ:L2.St):L2.St:=own.map (fun _=>none)++fr.map fun j=>(σ[j]?).getD none
abbrev A6:Expr->Bool
 |.Slice .. =>true
 |_=>false
abbrev isSet:Expr->Bool
 |.Set .. =>true
 |_=>false
abbrev xB:Expr->Bool
 |.ListComp .. =>true|.SetComp .. =>true|.DictComp .. =>true
 |_=>false
abbrev qV:Expr->Bool
 |.Tuple .. =>true
 |_=>false
abbrev AU(sc sc':Scope)(N own:List Str)(fr:List Nat):Bool:=
 decide (sc'.kind=.function)&&sc'.names.all (fun y=>decide (y.2=.cell->sc'.names.lookup y.1=some .cell))&&sc'.names.all (fun y=>decide (y.2=.local->sc'.names.lookup y.1=some .local))&&
 sc'.names.all (fun y=>decide (y.2=.free->sc.names.lookup y.1=some .cell\/sc.names.lookup y.1=some .free))&&decide ((namesOf N own fr).Nodup)&&
 fr.all (fun j=>decide (j<N.length)&&sc'.names.lookup (N.getD j "")==some .free)&&own.all (fun x=>sc'.names.lookup x==some .local||sc'.names.lookup x==some .cell)
def dg{P:Prop}(h:false=true):P:=(ak h).elim
def Lk{P:Prop}(h:true=false):P:=(ak h.symm).elim
def an{a b:Bool}(h:(a&&b)=true):a=true/\b=true:=by rwa [aF]at h
def rV{a:Bool}(h:(!a)=true):a=false:=by simpa using h
def jv{a b c:Bool}(h:(a&&b&&c)=true):a=true/\b=true/\c=true:=let⟨h,z⟩:=an h;let⟨x,y⟩:=an h;⟨x,y,z⟩
def m9{a b c d:Bool}(h:(a&&b&&c&&d)=true):a=true/\b=true/\c=true/\d=true:=let⟨h,z⟩:=an h;let⟨x,y,w⟩:=jv h;⟨x,y,w,z⟩
def and5{a b c d e:Bool}(h:(a&&b&&c&&d&&e)=true):a=true/\b=true/\c=true/\d=true/\e=true:=let⟨h,z⟩:=an h;let⟨x,y,w,v⟩:=m9 h;⟨x,y,w,v,z⟩
section
variable {s:Stmt}
abbrev l1{α:Type}(l:List α)(f:α->Bool):Bool:=match l with
 |a::r=>r.isEmpty&&f a
 | []=>false
def lg{b:Type}{l:List b}{f:b->Bool}(h:l1 l f=true):∃a,l=[a]/\f a=true:=by
 cases l with
 |nil=>exact dg h
 |cons a r=>
  obtain⟨c,h⟩:=an h;cases r with
  |nil=>exact⟨a,rfl,h⟩
  |cons=>exact dg c
abbrev l2{α:Type}(l:List α)(f:α->α->Bool):Bool:=match l with
 |a::r=>l1 r (f a)
 | []=>false
def zw{c:Type}{l:List c}{f:c->c->Bool}(h:l2 l f=true):∃a b,l=[a,b]/\f a b=true:=by
 cases l with
 |nil=>exact dg h
 |cons a r=>obtain⟨b,rfl,h⟩:=lg h;exact⟨a,b,rfl,h⟩
abbrev dNm(e:Expr)(f:Str->Pos->Bool):Bool:=match e with
 |.Name x p=>f x p
 |_=>false
def iV{f}(h:dNm e f=true):∃x p,e=.Name x p/\f x p=true:=by cases e<;>first |exact⟨_,_,rfl,h⟩ |exact dg h
abbrev dCn(e:Expr)(f:Const->Bool):Bool:=match e with
 |.Constant c _ _=>f c
 |_=>false
def MD{f}(h:dCn e f=true):∃c j p,e=.Constant c j p/\f c=true:=by cases e<;>first |exact⟨_,_,_,rfl,h⟩ |exact dg h
abbrev dBi(e:Expr)(f:Expr->Operator->Expr->Bool):Bool:=match e with
 |.BinOp a op b _=>f a op b
 |_=>false
def dBi_of{f}(h:dBi e f=true):∃a c b p,e=.BinOp a c b p/\f a c b=true:=by cases e<;>first |exact⟨_,_,_,_,rfl,h⟩ |exact dg h
abbrev dUn(e:Expr)(f:UnaryOp->Expr->Bool):Bool:=match e with
 |.UnaryOp op a _=>f op a
 |_=>false
def Mz{f}(h:dUn e f=true):∃b a p,e=.UnaryOp b a p/\f b a=true:=by cases e<;>first |exact⟨_,_,_,rfl,h⟩ |exact dg h
abbrev dCm(e:Expr)(f:Expr->List CmpOp->List Expr->Bool):Bool:=match e with
 |.Compare a os es _=>f a os es
 |_=>false
def Fj{f}(h:dCm e f=true):∃a os es p,e=.Compare a os es p/\f a os es=true:=by cases e<;>first |exact⟨_,_,_,_,rfl,h⟩ |exact dg h
abbrev dC1(e:Expr)(f:Expr->CmpOp->Expr->Bool):Bool:=dCm e fun a os es=>l1 os fun c=>l1 es fun b=> !isSet b&&f a c b
def MF{f}(h:dC1 e f=true):∃a c b p,e=.Compare a [c] [b] p/\isSet b=false/\f a c b=true:=by obtain⟨a,i,g,p,rfl,k⟩:=Fj h;obtain⟨c,rfl,l⟩:=lg k;obtain⟨b,rfl,m⟩:=lg l;obtain⟨d,n⟩:=an m;exact⟨a,c,b,p,rfl,rV d,n⟩
abbrev dBo(e:Expr)(f:BoolOp->Expr->Expr->Bool):Bool:=match e with
 |.BoolOp op es p=>match es with
  |a::r=>match r with
   |b::r=>match r with
    | []=>f op a b
    |c::r=>f op a (.BoolOp op (b::c::r) p)
   | []=>false
  | []=>false
 |_=>false
def ud{f}(h:dBo e f=true):∃d a x p,f d a x=true/\(e=.BoolOp d [a,x] p\/∃b c r,x=.BoolOp d (b::c::r) p/\e=.BoolOp d (a::b::c::r) p):=by
 cases e<;>first |exact dg h|skip
 rename_i d es p;cases es with
 |nil=>exact dg h
 |cons a r=>cases r with
  |nil=>exact dg h
  |cons b r=>cases r with
   |nil=>exact⟨d,a,b,p,h,.inl rfl⟩
   |cons c r=>exact⟨d,a,_,p,h,.inr ⟨b,c,r,rfl,rfl⟩⟩
abbrev dIf(e:Expr)(f:Expr->Expr->Expr->Bool):Bool:=match e with
 |.IfExp c a b _=>f c a b
 |_=>false
def dIf_of{f}(h:dIf e f=true):∃c a b p,e=.IfExp c a b p/\f c a b=true:=by cases e<;>first |exact⟨_,_,_,_,rfl,h⟩ |exact dg h
abbrev dSu(e:Expr)(f:Expr->Expr->Bool):Bool:=match e with
 |.Subscript a i _=>f a i
 |_=>false
def Bh{f}(h:dSu e f=true):∃a i p,e=.Subscript a i p/\f a i=true:=by cases e<;>first |exact⟨_,_,_,rfl,h⟩ |exact dg h
abbrev dSl(e:Expr)(f:Option Expr->Option Expr->Option Expr->Bool):Bool:=match e with
 |.Slice a b c _=>f a b c
 |_=>false
def dSl_of{f}(h:dSl e f=true):∃a b c p,e=.Slice a b c p/\f a b c=true:=by cases e<;>first |exact⟨_,_,_,_,rfl,h⟩ |exact dg h
abbrev dTu(e:Expr)(f:List Expr->Bool):Bool:=match e with
 |.Tuple es _ _=>f es
 |_=>false
def MA{f}(h:dTu e f=true):∃es k p,e=.Tuple es k p/\f es=true:=by cases e<;>first |exact⟨_,_,_,rfl,h⟩ |exact dg h
abbrev dLi(e:Expr)(f:List Expr->Bool):Bool:=match e with
 |.List es _=>f es
 |_=>false
def MC{f}(h:dLi e f=true):∃es p,e=.List es p/\f es=true:=by cases e<;>first |exact⟨_,_,rfl,h⟩ |exact dg h
abbrev dDi(e:Expr)(f:List (Option Expr)->List Expr->Bool):Bool:=match e with
 |.Dict ks vs _=>f ks vs
 |_=>false
def dDi_of{f}(h:dDi e f=true):∃ks vs p,e=.Dict ks vs p/\f ks vs=true:=by cases e<;>first |exact⟨_,_,_,rfl,h⟩ |exact dg h
abbrev dCa(e:Expr)(f:Expr->List Expr->Pos->Bool):Bool:=match e with
 |.Call g es ks p=>ks.isEmpty&&f g es p
 |_=>false
def ME{f}(h:dCa e f=true):∃g es p,e=.Call g es [] p/\f g es p=true:=by
 cases e<;>first |exact dg h|skip
 rename_i g es ks p;obtain⟨a,h⟩:=an h;cases ks with
 |nil=>exact⟨g,es,p,rfl,h⟩
 |cons=>exact dg a
abbrev dFn(e:Expr)(f:Str->List Expr->Bool):Bool:=dCa e fun g es _=>dNm g fun x _=>f x es
def kA{f}(h:dFn e f=true):∃x np es p,e=.Call (.Name x np) es [] p/\f x es=true:=by obtain⟨g,es,p,rfl,k⟩:=ME h;obtain⟨x,np,rfl,l⟩:=iV k;exact⟨x,np,es,p,rfl,l⟩
abbrev dAt(e:Expr)(f:Expr->Str->Pos->Bool):Bool:=match e with
 |.Attribute a x p=>f a x p
 |_=>false
def Bi{f}(h:dAt e f=true):∃a x p,e=.Attribute a x p/\f a x p=true:=by cases e<;>first |exact⟨_,_,_,rfl,h⟩ |exact dg h
abbrev dMt(m:Str)(e:Expr)(f:Expr->List Expr->Bool):Bool:=dCa e fun g es b=>dAt g fun o c a=>decide (m=c)&&(a.endLine==b.line)&&f o es
def Fh{m:Str}{f}(h:dMt m e f=true):∃o a es b,e=.Call (.Attribute o m a) es [] b/\(a.endLine==b.line)=true/\f o es=true:=by obtain⟨g,es,b,rfl,k⟩:=ME h;obtain⟨o,i,a,rfl,l⟩:=Bi k;obtain⟨c,d,n⟩:=jv l;cases of_decide_eq_true c;exact⟨o,a,es,b,rfl,d,n⟩
abbrev dLc(e:Expr)(f:Expr->List Comprehension->Scope->Pos->Bool):Bool:=match e with
 |.ListComp a gs sc p=>f a gs sc p
 |_=>false
def Fi{f}(h:dLc e f=true):∃a b sc p,e=.ListComp a b sc p/\f a b sc p=true:=by cases e<;>first |exact⟨_,_,_,_,rfl,h⟩ |exact dg h
abbrev dAs(s:Stmt)(f:Expr->Expr->Pos->Bool):Bool:=match s with
 |.Assign ts e p=>l1 ts fun g=>f g e p
 |_=>false
def Bj{f}(h:dAs s f=true):∃g e p,s=.Assign [g] e p/\f g e p=true:=by
 cases s<;>first |exact dg h|skip
 obtain⟨g,rfl,h⟩:=lg h;exact⟨g,_,_,rfl,h⟩
abbrev dEx(s:Stmt)(f:Expr->Bool):Bool:=match s with
 |.Expr e _=>f e
 |_=>false
def dEx_of{f}(h:dEx s f=true):∃e p,s=.Expr e p/\f e=true:=by cases s<;>first |exact⟨_,_,rfl,h⟩ |exact dg h
abbrev dIs(s:Stmt)(f:Expr->List Stmt->List Stmt->Bool):Bool:=match s with
 |.If c a b _=>f c a b
 |_=>false
def dIs_of{f}(h:dIs s f=true):∃c a b p,s=.If c a b p/\f c a b=true:=by cases s<;>first |exact⟨_,_,_,_,rfl,h⟩ |exact dg h
abbrev dWh(s:Stmt)(f:Expr->List Stmt->Bool):Bool:=match s with
 |.While c a b _=>b.isEmpty&&f c a
 |_=>false
def dWh_of{f}(h:dWh s f=true):∃c a p,s=.While c a [] p/\f c a=true:=by
 cases s<;>first |exact dg h|skip
 rename_i c a b p;obtain⟨d,h⟩:=an h;cases b with
 |nil=>exact⟨c,a,p,rfl,h⟩
 |cons=>exact dg d
abbrev dFo(s:Stmt)(f:Expr->Expr->List Stmt->Bool):Bool:=match s with
 |.For g i a b _=>b.isEmpty&&f g i a
 |_=>false
def dFo_of{f}(h:dFo s f=true):∃g i a p,s=.For g i a [] p/\f g i a=true:=by
 cases s<;>first |exact dg h|skip
 rename_i g i a b p;obtain⟨c,h⟩:=an h;cases b with
 |nil=>exact⟨g,i,a,p,rfl,h⟩
 |cons=>exact dg c
abbrev dRt(s:Stmt)(f:Option Expr->Bool):Bool:=match s with
 |.Return e _=>f e
 |_=>false
def MB{f}(h:dRt s f=true):∃e p,s=.Return e p/\f e=true:=by cases s<;>first |exact⟨_,_,rfl,h⟩ |exact dg h
abbrev dRa(s:Stmt)(f:Str->List Expr->Bool):Bool:=match s with
 |.Raise e c _=>match e with
  |some e=>c.isNone&&dFn e f
  |none=>false
 |_=>false
def dRa_of{f}(h:dRa s f=true):∃x np es a p,s=.Raise (some (.Call (.Name x np) es [] a)) none p/\f x es=true:=by
 cases s<;>first |exact dg h|skip
 rename_i e c p;cases e with
 |none=>exact dg h
 |some e=>
  obtain⟨b,k⟩:=an h;obtain⟨x,np,es,a,rfl,l⟩:=kA k;cases c with
  |none=>exact⟨x,np,es,a,p,rfl,l⟩
  |some=>exact dg b
abbrev dTr(s:Stmt)(f:List Stmt->Str->Str->List Stmt->Bool):Bool:=match s with
 |.Try b hs o r _=>o.isEmpty&&r.isEmpty&&l1 hs fun h=>match h with
  |.ExceptHandler t n ss _=>match t with
   |some t=>match n with
    |some n=>dNm t fun x _=>f b x n ss
    |none=>false
   |none=>false
 |_=>false
def dTr_of{f}(h:dTr s f=true):∃b x np n a hp p,s=.Try b [.ExceptHandler (some (.Name x np)) (some n) a hp] [] [] p/\f b x n a=true:=by
 cases s<;>first |exact dg h|skip
 rename_i b hs o r p;obtain⟨c,d,k⟩:=jv h;obtain⟨⟨t,n,a,hp⟩,rfl,l⟩:=lg k;cases o with
 |cons=>exact dg c
 |nil=>cases r with
  |cons=>exact dg d
  |nil=>cases t with
   |none=>exact dg l
   |some t=>cases n with
    |none=>exact dg l
    |some n=>obtain⟨x,np,rfl,m⟩:=iV l;exact⟨b,x,np,n,a,hp,p,rfl,m⟩
end
abbrev u1{α:Type}(l:List α)(f:α->List α->Bool):Bool:=match l with
 |a::r=>f a r
 | []=>false
def FN{b:Type}{l:List b}{f:b->List b->Bool}(h:u1 l f=true):∃a r,l=a::r/\f a r=true:=by
 cases l with
 |nil=>exact dg h
 |cons a r=>exact⟨a,r,rfl,h⟩
abbrev om{α:Type}(o:Option α)(f:α->Bool):Bool:=match o with
 |some x=>f x
 |none=>false
def om_of{a:Type}{o:Option a}{f:a->Bool}(h:om o f=true):∃x,o=some x/\f x=true:=by
 cases o with
 |none=>exact dg h
 |some x=>exact⟨x,rfl,h⟩
def nil_of{a:Type}{l:List a}(h:l.isEmpty=true):l=[]:=List.isEmpty_iff.mp h
abbrev dFF(f g:Str)(sc:Scope)(e:Expr)(k:Expr->Bool):Bool:=dFn e fun b es=>l1 es fun x=>dFn x fun c es=>l1 es fun a=>decide (b=f)&&decide (c=g)&&kP sc f&&kP sc g&&k a
def dFF_of{f g:Str}{k}(h:dFF f g sc e k=true):∃p a q r t,e=.Call (.Name f p) [.Call (.Name g q) [a] [] r] [] t/\kP sc f=true/\kP sc g=true/\k a=true:=by obtain⟨_,p,_,t,rfl,i⟩:=kA h;obtain⟨x,rfl,j⟩:=lg i;obtain⟨_,q,_,r,rfl,l⟩:=kA j;obtain⟨a,rfl,m⟩:=lg l;obtain⟨b,c,d,o,n⟩:=and5 m;cases of_decide_eq_true b;cases of_decide_eq_true c;exact⟨p,a,q,r,t,rfl,d,o,n⟩
mutual
noncomputable def d5(sc:Scope)(N:List Str):CE->Expr->Bool
 |.var i,e=>dNm e fun x _=>N[i]? ==some x&&C2 sc x&&uG x
 |.con c,e=>dCn e fun c'=>okCon c&&decide (c=c')
 |.glo x,e=>dNm e fun y _=>decide (x=y)&&kP sc x&&uG x
 |.ty t,e=>dNm e fun y _=>decide (t.name=y)&&kP sc y
 |.bin j a b,e=>dBi e fun d w h=>decide (j=w)&&d5 sc N a d&&d5 sc N b h
 |.cmp j a b,e=>dC1 e fun d w h=>decide (j=w)&&d5 sc N a d&&d5 sc N b h
 |.chain o1 o2 a b c,e=>dCm e fun d os es=>l2 os fun p q=>l2 es fun h c'=>decide (o1=p)&&decide (o2=q)&& !isSet c'&&(d5 sc N a d&&d5 sc N b h&&d5 sc N c c')
 |.not a,e=>dUn e fun j d=>decide (j=.Not)&&d5 sc N a d
 |.and a b,e=>dBo e fun j d x=>decide (j=.And)&&d5 sc N a d&&d5 sc N b x
 |.or a b,e=>dBo e fun j d x=>decide (j=.Or)&&d5 sc N a d&&d5 sc N b x
 |.ite c a b,e=>dIf e fun c' d h=>d5 sc N c c'&&d5 sc N a d&&d5 sc N b h
 |.idx a i,e=>dSu e fun d r=> !A6 r&&d5 sc N a d&&d5 sc N i r
 |.cut a lo hi,e=>dSu e fun d s=>dSl s fun l u t=>t.isNone&&d5 sc N a d&&(chkO sc N lo l&&chkO sc N hi u)
 |.tup es,e=>dTu e fun es'=>m6 sc N es es'
 |.lst es,e=>dLi e fun es'=>m6 sc N es es'
 |.call f es,e=>dFn e fun k es'=>decide (f=k)&&kP sc f&&uG f&&m6 sc N es es'
 |.bfn b es,e=>dFn e fun k es'=>decide (b.name=k)&&kP sc k&& !es'.isEmpty&&m6 sc N es es'
 |.meth1 m o a,e=>dMt m.name e fun o' es=>l1 es fun d=>baseOk o'&&d5 sc N o o'&&d5 sc N a d
 |.idxd a i,e=>dSu e fun d r=> !A6 r&&d5 sc N a d&&d5 sc N i r
 |.dicT,e=>dDi e fun ks vs=>ks.isEmpty&&vs.isEmpty
 |.setd o a b,e=>dMt (bu "setdefault") e fun o' es=>l2 es fun d h=>baseOk o'&&d5 sc N o o'&&(d5 sc N a d&&d5 sc N b h)
 |.base x es,e=>dMt (bu "__init__") e fun o es'=>dNm o fun B _=>decide (x=B)&&kP sc x&&uG x&&(decide (es.len<29)&& !es'.isEmpty&&m6 sc N es es')
 |.fld a f,e=>dAt e fun v k _=>dNm v fun n np=>decide (f=k)&&d5 sc N a (.Name n np)
 |.sortset a,e=>dFF "sorted" "set" sc e (d5 sc N a)
 |.comp own fr tg it cond elt,e=>dLc e fun z A sc' _=>l1 A fun g=>decide (g.is_async=0)&&AU sc sc' N own fr&& !isSet g.iter&&(chkI sc N it g.iter g.target&&xV sc' (namesOf N own fr) false tg g.target&&chkC sc' (namesOf N own fr) cond g.ifs&&d5 sc' (namesOf N own fr) elt z)
noncomputable def m6(sc:Scope)(N:List Str):CL->List Expr->Bool
 |.nil,es=>es.isEmpty
 |.cons e r,es=>u1 es fun a b=>d5 sc N e a&&m6 sc N r b
noncomputable def chkO(sc:Scope)(N:List Str):CO->Option Expr->Bool
 |.no,o=>o.isNone
 |.yes e,o=>om o (d5 sc N e)
noncomputable def chkC(sc:Scope)(N:List Str):CO->List Expr->Bool
 |.no,o=>o.isEmpty
 |.yes e,o=>l1 o (d5 sc N e)
noncomputable def xV(sc:Scope)(N:List Str)(all:Bool):CG->Expr->Bool
 |.name i,e=>dNm e fun x _=>N[i]? ==some x&&(sc.names.lookup x==some .local||sc.names.lookup x==some .cell)
 |.tup gs,e=>dTu e fun es=>xU sc N all gs es
noncomputable def xU(sc:Scope)(N:List Str)(all:Bool):CGs->List Expr->Bool
 |.nil,es=>es.isEmpty
 |.cons g gs,es=>u1 es fun a es'=>xV sc N all g a&&xU sc N all gs es'
noncomputable def chkI(sc:Scope)(N:List Str):CI->Expr->Expr->Bool
 |.seq e,c,_=>d5 sc N e c
 |.lseq e,c,_=>d5 sc N e c
 |.range1 e,x,_=>dFn x fun f es=>l1 es fun c=>decide (f="range")&&kP sc f&&d5 sc N e c
 |.range2 a b,x,_=>dFn x fun f es=>l2 es fun d g=>decide (f="range")&&kP sc f&&d5 sc N a d&&d5 sc N b g
 |.enum e,x,tg'=>dFn x fun f es=>l1 es fun c=>decide (f="enumerate")&&kP sc f&&d5 sc N e c&&qV tg'
 |.enumt e,x,tg'=>dFn x fun f es=>l1 es fun c=>decide (f="enumerate")&&kP sc f&&d5 sc N e c&&qV tg'
end
mutual
noncomputable def GF:CE->Bool
 |.var _=>true
 |.lst es=>LF es
 |.fld a _=>GF a
 |_=>false
noncomputable def LF:CL->Bool
 |.nil=>true
 |.cons e es=>GF e&&LF es
end
mutual
noncomputable def liteS:CS->Bool
 |.asg (.name _) e=>GF e
 |_=>false
noncomputable def LG:CB->Bool
 |.nil=>true
 |.hole=>false
 |.cons s r=>liteS s&&LG r
end
abbrev isCe:CE->Bool
 |.comp .. =>true
 |_=>false
mutual
noncomputable def chkS(sc:Scope)(N:List Str):CS->Stmt->Bool
 |.asg g e,s=>dAs s fun k h _=>xV sc N true g k&&d5 sc N e h&& !xB h&& !(qV k&&qV h)
 |.asgc i e,s=>isCe e&&dAs s fun g h _=>dNm g fun x p=>dLc h fun a b c d=>N[i]? ==some x&&(sc.names.lookup x==some .local||sc.names.lookup x==some .cell)&&d5 sc N e (.ListComp a b c d)&&
   (sc.names.lookup x==some .cell||(decide (p.line=d.line)&& !(c.names.any fun y=>decide (y.1=x)&&(decide (y.2=.local)||decide (y.2=.cell)))))
 |.expr e,s=>dEx s fun h=>d5 sc N e h&& !xB h
 |.iff c a b,s=>dIs s fun c' r j=>d5 sc N c c'&&rj sc N a r&&rj sc N b j
 |.whl c b,s=>dWh s fun c' j=>d5 sc N c c'&&rj sc N b j
 |.forr g it b,s=>dFo s fun k m j=>xV sc N true g k&&chkI sc N it m k&& !isSet m&&rj sc N b j
 |.ret e,s=>dRt s fun o=>om o (d5 sc N e)
 |.retN,s=>dRt s fun o=>o.isNone
 |.raisX x es,s=>dRa s fun l es'=>decide (x=l)&&kP sc x&&uG x&&(!es'.isEmpty&&m6 sc N es es')
 |.fldX o f e,s=>dAs s fun g h _=>dAt g fun o' t _=>decide (f=t)&&d5 sc N o o'&&d5 sc N e h&& !xB h
 |.tryc x i b su,s=>dTr s fun j l n q=>decide (x=l)&&kP sc x&&uG x&&(N[i]? ==some n&&sc.names.lookup n==some .local&&LG su)&&(!q.isEmpty&&rj sc N su q&&rj sc N b j)
 |.pass,s=>match s with
  |.Pass _=>true
  |_=>false
 |.brk,s=>match s with
  |.Break _=>true
  |_=>false
 |.cont,s=>match s with
  |.Continue _=>true
  |_=>false
noncomputable def rj(sc:Scope)(N:List Str):CB->List Stmt->Bool
 |.hole,_=>true
 |.nil,ss=>ss.isEmpty
 |.cons s r,ss=>u1 ss fun s' a=>chkS sc N s s'&&rj sc N r a
end
structure Gam where
 val:Str->Option V
 fn:Str->Nat->Option (Sp×List V)
 ini:Str->Nat->Option (Addr×Sp×List V)
 dic:Addr->Option (List (Key×V))
 mak:Str->Nat->Option (Addr×Sp×List V)
 mth:Str->Nat->Option (Addr×Sp×List V)
def E9(K:ah)(tl:TE):TI:=fun σ H R=>tl σ H fun x H1=>(∃a,x=.ref a/\(∃xs,SqL K H1 a xs)/\R (Itl K a) H1)\/(∃a,x=.ref a/\(∃xs,SqT K H1 a xs)/\R (Itt K a) H1)\/(∃z,x=.str z/\R (Its z) H1)
def El(K:ah)(t:TE):TT:=fun σ H Q=>t σ H fun x H1=>∃k,TruV K x H1 k/\Q k H1
mutual
noncomputable def wpE(G:Gam)(K:ah)(E:XS):CE->TE
 |.var i=>rM i
 |.con c=>tC (cv c)
 |.glo x=>fun σ H Q=>∃v,G.val x=some v/\Q v H
 |.ty t=>tC (.ty t.t)
 |.bin op a b=>tOp (rS K op) (wpE G K E a) (wpE G K E b)
 |.cmp op a b=>tOp (fM K op) (wpE G K E a) (wpE G K E b)
 |.chain o1 o2 a b c=>wq (fM K o1) (fM K o2) (wpE G K E a) (wpE G K E b) (wpE G K E c)
 |.not a=>J1 (wpE G K E a)
 |.and a b=>J6 (wpE G K E a) (wpE G K E b)
 |.or a b=>tOrV (wpE G K E a) (wpE G K E b)
 |.ite c a b=>tIf (wpT G K E c) (wpE G K E a) (wpE G K E b)
 |.idx a i=>tOp (rIx K) (wpE G K E a) (wpE G K E i)
 |.cut a lo hi=>tSl (rSlc K) (wpE G K E a) (wpO G K E lo) (wpO G K E hi)
 |.tup es=>tTup (wpL G K E es)
 |.lst es=>tLst (wpL G K E es)
 |.call f es=>fun σ H Q=>∃sp al,G.fn f es.len=some (sp,al)/\B6 sp al (E σ) (wpL G K E es) σ H Q
 |.bfn b es=>tCB (rBf K b) (wpL G K E es)
 |.meth1 m o a=>tBM K "list" (rMm m) (wpE G K E o) (lS (wpE G K E a) vi)
 |.idxd a i=>tOp (rIxD K) (wpE G K E a) (wpE G K E i)
 |.dicT=>J3
 |.setd o a b=>tBM K "dict" Gc (wpE G K E o) (lS (wpE G K E a) (lS (wpE G K E b) vi))
 |.base x es=>fun σ H Q=>∃B,G.val x=some (.ref B)/\tBase K B (wpL G K E es) σ H Q
 |.fld a f=>fun σ H Q=>wpE G K E a σ H fun x H1=>rFld K f x H1 Q
 |.sortset a=>B4 K (lS (wpE G K E a) vi)
 |.comp own fr tg it cond elt=>wo (wpI G K E it) (wpG G K N0 tg) (wpC G K N0 cond) (wpE G K N0 elt) (mV own fr)
noncomputable def wpT(G:Gam)(K:ah)(E:XS):CE->TT
 |.cmp op a b=>yU (tOp (fM K op) (wpE G K E a) (wpE G K E b))
 |.chain o1 o2 a b c=>yU (wq (fM K o1) (fM K o2) (wpE G K E a) (wpE G K E b) (wpE G K E c))
 |.not a=>tNot (wpT G K E a)
 |.and a b=>tAnd (wpT G K E a) (wpT G K E b)
 |.or a b=>tOr (wpT G K E a) (wpT G K E b)
 |.ite _ _ _=>fun _ _ _=>False
 |.var i=>El K (rM i)
 |.con c=>El K (tC (cv c))
 |.glo x=>El K (fun σ H Q=>∃v,G.val x=some v/\Q v H)
 |.idx a i=>El K (tOp (rIx K) (wpE G K E a) (wpE G K E i))
 |.call f es=>El K (fun σ H Q=>∃sp al,G.fn f es.len=some (sp,al)/\B6 sp al (E σ) (wpL G K E es) σ H Q)
 |.bfn b es=>El K (tCB (rBf K b) (wpL G K E es))
 |_=>fun _ _ _=>False
noncomputable def wpL(G:Gam)(K:ah)(E:XS):CL->TA
 |.nil=>vi
 |.cons e es=>lS (wpE G K E e) (wpL G K E es)
noncomputable def wpO(G:Gam)(K:ah)(E:XS):CO->TO
 |.no=>Ae
 |.yes e=>J0 (wpE G K E e)
noncomputable def wpC(G:Gam)(K:ah)(E:XS):CO->TT
 |.no=>tYes
 |.yes e=>wpT G K E e
noncomputable def wpG(G:Gam)(K:ah)(E:XS):CG->TG
 |.name i=>nC i
 |.tup gs=>gTup K gs.len (wpGs G K E gs)
noncomputable def wpGs(G:Gam)(K:ah)(E:XS):CGs->TGs
 |.nil=>gNil
 |.cons g gs=>Mh (wpG G K E g) (wpGs G K E gs)
noncomputable def wpI(G:Gam)(K:ah)(E:XS):CI->TI
 |.seq e=>E9 K (wpE G K E e)
 |.lseq e=>Ma K (wpE G K E e)
 |.range1 e=>L9 (lS (wpE G K E e) vi)
 |.range2 a b=>L8 (lS (wpE G K E a) (lS (wpE G K E b) vi))
 |.enum e=>Mb K (wpE G K E e)
 |.enumt e=>E8 K (lS (wpE G K E e) vi)
end
mutual
noncomputable def wpS(G:Gam)(K:ah)(E:XS):CS->TS
 |.asg g e=>Af (wpE G K E e) (wpG G K E g)
 |.asgc i e=>Af (wpE G K E e) (nC i)
 |.expr e=>J2 (wpE G K E e)
 |.iff c a b=>tIfS (wpT G K E c) (wpB G K E a) (wpB G K E b)
 |.whl c b=>JY (wpT G K E c) (wpB G K E b)
 |.forr g it b=>tFor (wpI G K E it) (wpG G K E g) (wpB G K E b)
 |.ret e=>tRet (wpE G K E e)
 |.retN=>JZ
 |.raisX x es=>fun D σ H=>∃C sp al,G.ini x es.len=some (C,sp,al)/\Kn C sp al E (wpL G K E es) D σ H
 |.fldX o f e=>sFldX K (wpE G K E o) (wpE G K E e) f
 |.tryc x i b su=>fun D σ H=>∃C,G.val x=some (.ref C)/\wpB G K (t9 K C i (wpB G K N0 su) D) b D σ H
 |.pass=>B5
 |.brk=>J4
 |.cont=>tCont
noncomputable def wpB(G:Gam)(K:ah)(E:XS):CB->TS
 |.nil=>B5
 |.hole=>fun _ _ _=>False
 |.cons s r=>yx (wpS G K E s) (wpB G K E r)
end
noncomputable abbrev Sat(G:Gam)(K:ah)(sp:Sp)(c:CB)(N:List Str):Prop:=∀vs H Q E,sp vs H Q E->wpB G K (fun _=>E) c {nx:=fun _ H'=>Q .non H',rt:=Q} (L2.start N vs) H
abbrev ju:List Str:=["len","isinstance","all","any","list","tuple","int","bool","str","dict","range","enumerate","sorted","set","min","max","ValueError","sum","zip","reversed"]
structure Ok(CX:CXT)(G:Gam)(E:XS)(sc:Scope)(N:List Str)(all:Bool)(X:Cx):Prop where
 names:X.N=N
 top:all=true->X.stack=X.env::X.outer/\X.env.frame=some X.env.locals/\X.ex=[]
 nd:N.Nodup
 loc:∀x,sc.names.lookup x=some .local->X.env.scope.names.lookup x=some .local
 cel:∀x,sc.names.lookup x=some .cell->X.env.scope.names.lookup x=some .cell
 fre:∀x,sc.names.lookup x=some .free->X.env.scope.names.lookup x=some .cell\/X.env.scope.names.lookup x=some .free
 glo:∀x,sc.names.lookup x=some .globalImplicit->X.env.scope.names.lookup x=some .globalImplicit
 all:all=true->∀x,X.fn x=true
 own:∀x,sc.names.lookup x=some .cell->X.fn x=true
 calm:X.calm=true
 hu:X.A.units+50<cLine
 val:∀x v,G.val x=some v->∃u,X.mg x=some u/\RelV v u
 fn:∀x n sp al,G.fn x n=some (sp,al)->∃f fd ps ds k,jx X.prog X.w X.K X.mg X.base CX k f fd ps sp/\jf k X.A/\X.mg x=some (.ref f)/\cP X.K (.ref f)=true/\Binds X.K fd ps ds/\bM al ds
 ini:∀x n C sp al,G.ini x n=some (C,sp,al)->∃f fd ps ds k,MkX X.K C f/\jx X.prog X.w X.K X.mg X.base CX k f fd ps sp/\jf (k+1) X.A/\X.mg x=some (.ref C)/\Binds X.K fd ps ds/\bM al ds
 dic:∀a kvs,G.dic a=some kvs->DkIn X.prog X.w X.K a kvs
 mak:∀x n C sp al,G.mak x n=some (C,sp,al)->∃f fd ps ds k,Mk X.K C f/\jx X.prog X.w X.K X.mg X.base CX k f fd ps sp/\jf (k+1) X.A/\X.mg x=some (.ref C)/\Binds X.K fd ps ds/\bM al ds
 mth:∀m n C sp al,G.mth m n=some (C,sp,al)->∃f fd ps ds k,Cls X.K C/\Meth X.K C m f/\jx X.prog X.w X.K X.mg X.base CX k f fd ps sp/\jf k X.A/\Binds X.K fd ps ds/\bM al ds
 blt:∀x∈ju,X.mg x=none
 px:PassesOwn (model X.prog X.w) X.A X.env X.xe
 pass:z6 CX X E
 made:MadeS X E
 madeX:Fz X E
 cx:CX=CXx X.prog X.w
def Bf.mem:∀b:Bf,b.name∈ju:=by intro b;cases b<;>decide+kernel
def Ty.mem:∀b:Ty,b.name∈ju:=by intro b;cases b<;>decide+kernel
section
variable {CX:CXT}{G:Gam}{E:XS}{N:List Str}{all:Bool}
def Ok.vis(o:Ok CX G E sc N all X)(h:C2 sc x=true):Vis X.env.scope x:=by
 unfold C2 at h;rw[cu,cu,beq_iff_eq,beq_iff_eq,beq_iff_eq]at h;rcases h with(h|h) |h;·exact .inl (o.loc x h)
 ·exact .inr (.inl (o.cel x h))
 ·rcases o.fre x h with q|q;·exact .inr (.inl q)
  ·exact .inr (.inr q)
def Ok.gl(o:Ok CX G E sc N all X)(h:kP sc x=true):Gl X x:=by unfold kP at h;rw[beq_iff_eq]at h;exact o.glo x h
def js(h:uG x=true):(x==("__debug__":Str))=false/\(x==("__classdict__":Str))=false:=by unfold uG at h;rw[aF,beq_iff_eq,beq_iff_eq]at h;exact h
def rBin_ok:∀a,OpR X (fQ a) (rS X.K a)
 |.Add=>op_add.or (EM.or (op_cat.or (r':=fun _ _ _ _=>False) fun _ _ _ _ _ _ _ _ _ _ _ _ h=>h.elim))
 |.Sub=>op_sub
 |.Mult=>op_mul.or (op_rep.or op_repS)
 |.Mod=>op_mod
 |.FloorDiv=>op_fdiv
 |.Pow=>op_pow
 |.RShift=>op_shr
 |.MatMult=>fun _ _ _ _ _ _ _ _ _ _ _ _ h=>h.elim
 |.Div=>fun _ _ _ _ _ _ _ _ _ _ _ _ h=>h.elim
 |.LShift=>op_shl
 |.BitOr=>fun _ _ _ _ _ _ _ _ _ _ _ _ h=>h.elim
 |.BitXor=>op_xor
 |.BitAnd=>op_and
def pC(b:X.A.units+50<cLine):∀a,OpR X (cY a) (fM X.K a)
 |.Eq=>op_eqD (by lia)
 |.NotEq=>op_neD (by lia)
 |.Lt=>op_lt
 |.LtE=>op_le
 |.Gt=>op_gt
 |.GtE=>op_ge
 |.Is=>op_isN
 |.IsNot=>op_notN
 |.In=>(Ik.or (op_inD (by lia))).or Il
 |.NotIn=>(AR.or (Ij (by lia))).or AS
def rSlc_ok:SlR X (rSlc X.K):=sl_list.or sl_str
def rBf_ok(a:X.calm=true)(c:X.A.units+50<cLine):∀b,fV X (Bf.val b) (rBf X.K b)
 |.len=>Br.or (Bq.or Q.yK)
 |.isinstance=>Dz.or Bu
 |.all=>ML a
 |.list=>Bp
 |.tuple=>yJ
 |.set=>Q.IX a
 |.min=>ui a
 |.int=>Jb
 |.lend=>Dy
 |.sortl=>Q.Bo
 |.sortt=>Q.Bn (by lia)
 |.minl=>Q.IY a (by lia)
 |.maxl=>Q.IZ a (by lia)
 |.isx=>Bs
def Mm.slot:∀m:Mm,Slot "list" m.name m.id
 |.append=>PySem.F.slot_list_append|.clear=>PySem.F.slot_list_clear|.reverse=>PySem.F.slot_list_reverse|.pop=>PySem.F.slot_list_pop|.index=>PySem.F.slot_list_index|.extend=>PySem.F.slot_list_extend
def Mm.ty:∀m:Mm,typeOf (.builtin m.id)=pure (.type "method_descriptor")
 |.append=>PySem.F.type_list_append|.clear=>PySem.F.type_list_clear|.reverse=>PySem.F.type_list_reverse|.pop=>PySem.F.type_list_pop|.index=>PySem.F.type_list_index|.extend=>PySem.F.type_list_extend
def rMm_ok:∀m:Mm,MtR X m.id (rMm m)
 |.append=>Iy|.clear=>Ls|.reverse=>ER|.pop=>MtR.or (r:=fun _ _ _ _=>False) (fun _ _ _ _ _ _ _ _ _ _ _ _ h=>h.elim) Lr|.index=>fun _ _ _ _ _ _ _ _ _ _ _ _ h=>h.elim|.extend=>Iw
def Hi(h:baseOk o=true)(nm:Str)(env:Env)(t:Sem Value):M1 o nm env t=t:=by
 cases o<;>first
  |rfl
  |exact dg h
  | (rename_i f es ks p;cases f<;>first
   |rfl
   |exact dg h)
def cJ{c:CE}(h:d5 sc N c e=true)(a:List Expr)(env:Env):bB (e::a) env=(false,eval e env)::bB a env:=by
 cases e<;>first
  |rfl
  | (cases c<;>exact dg h)
def kb{c:CE}{r:CL}{e:List Expr}(h:m6 sc N (.cons c r) e=true):∃b d,e=b::d/\d5 sc N c b=true/\m6 sc N r d=true:=
 let⟨b,d,a,k⟩:=FN h
 ⟨b,d,a,an k⟩
def me{a:List Expr}(h:m6 sc N .nil a=true):a=[]:=nil_of h
theorem ri:∀{l:CL}{es:List Expr},m6 sc N l es=true->∀(env:Env)(pos:Pos),(backTo pos (bB es env)).any (·.1)=false
 |.nil,es,h,env,pos=>by rw[me h];rfl
 |.cons c r,es,h,env,pos=>by obtain⟨e,d,rfl,a,b⟩:=kb h;rw[cJ a];show(false||(backTo pos (bB d env)).any (·.1))=false;rw[ri b];rfl
def FT{l:CL}{a:List Expr}(h:m6 sc N l a=true)(g:(!a.isEmpty)=true):∃e es',a=e::es'/\∀(env:Env)(pos:Pos),bB (e::es') env=(false,eval e env)::bB es' env/\(backTo pos (bB es' env)).any (·.1)=false:=by
 cases l with
 |nil=>obtain rfl:=me h;exact dg g
 |cons c r=>obtain⟨b,i,rfl,d,f⟩:=kb h;exact⟨b,i,rfl,fun env pos=>⟨cJ d _ _,ri f _ _⟩⟩
theorem Dv:∀{l:CL}{es:List Expr},m6 sc N l es=true->es.length=l.len
 |.nil,es,h=>by rw[me h];rfl
 |.cons c r,es,h=>by obtain⟨b,e,rfl,d,a⟩:=kb h;rw[bC,Dv a,CL.len]
def AW(h:isSet e=false)(env:Env):∀x,jX e env x=pure x:=by
 intro x;cases e<;>first
  |rfl
  | (exact Lk h)
def pF(h:isSet e=false)(op:CmpOp):M0 op e=false:=by
 cases e<;>first
  |rfl
  | (exact Lk h)
def Ci(h:A6 e=false):Hk e:=by
 intro o i;cases e<;>first
  |rfl
  | (exact Lk h)
def vL(h:xB e=false)(t:Option Expr)(l:Nat)(env:Env):rB e t l env=pure false:=by
 cases e<;>first
  |rfl
  | (exact Lk h)
def pi_any{l:Expr}{k:TE}(m:PE X l k):PI X tg l (E9 X.K k):=by
 intro r s y H R I h;refine thn (m r s y H _ I h) fun v c ⟨x,g,d,i,q1⟩=>?_;have key:∀{A:TE}{B:TI},True:=fun{_ _}=>trivial;rcases q1 with q1|q1|q1
 ·obtain⟨a,e,⟨w,hq⟩,q⟩:=q1;subst e;cases i;obtain⟨j,u,p,n⟩:=d.list hq;refine pM p.isList ?_;refine⟨c.heap.objs.size,[c.heap.objs.size],_,_,g,rfl,d.kept (t':=c.toks) fun b o e=>ag _ e,yS a _,⟨_,ay _ rfl,rfl,rfl⟩,fun b f=>?_,q⟩;have e:b=c.heap.objs.size:=by simpa using f
  subst e;exact d.Bb (aw _) (d.hok.fresh (aw _))
 ·obtain⟨a,e,⟨w,hq⟩,q⟩:=q1;subst e;cases i;obtain⟨j,u,p,n⟩:=d.tuple hq;refine jy (show c.heap.IsTuple a j.toArray from p) ?_;refine⟨c.heap.objs.size,[c.heap.objs.size],_,_,g,rfl,d.kept (t':=c.toks) fun b o e=>ag _ e,Ei a _,⟨_,ay _ rfl,rfl,rfl⟩,fun b f=>?_,q⟩;have e:b=c.heap.objs.size:=by simpa using f
  subst e;exact d.Bb (aw _) (d.hok.fresh (aw _))
 ·obtain⟨z,e,q⟩:=q1;subst e;obtain⟨t,rfl⟩:=i;refine wpAny_pyIter_strU ?_;refine⟨c.heap.objs.size,[c.heap.objs.size],_,_,g,rfl,d.kept (t':=c.toks) fun b o e=>ag _ e,JS z _ t,⟨_,ay _ rfl,rfl,rfl⟩,fun b f=>?_,q⟩;have e:b=c.heap.objs.size:=by simpa using f
  subst e;exact d.Bb (aw _) (d.hok.fresh (aw _))
end
set_option maxHeartbeats 4000000
section
variable {CX:CXT}{G:Gam}
structure pK(sc sc':Scope)(N own:List Str)(fr:List Nat):Prop where
 kind:sc'.kind=.function
 cellk:∀y∈sc'.names,y.2=.cell->sc'.names.lookup y.1=some .cell
 own1:∀y∈sc'.names,y.2=.local->sc'.names.lookup y.1=some .local
 free:∀y∈sc'.names,y.2=.free->sc.names.lookup y.1=some .cell\/sc.names.lookup y.1=some .free
 nd:(namesOf N own fr).Nodup
 fr:∀j∈fr,j<N.length/\sc'.names.lookup (N.getD j "")=some .free
 own2:∀x∈own,sc'.names.lookup x=some .local\/sc'.names.lookup x=some .cell
def wH{own:List Str}{fr:List Nat}(h:AU sc sc' N own fr=true):pK sc sc' N own fr:=by unfold AU at h;simp only[aF,bg,decide_eq_true_eq,beq_iff_eq,cu]at h;obtain⟨⟨⟨⟨⟨⟨a,b⟩,c⟩,d⟩,e⟩,f⟩,g⟩:=h;exact⟨a,b,c,d,e,f,g⟩
def pK.comp{E:XS}{own:List Str}{fr:List Nat}{all:Bool}(S:pK sc sc' N own fr)(o:Ok CX G E sc N all X):pL X (namesOf N own fr) sc':=
 ⟨S.kind,S.cellk,S.own1,fun y a hf=>by
  rcases S.free y a hf with q|q;·exact .inl (o.cel _ q)
  ·exact o.fre _ q⟩
def pK.mkOk{E:XS}{own:List Str}{fr:List Nat}{all:Bool}(S:pK sc sc' N own fr)(o:Ok CX G E sc N all X):MkOk X (namesOf N own fr) sc' (mV own fr):=by
 intro e g;refine⟨by simp[mV,namesOf],fun i x v b a=>?_⟩;unfold mV at a;unfold namesOf at b;by_cases hi:i<own.length
 ·rw[cq (by simpa using hi),av]at a;cases q:own[i]? with
  |none=>rw[q]at a;cases a
  |some z=>rw[q]at a;cases a
 ·rw[bO (by simpa using hi),av,ai]at a;rw[bO (by simpa using hi),av]at b;cases q:fr[i-own.length]? with
  |none=>rw[q]at a;cases a
  |some j=>
   rw[q]at b a;have d:N.getD j ""=x:=bo b;have c:(e[j]?).getD none=some v:=bo a;obtain⟨f,hf⟩:=S.fr j (aG q);refine⟨by rw[<-d];exact hf,j,?_,?_⟩;·rw[o.names,<-d,aa,ae f];rfl
   ·cases w:e[j]? with
    |none=>rw[w]at c;cases c
    |some z=>rw[w]at c;exact congrArg some c
noncomputable abbrev HX(CX:CXT):Prop:=∀o H s e s',CX o H s E0 e s'->False
def Ok.comp{E:XS}{own:List Str}{fr:List Nat}{all:Bool}(c:HX CX)(S:pK sc sc' N own fr)(o:Ok CX G E sc N all X)(C:Addr)(d:Shared)(a:Hp)(b:List Addr):
  Ok CX G N0 sc' (namesOf N own fr) false (d0 X (namesOf N own fr) sc' C d a b) where
 names:=rfl
 nd:=S.nd
 loc:=fun x h=>lookup_relabel_local (env:=X.env) h
 cel:=fun x h=>gG (env:=X.env) h (by decide)
 own:=fun x h=>b8.mpr ⟨(x,.cell),bA h,by simp⟩
 fre:=fun x h=>(gY (env:=X.env) h).symm
 glo:=fun x h=>gG (env:=X.env) h (by decide)
 all:=fun h=>absurd h (by decide)
 calm:=o.calm
 hu:=o.hu
 val:=o.val
 fn:=o.fn
 ini:=o.ini
 dic:=o.dic
 mak:=o.mak
 mth:=o.mth
 blt:=o.blt
 px:=PassesOwn.never
 pass:=fun _ _ _ _ _ _ _ h=>(c _ _ _ _ _ h).elim
 made:=fun _ _ _ _ _ _ _ _ _ _ h=>h.elim
 madeX:=fun _ _ _ _ _ _ _ _ _ h=>h.elim
 cx:=o.cx
 top:=fun h=>absurd h (by decide)
def rW{all:Bool}{g:CG}(h:xV sc N all g e=true)(a:List Expr)(env:Env):iP (e::a) env=(false,assign e env)::iP a env:=by
 cases e<;>first
  |rfl
  | (cases g<;>exact dg h)
def xT{all:Bool}{g:CG}{r:CGs}{d:List Expr}(h:xU sc N all (.cons g r) d=true):∃b c,d=b::c/\xV sc N all g b=true/\xU sc N all r c=true:=
 let⟨b,c,a,k⟩:=FN h
 ⟨b,c,a,an k⟩
def zH{all:Bool}{a:List Expr}(h:xU sc N all .nil a=true):a=[]:=nil_of h
theorem uT{all:Bool}:∀{c:CGs}{es:List Expr},xU sc N all c es=true->∀env,(iP es env).length=c.len/\(iP es env).findIdx? (·.1)=none
 |.nil,es,h,env=>by rw[zH h];exact⟨rfl,rfl⟩
 |.cons g r,es,h,env=>by obtain⟨f,i,rfl,d,e⟩:=xT h;obtain⟨a,b⟩:=uT e env;rw[rW d];refine⟨by rw[bC,a,CGs.len],?_⟩;rw[List.findIdx?_cons];simp[b]
end
section
variable {CX:CXT}{G:Gam}
noncomputable abbrev IHE(CX:CXT)(G:Gam)(c:CE):Prop:=∀(e:Expr){E:XS}{sc:Scope}{N:List Str}{all:Bool}{X:Cx},Ok CX G E sc N all X->d5 sc N c e=true->PE X e (wpE G X.K E c)
noncomputable abbrev IHT(CX:CXT)(G:Gam)(c:CE):Prop:=∀(e:Expr){E:XS}{sc:Scope}{N:List Str}{all:Bool}{X:Cx},Ok CX G E sc N all X->d5 sc N c e=true->PT X e (wpT G X.K E c)
abbrev isBo:Expr->Bool
 |.BoolOp .. =>true
 |_=>false
def isBo_of(h:isBo e=true):∃a es p,e=.BoolOp a es p:=by
 cases e<;>first
  |exact⟨_,_,_,rfl⟩
  |exact dg h
noncomputable abbrev IHW(CX:CXT)(G:Gam)(c:CE):Prop:=∀(e:Expr){E:XS}{sc:Scope}{N:List Str}{all:Bool}{X:Cx},Ok CX G E sc N all X->d5 sc N c e=true->isBo e=true->PW X e (wpT G X.K E c)
noncomputable abbrev IHL(CX:CXT)(G:Gam)(c:CL):Prop:=∀(es:List Expr){E:XS}{sc:Scope}{N:List Str}{all:Bool}{X:Cx},Ok CX G E sc N all X->m6 sc N c es=true->PA X es (wpL G X.K E c)
noncomputable abbrev IHO(CX:CXT)(G:Gam)(c:CO):Prop:=∀(e:Option Expr){E:XS}{sc:Scope}{N:List Str}{all:Bool}{X:Cx},Ok CX G E sc N all X->chkO sc N c e=true->PO X e (wpO G X.K E c)
noncomputable abbrev IHC(CX:CXT)(G:Gam)(c:CO):Prop:=∀(es:List Expr){E:XS}{sc:Scope}{N:List Str}{all:Bool}{X:Cx},Ok CX G E sc N all X->chkC sc N c es=true->PTs X es (wpC G X.K E c)
noncomputable abbrev IHG(CX:CXT)(G:Gam)(c:CG):Prop:=∀(e:Expr){E:XS}{sc:Scope}{N:List Str}{all:Bool}{X:Cx},Ok CX G E sc N all X->xV sc N all c e=true->PG X e (wpG G X.K E c)
noncomputable abbrev MW(CX:CXT)(G:Gam)(c:CGs):Prop:=∀(es:List Expr){E:XS}{sc:Scope}{N:List Str}{all:Bool}{X:Cx},Ok CX G E sc N all X->xU sc N all c es=true->PGs X es (wpGs G X.K E c)
noncomputable abbrev IHI(CX:CXT)(G:Gam)(c:CI):Prop:=∀(e tg:Expr){E:XS}{sc:Scope}{N:List Str}{all:Bool}{X:Cx},Ok CX G E sc N all X->chkI sc N c e tg=true->PI X tg e (wpI G X.K E c)
def Ks:IHE CX G (.var i):=by intro e E g N all X o h;obtain⟨x,p,rfl,k⟩:=iV h;obtain⟨c,d,f⟩:=jv k;obtain⟨a,b⟩:=js f;exact K1 (by rw[o.names];exact beq_iff_eq.mp c) (o.vis d) a b
def Kw{c:Const}:IHE CX G (.con c):=by
  intro e E g N all X o h;obtain⟨f,j,p,rfl,k⟩:=MD h;obtain⟨a,d⟩:=an k;cases of_decide_eq_true d;cases c with
  |none=>exact pe_non
  |bool b=>exact pe_bl
  |int i=>exact pe_int
  |str x=>exact pe_str
  |_=>exact dg a
def Kv:IHE CX G (.glo x):=by intro e E l N all X o h;obtain⟨y,p,rfl,k⟩:=iV h;obtain⟨a,b,c⟩:=jv k;cases of_decide_eq_true a;intro i s j H Q I g;obtain⟨v,f,q⟩:=g;obtain⟨u,d,r⟩:=o.val _ _ f;exact pe_glob (o.gl b) d r (js c).1 i s j H Q I q
def sE_ty{t:Ty}:IHE CX G (.ty t):=by intro e E c N all X o h;obtain⟨y,p,rfl,k⟩:=iV h;obtain⟨a,b⟩:=an k;cases of_decide_eq_true a;exact pe_bltn (o.gl b) (o.blt _ t.mem) t.boot rfl t.plain.1 t.plain.2
def sE_bin{op:Operator}{a b:CE}(g:IHE CX G a)(i:IHE CX G b):IHE CX G (.bin op a b):=by intro e E n N all X o h;obtain⟨j,m,l,p,rfl,k⟩:=dBi_of h;obtain⟨c,d,f⟩:=jv k;cases of_decide_eq_true c;exact pe_op (rBin_ok op) (g _ o d) (i _ o f)
def sE_cmp{op:CmpOp}{a b:CE}(i:IHE CX G a)(j:IHE CX G b):IHE CX G (.cmp op a b):=by intro e E q N all X o h;obtain⟨l,n,m,p,rfl,c,k⟩:=MF h;obtain⟨d,f,g⟩:=jv k;cases of_decide_eq_true d;exact pe_cmpR (pC o.hu op) (i _ o f) (j _ o g) (pF c op)
def Kx{f d:CmpOp}{a b c:CE}(t:IHE CX G a)(u:IHE CX G b)(v:IHE CX G c):IHE CX G (.chain f d a b c):=by intro e E D N all X o h;obtain⟨w,A,z,p,rfl,k⟩:=Fj h;obtain⟨B,C,rfl,l⟩:=zw k;obtain⟨x,y,rfl,m⟩:=zw l;obtain⟨g,i,j,n⟩:=m9 m;obtain⟨q,r,s⟩:=jv n;cases of_decide_eq_true g;cases of_decide_eq_true i;exact K8 (pC o.hu f) (pC o.hu d) (t _ o q) (u _ o r) (v _ o s) (pF (rV j) d)
def sE_not{a:CE}(d:IHE CX G a):IHE CX G (.not a):=by intro e E i N all X o h;obtain⟨g,f,p,rfl,k⟩:=Mz h;obtain⟨b,c⟩:=an k;cases of_decide_eq_true b;exact pe_not (d _ o c)
def sE_and{a b:CE}(f:IHE CX G a)(g:IHE CX G b):IHE CX G (.and a b):=by
  intro e E s N all X o h;obtain⟨q,j,x,p,k,m⟩:=ud h;obtain⟨i,c,d⟩:=jv k;cases of_decide_eq_true i;rcases m with rfl|⟨l,n,r,rfl,rfl⟩;·exact Lb (f _ o c) (K4 (g _ o d))
  ·exact Lb (f _ o c) (g _ o d)
def sE_or{a b:CE}(f:IHE CX G a)(g:IHE CX G b):IHE CX G (.or a b):=by
  intro e E s N all X o h;obtain⟨q,j,x,p,k,m⟩:=ud h;obtain⟨i,c,d⟩:=jv k;cases of_decide_eq_true i;rcases m with rfl|⟨l,n,r,rfl,rfl⟩;·exact pe_or (f _ o c) (K4 (g _ o d))
  ·exact pe_or (f _ o c) (g _ o d)
def sE_ite{c a b:CE}(l:IHT CX G c)(i:IHE CX G a)(j:IHE CX G b):IHE CX G (.ite c a b):=by intro e E r N all X o h;obtain⟨q,m,n,p,rfl,k⟩:=dIf_of h;obtain⟨d,f,g⟩:=jv k;exact K6 (l _ o d) (i _ o f) (j _ o g)
def Ku{a i:CE}(f:IHE CX G a)(g:IHE CX G i):IHE CX G (.idx a i):=by intro e E m N all X o h;obtain⟨j,l,p,rfl,k⟩:=Bh h;obtain⟨b,c,d⟩:=jv k;exact pe_ix ix_seq (f _ o c) (g _ o d) (Ci (rV b))
def sE_cut{a:CE}{lo hi:CO}(g:IHE CX G a)(j:IHO CX G lo)(i:IHO CX G hi):IHE CX G (.cut a lo hi):=by intro e E v N all X o h;obtain⟨q,s,p,rfl,k⟩:=Bh h;obtain⟨l,u,t,r,rfl,m⟩:=dSl_of k;obtain⟨b,c,n⟩:=jv m;obtain⟨d,f⟩:=an n;cases iq.mp b;exact K3 rSlc_ok (g _ o c) (j _ o d) (i _ o f)
def sE_tup{a:CL}(b:IHL CX G a):IHE CX G (.tup a):=by intro e E d N all X o h;obtain⟨c,j,p,rfl,k⟩:=MA h;exact pe_tup (b _ o k)
def sE_lst{a:CL}(b:IHL CX G a):IHE CX G (.lst a):=by intro e E d N all X o h;obtain⟨c,p,rfl,k⟩:=MC h;exact K5 (b _ o k)
def F0{f:Str}{b:CL}(x:IHL CX G b):IHE CX G (.call f b):=by
  intro e E K N all X o h;obtain⟨A,D,u,p,rfl,k⟩:=kA h;obtain⟨v,d,g,c⟩:=m9 k;cases of_decide_eq_true v;intro r s t H Q I a;obtain⟨L,z,hf,a⟩:=a;obtain⟨B,C,J,y,k,F,n,m,l,i,j⟩:=o.fn _ _ _ _ hf;cases u with
  |nil=>
   cases b with
   |nil=>exact Ig F n (o.gl d) m l i j o.pass (js g).1 r s t H Q I a
   |cons=>exact dg c
  |cons e1 r1=>have w:=x _ o c;obtain⟨_,_,e,q⟩:=FT c rfl;cases e;exact K9 F n (o.gl d) m l i j o.pass w (js g).1 (q _ p).1 (q _ _).2 r s t H Q I a
def Bf.kind:∀b:Bf,(∃n,b.val=.builtin n)\/∃n,b.val=.type n:=by intro b;cases b<;>first |exact .inl ⟨_,rfl⟩ |exact .inr ⟨_,rfl⟩
def pe_bf{b:Bf}{a:List Expr}{t:TA}{l:CL}(c:fV X b.val (rBf X.K b))(i:Gl X b.name)(j:X.mg b.name=none)(g:PA X a t)(k:(!a.isEmpty)=true)(h:m6 sc N l a=true):PE X (.Call (.Name b.name np) a [] pos) (tCB (rBf X.K b) t):=by
 obtain⟨e,m,rfl,d⟩:=FT h k;have f:=b.boot;rcases b.kind with⟨n,q⟩ |⟨n,q⟩;·rw[q]at c f;exact La c i j f g b.plain.1 b.plain.2 (d _ pos).1 (d _ _).2
 ·rw[q]at c f;exact Ie c i j f g b.plain.1 b.plain.2 (d _ pos).1 (d _ _).2
def Kz{b:Bf}{a:CL}(i:IHL CX G a):IHE CX G (.bfn b a):=by intro e E n N all X o h;obtain⟨l,m,j,p,rfl,k⟩:=kA h;obtain⟨d,f,g,c⟩:=m9 k;cases of_decide_eq_true d;exact pe_bf (rBf_ok o.calm o.hu b) (o.gl f) (o.blt _ b.mem) (i _ o c) g c
def Kt{m:Mm}{b a:CE}(j:IHE CX G b)(i:IHE CX G a):IHE CX G (.meth1 m b a):=by intro e E t N all X o h;obtain⟨s,p,r,q,rfl,d,k⟩:=Fh h;obtain⟨n,rfl,l⟩:=lg k;obtain⟨f,g,c⟩:=jv l;exact pe_bm PySem.F.plainAttrs_list m.slot m.ty (rMm_ok m) (j _ o g) (iu (i _ o c) lB (cJ c _ _)) (Hi f _ _ _) (by rw[cJ c];rfl) d (cJ c _ _) rfl
def sE_idxd{a i:CE}(f:IHE CX G a)(g:IHE CX G i):IHE CX G (.idxd a i):=by intro e E m N all X o h;obtain⟨j,l,p,rfl,k⟩:=Bh h;obtain⟨b,c,d⟩:=jv k;exact pe_ix (ix_dict (by have :=o.hu;lia)) (f _ o c) (g _ o d) (Ci (rV b))
def sE_dicT:IHE CX G .dicT:=by intro e E d N all X o h;obtain⟨c,f,p,rfl,k⟩:=dDi_of h;obtain⟨a,b⟩:=an k;obtain rfl:=nil_of a;obtain rfl:=nil_of b;exact K7
def sE_setd{b a c:CE}(p:IHE CX G b)(n:IHE CX G a)(q:IHE CX G c):IHE CX G (.setd b a c):=by intro e E x N all X o h;obtain⟨w,s,v,u,rfl,g,k⟩:=Fh h;obtain⟨r,t,rfl,l⟩:=zw k;obtain⟨i,j,m⟩:=jv l;obtain⟨d,f⟩:=an m;exact pe_bm PySem.F.plainAttrs_dict yi PySem.F.type_dict_setdefault (Iv (by have :=o.hu;lia)) (p _ o j) (iu (n _ o d) (iu (q _ o f) lB (cJ f _ _)) (cJ d _ _)) (Hi i _ _ _) (by rw[cJ d,cJ f];rfl) g (cJ d _ _) (by rw[cJ f];rfl)
def MI{l:CL}{a:List Expr}(h:m6 sc N l a=true)(d:l.len<29)(env:Env)(b:Pos):((backTo b (bB a env)).all (fun x=> !x.1)&&(BH b (pP [] env)).all (fun x=>x.1.isSome)
   &&decide (a.length+([]:List Keyword).length+(if([]:List Keyword).isEmpty then 0 else 1)<30))=true:=by
 have c:=ri h env b;rw[aF,aF];refine⟨⟨?_,rfl⟩,?_⟩;·rw[List.any_eq_false]at c;exact bg.mpr fun x e=>by simpa using c x e
 ·rw[decide_eq_true_eq,Dv h];exact gA d (by decide)
def sE_base{c:CL}(z:IHL CX G c):IHE CX G (.base x c):=by intro e E M N all X o h;obtain⟨L,F,J,b,rfl,f,k⟩:=Fh h;obtain⟨O,K,rfl,l⟩:=iV k;obtain⟨g,i,j,m⟩:=m9 l;obtain⟨n,p,a⟩:=jv m;cases of_decide_eq_true g;intro A s D H Q I y;obtain⟨B,w,q⟩:=y;obtain⟨u,v,C⟩:=o.val _ _ w;obtain rfl:u=bE B:=C;have t:=z _ o a;have r:=MI a (of_decide_eq_true n) X.env b;obtain⟨_,_,rfl,d⟩:=FT a p;exact pe_base (o.gl i) v t (js j).1 (d _ b).1 (d _ _).2 r f A s D H Q I q
def sE_fld{a:CE}{f:Str}(d:IHE CX G a):IHE CX G (.fld a f):=by intro e E j N all X o h;obtain⟨v,g,p,rfl,k⟩:=Bi h;obtain⟨n,i,rfl,l⟩:=iV k;obtain⟨b,c⟩:=an l;cases of_decide_eq_true b;exact Gh (d _ o c)
def Ey{a:CE}(f:IHE CX G a):IHE CX G (.sortset a):=by intro e E i N all X o h;obtain⟨p,g,q,r,t,rfl,c,d,b⟩:=dFF_of h;exact EF o.calm (o.gl c) (o.blt _ (by decide+kernel)) (o.gl d) (o.blt _ (by decide+kernel)) (iu (f _ o b) lB (cJ b _ _)) (cJ b _ _)
def sE_comp(c:HX CX){own:List Str}{fr:List Nat}{j:CG}{i:CI}{f:CO}{g:CE}(A:IHI CX G i)(z:IHG CX G j)(w:IHC CX G f)(x:IHE CX G g):IHE CX G (.comp own fr j i f g):=by
  intro e E I N all X o h;obtain⟨B,D,J,p,rfl,k⟩:=Fi h;obtain⟨⟨K,H,F,y⟩,rfl,l⟩:=lg k;obtain⟨n,q,r,m⟩:=m9 l;obtain⟨s,t,u,v⟩:=m9 m;cases of_decide_eq_true n;have S:=wH q;exact pe_comp (S.comp o) (S.mkOk o) o.calm (A _ _ o s)
   (fun C d a b _=>⟨z _ (o.comp c S C d a b) t,w _ (o.comp c S C d a b) u,x _ (o.comp c S C d a b) v⟩) (AW (rV r) _)
def sT_cmp{op:CmpOp}{a b:CE}(i:IHE CX G a)(j:IHE CX G b):IHT CX G (.cmp op a b):=by intro e E q N all X o h;obtain⟨l,n,m,p,rfl,c,k⟩:=MF h;obtain⟨d,f,g⟩:=jv k;cases of_decide_eq_true d;exact pt_cmpR (pC o.hu op) (i _ o f) (j _ o g) (pF c op)
def Km{f d:CmpOp}{a b c:CE}(t:IHE CX G a)(u:IHE CX G b)(v:IHE CX G c):IHT CX G (.chain f d a b c):=by intro e E D N all X o h;obtain⟨w,A,z,p,rfl,k⟩:=Fj h;obtain⟨B,C,rfl,l⟩:=zw k;obtain⟨x,y,rfl,m⟩:=zw l;obtain⟨g,i,j,n⟩:=m9 m;obtain⟨q,r,s⟩:=jv n;cases of_decide_eq_true g;cases of_decide_eq_true i;exact KU (pC o.hu f) (pC o.hu d) (t _ o q) (u _ o r) (v _ o s) (pF (rV j) d)
def sT_not{a:CE}(d:IHT CX G a):IHT CX G (.not a):=by intro e E i N all X o h;obtain⟨g,f,p,rfl,k⟩:=Mz h;obtain⟨b,c⟩:=an k;cases of_decide_eq_true b;exact pt_not (d _ o c)
def sT_var:IHT CX G (.var i):=by intro e E a N all X o h;have q:=Ks e o h;obtain⟨x,p,rfl,k⟩:=iV h;exact lU q fun _=>rfl
def sT_con{c:Const}:IHT CX G (.con c):=by intro e E a N all X o h;have q:=Kw e o h;obtain⟨x,j,p,rfl,k⟩:=MD h;exact lU q fun _=>rfl
def sT_glo:IHT CX G (.glo x):=by intro e E a N all X o h;have q:=Kv e o h;obtain⟨x,p,rfl,k⟩:=iV h;exact lU q fun _=>rfl
def sT_idx{a i:CE}(b:IHE CX G a)(c:IHE CX G i):IHT CX G (.idx a i):=by intro e E d N all X o h;have q:=Ku b c e o h;obtain⟨x,y,p,rfl,k⟩:=Bh h;exact lU q fun _=>rfl
def sT_call{f:Str}{a:CL}(b:IHL CX G a):IHT CX G (.call f a):=by intro e E d N all X o h;have q:=F0 b e o h;obtain⟨x,c,a,p,rfl,k⟩:=kA h;exact lU q fun _=>rfl
def sT_bfn{b:Bf}{a:CL}(c:IHL CX G a):IHT CX G (.bfn b a):=by intro e E f N all X o h;have q:=Kz c e o h;obtain⟨x,d,a,p,rfl,k⟩:=kA h;exact lU q fun _=>rfl
def Kl{a b:CE}(f:IHT CX G a)(i:IHT CX G b)(j:IHW CX G b):IHW CX G (.and a b):=by
  intro e E t N all X o h;obtain⟨s,l,x,p,k,m⟩:=ud h;obtain⟨g,c,d⟩:=jv k;cases of_decide_eq_true g;rcases m with rfl|⟨n,q,r,rfl,rfl⟩;·exact fun _=>KO (f _ o c) (pw_and1 (i _ o d))
  ·exact fun _=>KO (f _ o c) (j _ o d rfl)
def sT_and{a b:CE}(c:IHW CX G (.and a b)):IHT CX G (.and a b):=by intro e E j N all X o h;obtain⟨i,d,x,p,k,m⟩:=ud h;exact(c _ o h (by rcases m with rfl|⟨f,g,r,rfl,rfl⟩<;>rfl)).pt
def sW_or{a b:CE}(f:IHT CX G a)(i:IHT CX G b)(j:IHW CX G b):IHW CX G (.or a b):=by
  intro e E t N all X o h;obtain⟨s,l,x,p,k,m⟩:=ud h;obtain⟨g,c,d⟩:=jv k;cases of_decide_eq_true g;rcases m with rfl|⟨n,q,r,rfl,rfl⟩;·exact fun _=>pw_or (f _ o c) (pw_or1 (i _ o d))
  ·exact fun _=>pw_or (f _ o c) (j _ o d rfl)
def sT_or{a b:CE}(c:IHW CX G (.or a b)):IHT CX G (.or a b):=by intro e E j N all X o h;obtain⟨i,d,x,p,k,m⟩:=ud h;exact(c _ o h (by rcases m with rfl|⟨f,g,r,rfl,rfl⟩<;>rfl)).pt
def sL_nil:IHL CX G .nil:=by intro a E b N all X o h;obtain rfl:=me h;exact lB
def sL_cons{c:CE}{r:CL}(d:IHE CX G c)(e:IHL CX G r):IHL CX G (.cons c r):=by intro g E j N all X o h;obtain⟨f,i,rfl,a,b⟩:=kb h;exact iu (d _ o a) (e _ o b) (cJ a _ _)
def sO_no:IHO CX G .no:=by intro e E a N all X o h;obtain rfl:=iq.mp h;exact po_none
def sO_yes{c:CE}(a:IHE CX G c):IHO CX G (.yes c):=by intro e E d N all X o h;obtain⟨b,rfl,k⟩:=om_of h;exact po_some (a _ o k)
def sC_no:IHC CX G .no:=by intro a E b N all X o h;obtain rfl:=nil_of h;exact pts_nil
def sC_yes{c:CE}(a:IHT CX G c):IHC CX G (.yes c):=by intro d E e N all X o h;obtain⟨b,rfl,k⟩:=lg h;exact pts_one (a _ o k)
def sG_name:IHG CX G (.name i):=by
  intro e E c N all X o h;obtain⟨x,p,rfl,k⟩:=iV h;rw[aF,cu,beq_iff_eq,beq_iff_eq,beq_iff_eq]at k;obtain⟨b,a⟩:=k;refine AH (by rw[o.names];exact o.nd) (by rw[o.names];exact b) ?_ ?_
  ·rcases a with q|q;·exact .inl (o.loc x q)
   ·exact .inr (o.cel x q)
  ·rcases a with q|q;·exact .inr (o.loc x q)
   ·exact .inl (o.own x q)
def sG_tup{c:CGs}(d:MW CX G c):IHG CX G (.tup c):=by intro e E g N all X o h;obtain⟨f,j,p,rfl,k⟩:=MA h;obtain⟨a,b⟩:=uT k X.env;exact pg_tup o.calm (d _ o k) a b
def sGs_nil:MW CX G .nil:=by intro a E b N all X o h;obtain rfl:=zH h;exact pgs_nil
def Kr{c:CG}{r:CGs}(d:IHG CX G c)(e:MW CX G r):MW CX G (.cons c r):=by intro g E j N all X o h;obtain⟨f,i,rfl,a,b⟩:=xT h;exact K0 (d _ o a) (e _ o b) (by rw[rW a];rfl)
def sI_seq{c:CE}(a:IHE CX G c):IHI CX G (.seq c):=by intro e d E b N all X o h;exact pi_any (a _ o h)
def sI_lseq{c:CE}(a:IHE CX G c):IHI CX G (.lseq c):=by intro e d E b N all X o h;exact pi_list (a _ o h)
def HU{c:CE}(g:IHE CX G c):IHI CX G (.range1 c):=by intro e q E n N all X o h;obtain⟨f,m,j,p,rfl,k⟩:=kA h;obtain⟨i,rfl,l⟩:=lg k;obtain⟨b,d,a⟩:=jv l;cases of_decide_eq_true b;exact Ic (o.gl d) (o.blt _ (by decide+kernel)) (iu (g _ o a) lB (cJ a _ _)) (cJ a _ _)
def HS{a b:CE}(j:IHE CX G a)(m:IHE CX G b):IHI CX G (.range2 a b):=by intro e u E t N all X o h;obtain⟨f,s,r,p,rfl,k⟩:=kA h;obtain⟨n,q,rfl,l⟩:=zw k;obtain⟨g,i,d,c⟩:=m9 l;cases of_decide_eq_true g;exact Ib (o.gl i) (o.blt _ (by decide+kernel)) (iu (j _ o d) (iu (m _ o c) lB (cJ c _ _)) (cJ d _ _)) (by rw[cJ d,cJ c];rfl) (cJ c _ _)
def zA(h:qV e=true):∃es k p,e=.Tuple es k p:=by cases e<;>first |exact⟨_,_,_,rfl⟩ |exact dg h
def sI_enum{c:CE}(m:IHE CX G c):IHI CX G (.enum c):=by intro e t E s N all X o h;obtain⟨f,q,b,p,rfl,k⟩:=kA h;obtain⟨n,rfl,l⟩:=lg k;obtain⟨d,g,a,i⟩:=m9 l;cases of_decide_eq_true d;obtain⟨b,j,r,rfl⟩:=zA i;exact pi_enum (o.gl g) (o.blt _ (by decide+kernel)) (m _ o a) (cJ a _ _)
def Kq{c:CE}(m:IHE CX G c):IHI CX G (.enumt c):=by intro e t E s N all X o h;obtain⟨f,q,b,p,rfl,k⟩:=kA h;obtain⟨n,rfl,l⟩:=lg k;obtain⟨d,g,a,i⟩:=m9 l;cases of_decide_eq_true d;obtain⟨b,j,r,rfl⟩:=zA i;exact KZ (o.gl g) (o.blt _ (by decide+kernel)) (iu (m _ o a) lB (cJ a _ _)) (cJ a _ _)
mutual
theorem bP(d:HX CX):∀c:CE,IHE CX G c
 |.var i=>Ks
 |.con c=>Kw
 |.glo x=>Kv
 |.ty t=>sE_ty
 |.bin op a b=>sE_bin (bP d a) (bP d b)
 |.cmp op a b=>sE_cmp (bP d a) (bP d b)
 |.chain o1 o2 a b c=>Kx (bP d a) (bP d b) (bP d c)
 |.not a=>sE_not (bP d a)
 |.and a b=>sE_and (bP d a) (bP d b)
 |.or a b=>sE_or (bP d a) (bP d b)
 |.ite c a b=>sE_ite (jb d c) (bP d a) (bP d b)
 |.idx a i=>Ku (bP d a) (bP d i)
 |.cut a lo hi=>sE_cut (bP d a) (Kg d lo) (Kg d hi)
 |.tup es=>sE_tup (mU d es)
 |.lst es=>sE_lst (mU d es)
 |.call f es=>F0 (mU d es)
 |.bfn b es=>Kz (mU d es)
 |.meth1 m b a=>Kt (bP d b) (bP d a)
 |.idxd a i=>sE_idxd (bP d a) (bP d i)
 |.dicT=>sE_dicT
 |.setd b a c=>sE_setd (bP d b) (bP d a) (bP d c)
 |.base x es=>sE_base (mU d es)
 |.fld a f=>sE_fld (bP d a)
 |.sortset a=>Ey (bP d a)
 |.comp own fr tg it cond elt=>sE_comp d (Es d it) (tN d tg) (Kh d cond) (bP d elt)
theorem jb(d:HX CX)(c:CE):IHT CX G c:=by
 cases c with
 |cmp op a b=>exact sT_cmp (bP d a) (bP d b)
 |chain p q a b c=>exact Km (bP d a) (bP d b) (bP d c)
 |not a=>exact sT_not (jb d a)
 |and a b=>exact sT_and (Kl (jb d a) (jb d b) (Ap d b))
 |or a b=>exact sT_or (sW_or (jb d a) (jb d b) (Ap d b))
 |var i=>exact sT_var
 |con c=>exact sT_con
 |glo x=>exact sT_glo
 |idx a i=>exact sT_idx (bP d a) (bP d i)
 |call f es=>exact sT_call (mU d es)
 |bfn b es=>exact sT_bfn (mU d es)
 |_=>exact fun _ _ _ _ _ _ _ _ _ _ _ _ _ _ z=>z.elim
theorem Ap(d:HX CX)(c:CE):IHW CX G c:=by
 cases c with
 |and a b=>exact Kl (jb d a) (jb d b) (Ap d b)
 |or a b=>exact sW_or (jb d a) (jb d b) (Ap d b)
 |_=>intro e E j N all X o h f;obtain⟨i,g,p,rfl⟩:=isBo_of f;exact dg h
theorem mU(a:HX CX):∀c:CL,IHL CX G c
 |.nil=>sL_nil
 |.cons c r=>sL_cons (bP a c) (mU a r)
theorem Kg(a:HX CX):∀c:CO,IHO CX G c
 |.no=>sO_no
 |.yes c=>sO_yes (bP a c)
theorem Kh(a:HX CX):∀c:CO,IHC CX G c
 |.no=>sC_no
 |.yes c=>sC_yes (jb a c)
theorem tN(a:HX CX):∀c:CG,IHG CX G c
 |.name i=>sG_name
 |.tup gs=>sG_tup (FW a gs)
theorem FW(a:HX CX):∀c:CGs,MW CX G c
 |.nil=>sGs_nil
 |.cons c r=>Kr (tN a c) (FW a r)
theorem Es(d:HX CX):∀c:CI,IHI CX G c
 |.seq c=>sI_seq (bP d c)
 |.lseq c=>sI_lseq (bP d c)
 |.range1 c=>HU (bP d c)
 |.range2 a b=>HS (bP d a) (bP d b)
 |.enum c=>sI_enum (bP d c)
 |.enumt c=>Kq (bP d c)
end
end
section
variable {CX:CXT}{G:Gam}
def w9{all:Bool}{g:CG}(h:xV sc N all g tg=true)(a:(qV tg&&qV e)=false)(env:Env):swappedStores [tg] e env=pure none:=by
 cases tg with
 |Tuple es k p=>
  cases e<;>first
   |rfl
   | (exact Lk a)
 |List es p=>cases g<;>exact dg h
 |_=>rfl
def B7{a:Expr}{b:List Comprehension}{c:Scope}{d p:Pos}{l:Nat}{env:Env}(h:env.kindOf x≠some .local):rB (.ListComp a b c d) (some (.Name x p)) l env=pure false:=by
 show(pure (env.blockKind== .function&&env.kindOf x==some .local&&p.line==d.line&& !(c.names.any fun(n,k)=>n==x&&(k== .local||k== .cell))):Sem Bool)=pure false;have e:(env.kindOf x==some eD.local)=false:=by simpa using h
 rw[e,fT,dk,dk]
def Em{a:Expr}{b:List Comprehension}{c:Scope}{d p:Pos}{l:Nat}{env:Env}(g:env.scope.kind=.function)(h:env.kindOf x=some .local)(i:p.line=d.line)
  (j:(c.names.any fun y=>decide (y.1=x)&&(decide (y.2=.local)||decide (y.2=.cell)))=false):rB (.ListComp a b c d) (some (.Name x p)) l env=pure true:=by
 show(pure (env.blockKind== .function&&env.kindOf x==some .local&&p.line==d.line&& !(c.names.any fun(n,k)=>n==x&&(k== .local||k== .cell))):Sem Bool)=pure true;have e:env.blockKind=.function:=by unfold Env.blockKind;rw[g];rfl
 have f:(c.names.any fun(n,k)=>n==x&&(k==eD.local||k==cT))=false:=by rw[<-j];congr 1
 rw[e,h,i,f];simp
def Fl{c:CE}(h:isCe c=true):∃own fr tg it a elt,c=.comp own fr tg it a elt:=by
 cases c with
 |comp own fr tg it a elt=>exact⟨_,_,_,_,_,_,rfl⟩
 |_=>exact dg h
def CC(h:xB e=false)(a:Expr)(l:Nat)(env:Env):MY [a] e l env=pure false:=by unfold MY;exact vL h _ _ _
structure OkL(G:Gam)(sc:Scope)(N:List Str)(X:Cx):Prop where
 names:X.N=N
 nd:N.Nodup
 loc:∀x,sc.names.lookup x=some .local->X.env.scope.names.lookup x=some .local
 cel:∀x,sc.names.lookup x=some .cell->X.env.scope.names.lookup x=some .cell
 fre:∀x,sc.names.lookup x=some .free->X.env.scope.names.lookup x=some .cell\/X.env.scope.names.lookup x=some .free
 glo:∀x,sc.names.lookup x=some .globalImplicit->X.env.scope.names.lookup x=some .globalImplicit
 all:∀x,X.fn x=true
 val:∀x v,G.val x=some v->∃u,X.mg x=some u/\RelV v u
 blt:∀x∈ju,X.mg x=none
def OkL.vis(o:OkL G sc N X)(h:C2 sc x=true):Vis X.env.scope x:=by
 unfold C2 at h;rw[cu,cu,beq_iff_eq,beq_iff_eq,beq_iff_eq]at h;rcases h with(h|h) |h;·exact .inl (o.loc x h)
 ·exact .inr (.inl (o.cel x h))
 ·rcases o.fre x h with q|q;·exact .inr (.inl q)
  ·exact .inr (.inr q)
def OkL.gl(o:OkL G sc N X)(h:kP sc x=true):Gl X x:=by unfold kP at h;rw[beq_iff_eq]at h;exact o.glo x h
mutual
theorem xu(c:CE)(e:Expr){E:XS}(o:OkL G sc N X)(l:GF c=true)(h:d5 sc N c e=true):PE X e (wpE G X.K E c):=by
 cases c with
 |var i=>obtain⟨x,p,rfl,k⟩:=iV h;obtain⟨b,d,q⟩:=jv k;obtain⟨g,j⟩:=js q;exact K1 (by rw[o.names];exact beq_iff_eq.mp b) (o.vis d) g j
 |lst es=>obtain⟨r,p,rfl,k⟩:=MC h;exact K5 (CW es _ o l k)
 |fld a f=>obtain⟨v,s,p,rfl,k⟩:=Bi h;obtain⟨n,t,rfl,m⟩:=iV k;obtain⟨b,d⟩:=an m;cases of_decide_eq_true b;exact Gh (xu a _ o l d)
 |_=>exact dg l
theorem CW(c:CL)(a:List Expr){E:XS}(o:OkL G sc N X)(l:LF c=true)(h:m6 sc N c a=true):PA X a (wpL G X.K E c):=by
 cases c with
 |nil=>obtain rfl:=me h;exact lB
 |cons c r=>obtain⟨e,f,rfl,b,d⟩:=kb h;obtain⟨l1,l2⟩:=an l;exact iu (xu c _ o l1 b) (CW r _ o l2 d) (cJ b _ _)
end
mutual
theorem LD(c:CS)(st:Stmt){E:XS}(o:OkL G sc N X)(l:liteS c=true)(h:chkS sc N c st=true):PS X st (wpS G X.K E c):=by
 cases c with
 |asg g e=>
  obtain⟨j,f,p,rfl,k⟩:=Bj h;obtain⟨a,b,d,n⟩:=m9 k;cases g with
  |name i=>
   obtain⟨x,p,rfl,m⟩:=iV a;rw[aF,cu,beq_iff_eq,beq_iff_eq,beq_iff_eq]at m;refine ED (xu e _ o l b) ?_ (CC (rV d) _ _ _) rfl rfl;refine AH (by rw[o.names];exact o.nd) (by rw[o.names];exact m.1) ?_ (.inl (o.all x));rcases m.2 with q|q;·exact .inl (o.loc x q)
   ·exact .inr (o.cel x q)
  |_=>exact dg l
 |_=>exact dg l
theorem CY(c:CB)(st:List Stmt){E:XS}(o:OkL G sc N X)(l:LG c=true)(h:rj sc N c st=true):PSs X st (wpB G X.K E c):=by
 cases c with
 |hole=>exact dg l
 |nil=>obtain rfl:=nil_of h;exact AF
 |cons s r=>obtain⟨l1,l2⟩:=an l;obtain⟨e,d,rfl,k⟩:=FN h;obtain⟨a,b⟩:=an k;exact rT (LD s _ o l1 a) (CY r _ o l2 b)
end
mutual
theorem Kf(d:HX CX):∀(c:CS)(st:Stmt){E:XS}{sc:Scope}{N:List Str}{X:Cx},Ok CX G E sc N true X->(∀pins σ H s,Inv X pins σ H s->X.env.scope.kind=.function)->chkS sc N c st=true->PS X st (wpS G X.K E c)
 |.asg g e,st,E,sc,N,X,o,hk,h=>by obtain⟨K,w,p,rfl,k⟩:=Bj h;obtain⟨f,j,r,t⟩:=m9 k;exact ED (bP d e _ o j) (tN d g _ o f) (vL (rV r) _ _ _) (w9 f (rV t) _) (by rw[rW f];rfl)
 |.asgc i e,st,E,sc,N,X,o,hk,h=>by
  obtain⟨L,h⟩:=an h;obtain⟨K,w,sp,rfl,k⟩:=Bj h;obtain⟨x,p,rfl,l⟩:=iV k;obtain⟨a,b,c,a3,rfl,m⟩:=Fi l;obtain⟨f,j,r,t⟩:=m9 m;rw[beq_iff_eq]at f;rw[cu,beq_iff_eq,beq_iff_eq]at j;rw[cu,beq_iff_eq]at t;obtain⟨own,fr,tg,P,a2,a4,rfl⟩:=Fl L;by_cases hl:X.env.scope.names.lookup x=some .local
  ·rcases t with q|q;·rw[o.cel x q]at hl;cases hl
   obtain⟨q1,q2⟩:=an q;obtain⟨b0,gs,b5,p',e1,r1⟩:=Fi r;cases e1;obtain⟨⟨b6,b3,b2,b7⟩,rfl,r2⟩:=lg r1;obtain⟨g0,g1,g2,r3⟩:=m9 r2;obtain⟨g3,g4,g5,g6⟩:=m9 r3;cases of_decide_eq_true g0;have S:=wH g1;intro pins s σ H D I u;exact EC (S.comp o) (S.mkOk o) o.calm (Es d P _ _ o g3)
    (fun C Q A F _=>⟨tN d tg _ (o.comp d S C Q A F) g4,Kh d a2 _ (o.comp d S C Q A F) g5,bP d a4 _ (o.comp d S C Q A F) g6⟩)
    (by rw[o.names];exact o.nd) (by rw[o.names];exact f) hl (Em (hk pins σ H s I) hl (of_decide_eq_true q1) (rV q2)) (AW (rV g2) _) pins s σ H D I u
  ·have T:sc.names.lookup x=some .cell:=by
    rcases j with q|q;·exact absurd (o.loc x q) hl
    ·exact q
   exact ps_set (by rw[o.names];exact o.nd) (by rw[o.names];exact f) (.inr (o.cel x T)) (bP d _ _ o r) (B7 (by rw[show X.env.kindOf x=_ from o.cel x T];decide)) (.inl (o.all rfl x))
 |.expr e,st,E,sc,N,X,o,hk,h=>by obtain⟨w,p,rfl,k⟩:=dEx_of h;obtain⟨f,j⟩:=an k;exact ps_expr (bP d e _ o f) (vL (rV j) _ _ _)
 |.iff c a b,st,E,sc,N,X,o,hk,h=>by obtain⟨c',a',B,p,rfl,k⟩:=dIs_of h;obtain⟨f,j,r⟩:=jv k;exact ps_if (jb d c _ o f) (oj d a _ o hk j) (oj d b _ o hk r)
 |.whl c b,st,E,sc,N,X,o,hk,h=>by obtain⟨c',B,p,rfl,k⟩:=dWh_of h;obtain⟨f,j⟩:=an k;exact KW o.px (jb d c _ o f) (oj d b _ o hk j)
 |.forr g P b,st,E,sc,N,X,o,hk,h=>by obtain⟨K,i',B,p,rfl,k⟩:=dFo_of h;obtain⟨f,j,r,t⟩:=m9 k;exact ps_for o.px o.calm (Es d P _ _ o j) (tN d g _ o f) (oj d b _ o hk t) (AW (rV r) _)
 |.ret e,st,E,sc,N,X,o,hk,h=>by obtain⟨a6,p,rfl,k⟩:=MB h;obtain⟨w,rfl,m⟩:=om_of k;exact ps_ret (bP d e _ o m)
 |.retN,st,E,sc,N,X,o,hk,h=>by obtain⟨a6,p,rfl,k⟩:=MB h;obtain rfl:=iq.mp k;exact ps_retN
 |.raisX x es,st,E,sc,N,X,o,hk,h=>by obtain⟨x',V,b1,cp,p,rfl,k⟩:=dRa_of h;obtain⟨f,j,r,m⟩:=m9 k;obtain⟨t,v⟩:=an m;cases of_decide_eq_true f;intro pins s σ H D I u;obtain⟨C,sp,a9,M,u⟩:=u;obtain⟨a5,fd,ps,ds,k,hM,a1,hr,hu,hb,hd⟩:=o.ini _ _ _ _ _ M;have hL:=mU d es _ o v;obtain⟨_,_,rfl,U⟩:=FT v t;exact HZ hM a1 hr hb hd o.pass (o.gl j) hu hL o.calm (js r).1 (U _ cp).1 (U _ _).2 o.madeX pins s σ H D I u
 |.fldX a a5 e,st,E,sc,N,X,o,hk,h=>by obtain⟨K,w,p,rfl,k⟩:=Bj h;obtain⟨o',f',p',rfl,l⟩:=Bi k;obtain⟨f,j,r,t⟩:=m9 l;cases of_decide_eq_true f;exact ps_fldX (bP d a _ o j) (bP d e _ o r) (vL (rV t) _ _ _)
 |.tryc x i b su,st,E,sc,N,X,o,hk,h=>by
  obtain⟨B,x',V,n,y,hp,p,rfl,k⟩:=dTr_of h;obtain⟨f,j,r,m,m'⟩:=and5 k;obtain⟨t,v,h6⟩:=jv m;obtain⟨L,h7,h8⟩:=jv m';cases of_decide_eq_true f;rw[beq_iff_eq]at t v;cases y with
  |nil=>exact dg L
  |cons s0 y=>
   obtain⟨Z,t2,t3⟩:=o.top rfl;intro pins s σ H D I u;obtain⟨C,M,u⟩:=u;obtain⟨a7,hu,ru⟩:=o.val _ _ M;obtain rfl:a7=bE C:=ru;have O:DM X x n C i (s0::y) (wpB G X.K N0 su):=
    {nd:=by rw[o.names];exact o.nd,at_:=by rw[o.names];exact t,loc:=o.loc n v,gl:=o.gl j,mg:=hu,db:=(js r).1,stk:=Z,fr:=t2,ex:=t3
     su:=fun pins a=>CY su _ (X:=X.re (X.A.mark (some (.ref a))) false (X.pn++pins) (fun _ _=>False)) ⟨o.names,o.nd,o.loc,o.cel,o.fre,o.glo,o.all rfl,o.val,o.blt⟩ h6 h7}
   exact ps_try (X:=X) (tb:=fun D=>wpB G X.K (t9 X.K C i (wpB G X.K N0 su) D) b) (fun pins D ok=>oj d b _ (X:=X.re X.A X.calm (X.pn++pins) (kh X pins D [.ExceptHandler (some (.Name x V)) (some n) (s0::y) hp]))
    {names:=o.names,top:=fun _=>⟨Z,t2,t3⟩,nd:=o.nd,loc:=o.loc,cel:=o.cel,fre:=o.fre,glo:=o.glo,all:=o.all,own:=o.own,calm:=o.calm,hu:=o.hu,val:=o.val,fn:=o.fn,ini:=o.ini,dic:=o.dic,mak:=o.mak,mth:=o.mth,blt:=o.blt,px:=PassesOwn.looking
     pass:=fun W a0 R Y e b4 J z=>JT O ok o.calm J (by rw[o.cx]at z;exact z)
     made:=fun W a0 R Y a c a8 h' J hm z=>JU O ok J hm z
     madeX:=fun W a0 R Y a C' a3 J m z=>HB O ok J m z
     cx:=o.cx} (fun _ _ _ _ J=>J.ok.kind) h8) pins s σ H D I u
 |.pass,st,E,sc,N,X,o,hk,h=>by
  cases st<;>first
   |exact ps_pass
   |exact dg h
 |.brk,st,E,sc,N,X,o,hk,h=>by
  cases st<;>first
   |exact KY
   |exact dg h
 |.cont,st,E,sc,N,X,o,hk,h=>by
  cases st<;>first
   |exact Cg
   |exact dg h
theorem oj(a:HX CX):∀(c:CB)(st:List Stmt){E:XS}{sc:Scope}{N:List Str}{X:Cx},Ok CX G E sc N true X->(∀pins σ H s,Inv X pins σ H s->X.env.scope.kind=.function)->rj sc N c st=true->PSs X st (wpB G X.K E c)
 |.hole,_,_,_,_,_,_,_,_=>fun _ _ _ _ _ _ z=>z.elim
 |.nil,st,E,sc,N,X,o,hk,h=>by obtain rfl:=nil_of h;exact AF
 |.cons s r,st,E,sc,N,X,o,hk,h=>by obtain⟨f,e,rfl,k⟩:=FN h;obtain⟨b,d⟩:=an k;exact rT (Kf a s _ o hk b) (oj a r _ o hk d)
end
end
structure GOk(P:Program)(w:World)(K:ah)(mg:Str->Option Value)(base:Heap)(CX:CXT)(k:Nat)(G:Gam):Prop where
 val:∀x v,G.val x=some v->∃u,mg x=some u/\RelV v u
 fn:∀x n sp al,G.fn x n=some (sp,al)->∃f fd ps ds j,j<=k/\jx P w K mg base CX j f fd ps sp/\mg x=some (.ref f)/\cP K (.ref f)=true/\Binds K fd ps ds/\bM al ds
 ini:∀x n C sp al,G.ini x n=some (C,sp,al)->∃f fd ps ds j,j+1<=k/\MkX K C f/\jx P w K mg base CX j f fd ps sp/\mg x=some (.ref C)/\Binds K fd ps ds/\bM al ds
 dic:∀a kvs,G.dic a=some kvs->DkIn P w K a kvs
 mak:∀x n C sp al,G.mak x n=some (C,sp,al)->∃f fd ps ds j,j+1<=k/\Mk K C f/\jx P w K mg base CX j f fd ps sp/\mg x=some (.ref C)/\Binds K fd ps ds/\bM al ds
 mth:∀m n C sp al,G.mth m n=some (C,sp,al)->∃f fd ps ds j,j<=k/\Cls K C/\Meth K C m f/\jx P w K mg base CX j f fd ps sp/\Binds K fd ps ds/\bM al ds
 blt:∀x∈ju,mg x=none
abbrev qd(N ps:List Str)(sc:Scope):Bool:=
 decide (sc.kind=.function)&&decide (sc.isCoroutine=false)&&decide (sc.isGenerator=false)&&decide N.Nodup&&decide (N.take ps.length=ps)&&
 ps.all (fun x=>sc.names.lookup x==some .local||sc.names.lookup x==some .cell)&&sc.names.all (fun y=>decide (y.2≠.free))
def Cw(h:qd N ps sc=true):vU N ps sc:=by unfold qd at h;simp only[aF,bg,decide_eq_true_eq,beq_iff_eq,cu]at h;obtain⟨⟨⟨⟨⟨⟨a,b⟩,c⟩,d⟩,e⟩,f⟩,g⟩:=h;exact⟨a,b,c,d,e,f,g⟩
section
variable {mg:Str->Option Value}
def Lg{G:Gam}{outer:List Env}{E:XK}(S:vU N ps sc)(g:GOk P w K mg base (CXx P w) k G)(i:jf k (A.deeper (envOfC qual sc s.heap.objs.size f am))):Ok (CXx P w) G (fun _=>E) sc N true (Bl (CXx P w) P w K mg base N qual sc f am A outer s H E):=
  {names:=rfl,top:=fun _=>⟨rfl,rfl,rfl⟩,nd:=S.nd,loc:=fun _ z=>z,cel:=fun _ z=>z,fre:=fun y z=>absurd rfl (S.nofree _ (bA z)),glo:=fun _ z=>z,all:=fun _ _=>rfl,own:=fun _ _=>rfl,calm:=rfl,
   hu:=by have :=i.units;show _+50<cLine;exact vz (Nat.add_le_add_left (by decide) _) this
   val:=g.val
   fn:=fun y n h a e=>by obtain⟨b,fd',ps',ds',j,hj,F',hm,hk,hb,d⟩:=g.fn y n h a e;exact⟨b,fd',ps',ds',j,F',i.mono hj,hm,hk,hb,d⟩
   ini:=fun y n C h a e=>by obtain⟨b,fd',ps',ds',j,hj,M,F',hm,hb,d⟩:=g.ini y n C h a e;exact⟨b,fd',ps',ds',j,M,F',i.mono hj,hm,hb,d⟩
   dic:=g.dic
   mak:=fun y n C h a e=>by obtain⟨b,fd',ps',ds',j,hj,M,F',hm,hb,d⟩:=g.mak y n C h a e;exact⟨b,fd',ps',ds',j,M,F',i.mono hj,hm,hb,d⟩
   mth:=fun y n C h a e=>by obtain⟨b,fd',ps',ds',j,hj,c,M,F',hb,d⟩:=g.mth y n C h a e;exact⟨b,fd',ps',ds',j,c,M,F',i.mono hj,hb,d⟩
   blt:=g.blt,px:=PassesOwn.leaving,pass:=Je,made:=Jf,madeX:=Ft,cx:=rfl}
def Dh{st:Stmt}{kV:Value}{an:Option Addr}{G:Gam}{sp:Sp}{a:CB}(j:K.lookup f=some ⟨oc,od,.func (aE x qual (bh st) (aX st) (aO st) dV kV ap pm an am ct),ax⟩)(c:eM K am qual=true)(d:qd N ps (aO st)=true)(b:rj (aO st) N a (aX st)=true)
  (g:GOk P w K mg base (CXx P w) k G)(len:∀vs H Q E,sp vs H Q E->vs.length=ps.length)
  (h:∀vs H Q E,sp vs H Q E->wpB G K (fun _=>E) a {nx:=fun _ H'=>Q .non H',rt:=Q} (start N vs) H):jx P w K mg base (CXx P w) (k+1) f (aE x qual (bh st) (aX st) (aO st) dV kV ap pm an am ct) ps sp:=by
 have S:=Cw d;refine fn_of j c S len fun A l s H vs Q E e i=>?_;exact⟨_,oj (fun _ _ _ _ _ z=>IQ z) a _ (Lg S g e) (fun _ _ _ _ _=>S.kind) b,h vs H Q E i⟩
def GU{st:Stmt}{b:fg}{G:Gam}{sp:Sp}{a:CB}(F:Fun K x qual st f b)(e:qd N ps (aO st)=true)(c:rj (aO st) N a (aX st)=true)
  (g:GOk P w K mg base (CXx P w) k G)(len:∀vs H Q E,sp vs H Q E->vs.length=ps.length)
  (h:∀vs H Q E,sp vs H Q E->wpB G K (fun _=>E) a {nx:=fun _ H'=>Q .non H',rt:=Q} (start N vs) H):jx P w K mg base (CXx P w) (k+1) f b ps sp:=by
 obtain⟨n,o,kV,m,q,an,j,l,p,rfl,i,d⟩:=F.ex;exact Dh i d e c g len h
end
abbrev gam(vals:List (Str×V))(c:List ((Str×Nat)×(Sp×List V)))(d:List ((Str×Nat)×(Addr×Sp×List V)):=[]) (b:List (Addr×List (Key×V)):=[]) (e f:List ((Str×Nat)×(Addr×Sp×List V)):=[]):Gam:=⟨fun x=>vals.lookup x,fun x n=>c.lookup (x,n),fun x n=>d.lookup (x,n),fun a=>b.lookup a,fun x n=>e.lookup (x,n),fun m n=>f.lookup (m,n)⟩
theorem CP{c:Type}{b:c}:∀{l:List (Addr×c)},l.lookup a=some b->(a,b)∈l
 | [],h=>nomatch h
 | (k,v)::l,h=>by
  rw[a8]at h;cases q:(a==k)with
  |true=>rw[q]at h;cases h;rw[beq_iff_eq.mp q];exact aM
  |false=>rw[q]at h;exact aK _ (CP h)
section
variable {mg:Str->Option Value}{CX:CXT}
def GOk.start{vals:List (Str×V)}(i:∀x v,(x,v)∈vals->∃u,mg x=some u/\RelV v u)(f:∀x∈ju,mg x=none){b:List (Addr×List (Key×V))}(g:∀a kvs,(a,kvs)∈b->DkIn P w K a kvs:=by intro a kvs h;exact nomatch h):GOk P w K mg base CX 0 (gam vals [] [] b):=
 ⟨fun x v e=>i x v (bA e),fun x n d c e=>(nomatch e),fun x n C d c e=>(nomatch e),fun a kvs e=>g a kvs (CP (show cW a b=some kvs from e)),fun x n C d c e=>(nomatch e),fun x n C d c e=>(nomatch e),f⟩
def GOk.add{vals:List (Str×V)}{s:List ((Str×Nat)×(Sp×List V))}{p:fg}{sp:Sp}{u v z:List ((Str×Nat)×(Addr×Sp×List V))}{t:List (Addr×List (Key×V))}(g:GOk P w K mg base CX k (gam vals s u t v z))
  (F:jx P w K mg base CX (k+1) f p ps sp)(G:mg x=some (.ref f))(E:cP K (.ref f)=true)(B:Binds K p ps ds)(D:bM al ds):GOk P w K mg base CX (k+1) (gam vals (((x,n),(sp,al))::s) u t v z):=by
 refine⟨g.val,fun y m b a e=>?_,fun y m C b a e=>?_,g.dic,fun y m C b a e=>?_,fun y m C b a e=>?_,g.blt⟩
 rotate_left
 rotate_left
 ·obtain⟨d,h,l,c,j,i,r⟩:=g.mak y m C b a e;exact⟨d,h,l,c,j,fA i,r⟩
 ·obtain⟨d,h,l,c,j,i,r⟩:=g.mth y m C b a e;exact⟨d,h,l,c,j,fA i,r⟩
 rotate_left
 ·obtain⟨d,h,l,c,j,i,r⟩:=g.ini y m C b a e;exact⟨d,h,l,c,j,fA i,r⟩
 have o:cW (y,m) (((x,n),(sp,al))::s)=some (b,a):=e;rw[a8]at o;cases q:((y,m)==(x,n))with
 |true=>rw[q]at o;have A:(y,m)=(x,n):=eq_of_beq q;cases A;cases o;exact⟨f,p,ps,ds,k+1,aw _,F,G,E,B,D⟩
 |false=>rw[q]at o;obtain⟨d,h,l,c,j,i,r⟩:=g.fn y m b a o;exact⟨d,h,l,c,j,fA i,r⟩
def GOk.addI{vals:List (Str×V)}{v:List ((Str×Nat)×(Sp×List V))}{p:fg}{sp:Sp}{s z A:List ((Str×Nat)×(Addr×Sp×List V))}{u:List (Addr×List (Key×V))}(g:GOk P w K mg base CX k (gam vals v s u z A))
  (M:MkX K C f)(F:jx P w K mg base CX (k+1) f p ps sp)(G:mg x=some (.ref C))(D:Binds K p ps ds)(E:bM al ds):GOk P w K mg base CX (k+2) (gam vals v (((x,n),(C,sp,al))::s) u z A):=by
 refine⟨g.val,fun y m b a e=>?_,fun y m t b a e=>?_,g.dic,fun y m C b a e=>(by
  obtain⟨d,h,l,c,j,i,r⟩:=g.mak y m C b a e;exact⟨d,h,l,c,j,aL i (by lia),r⟩),fun y m C b a e=>(by
  obtain⟨d,h,l,c,j,i,r⟩:=g.mth y m C b a e;exact⟨d,h,l,c,j,aL i (by lia),r⟩),g.blt⟩
 ·obtain⟨d,h,l,c,j,i,r⟩:=g.fn y m b a e;exact⟨d,h,l,c,j,aL i (by lia),r⟩
 have o:cW (y,m) (((x,n),(C,sp,al))::s)=some (t,b,a):=e;rw[a8]at o;cases q:((y,m)==(x,n))with
 |true=>rw[q]at o;have B:(y,m)=(x,n):=eq_of_beq q;cases B;cases o;exact⟨f,p,ps,ds,k+1,aw _,M,F,G,D,E⟩
 |false=>rw[q]at o;obtain⟨d,h,l,c,j,i,r⟩:=g.ini y m t b a o;exact⟨d,h,l,c,j,aL i (by lia),r⟩
end
section
variable {Q:VK}{i j:Int}
def ye:rS K .Add (.int i) (.int j) H Q↔Q (.int (i+j)) H:=by show _\/_↔_;simp[rI0,rCat]
def Eo:rS K .Sub (.int i) (.int j) H Q↔Q (.int (i-j)) H:=by show rI0 _ _ _ _ _↔_;simp[rI0]
def mul_ii:rS K .Mult (.int i) (.int j) H Q↔FC i j/\Q (.int (i*j)) H:=by show _\/_↔_;simp[rI,rRep,KJ]
def iC:rS K .Mod (.int i) (.int j) H Q↔0<j/\Q (.int (i%j)) H:=by show rI _ _ _ _ _ _↔_;simp[rI]
def div_ii:rS K .FloorDiv (.int i) (.int j) H Q↔CDiv i j/\Q (.int (i/j)) H:=by show rI _ _ _ _ _ _↔_;simp[rI]
def pow_ii:rS K .Pow (.int i) (.int j) H Q↔MX i j/\Q (.int (i^j.toNat)) H:=by show rI _ _ _ _ _ _↔_;simp[rI]
def add_ss{y:Str}:rS K .Add (.str x) (.str y) H Q↔x.length+y.length<=sizeLine/\Q (.str (x++y)) H:=by show _\/_↔_;simp[rI0,rCat]
def GB:fM K .Lt (.int i) (.int j) H Q↔Q (.bl (decide (i<j))) H:=by simp[fM,rI0]
def LI:fM K .LtE (.int i) (.int j) H Q↔Q (.bl (decide (i<=j))) H:=by simp[fM,rI0]
def Me:fM K .Gt (.int i) (.int j) H Q↔Q (.bl (decide (j<i))) H:=by simp[fM,rI0]
def Mg:fM K .GtE (.int i) (.int j) H Q↔Q (.bl (decide (j<=i))) H:=by simp[fM,rI0]
def F8{d:D}:Rep K H d (.int i)↔d=.int i:=by cases d<;>simp[Rep,eq_comm]
def ll:fM K .Eq (.int i) (.int j) H Q↔Q (.bl (decide (i=j))) H:=by
 simp only[fM,rEqD,F8];constructor;·rintro⟨_,_,rfl,rfl,_,q⟩;exact q
 ·intro q;exact⟨_,_,rfl,rfl,aV _,q⟩
def CH:fM K .NotEq (.int i) (.int j) H Q↔Q (.bl (!decide (i=j))) H:=by
 simp only[fM,rNeD,F8];constructor;·rintro⟨_,_,rfl,rfl,_,q⟩;exact q
 ·intro q;exact⟨_,_,rfl,rfl,aV _,q⟩
def is_n{x:V}:fM K .Is x .non H Q↔Q (.bl (decide (x=.non))) H:=by simp[fM]
def isnot_n{x:V}:fM K .IsNot x .non H Q↔Q (.bl (!decide (x=.non))) H:=by simp[fM]
def len_s:rBf K .len [.str z] H Q↔z.length<=sizeLine/\Q (.int z.length) H:=by simp[rBf]
def idx_s:rIx K (.str z) (.int i) H Q↔∃c,z.length<=sizeLine/\atI z.cps.toList i=some c/\Q (.str ⟨#[c]⟩) H:=by simp[rIx,rIxL,rIxT,rIxS]
def cut_s{lo hi:Option Int}:rSlc K (.str z) lo hi H Q↔z.length<=sizeLine/\Q (.str (xP z lo hi)) H:=by simp[rSlc,rSlL,rSlS]
end
structure um(J:It)(n:Nat)(it:Nat->V->Hp->Prop)(Hc:Hp->Prop):Prop where
 go:∀i H,Hc H->i<n->J.go i H
 stop:∀i H,Hc H->n<=i->J.stop i H
 yld:∀i H x H',Hc H->i<n->J.yld i H x H'->it i x H'/\aQ H H'
section
def dc:um (Itl K a) xs.length (fun i x _=>xs[i]? =some x) (fun H=>SqL K H a xs) where
 go:=fun i H h hi=>⟨xs,xs[i],h,by simp[hi]⟩
 stop:=fun i H h hi=>⟨xs,h,hi⟩
 yld:=fun i H x b h hi y=>by obtain⟨e,y⟩:=y;subst e;exact⟨y xs h,aQ.refl _⟩
def Aw:um (Itt K a) xs.length (fun i x _=>xs[i]? =some x) (fun H=>SqT K H a xs) where
 go:=fun i H h hi=>⟨xs,xs[i],h,by simp[hi]⟩
 stop:=fun i H h hi=>⟨xs,h,hi⟩
 yld:=fun i H x b h hi y=>by obtain⟨e,y⟩:=y;subst e;exact⟨y xs h,aQ.refl _⟩
def dD{lo:Int}:um (Itr lo n) n (fun i x _=>x=.int (lo+i)) (fun _=>True) where
 go:=fun i H _ hi=>hi
 stop:=fun i H _ hi=>hi
 yld:=fun i H x a _ hi y=>by obtain⟨e,y⟩:=y;subst e;exact⟨y,aQ.refl _⟩
def seq_str:um (Its z) z.length (fun i x _=>∃c,z.cps[i]? =some c/\x=.str ⟨#[c]⟩) (fun _=>True) where
 go:=fun i H _ hi=>hi
 stop:=fun i H _ hi=>hi
 yld:=fun i H x a _ hi y=>by obtain⟨e,y⟩:=y;subst e;exact⟨y,aQ.refl _⟩
def aB{p:Addr}{o:HO}(h:H p=none):aQ H (upd H p o):=fun b u e=>by rw[ba (bL e h)];exact e
def cU{p:Addr}{o:HO}(h:upd H p o=H1)(hp:H p=none):aQ H H1/\H1 p=some o:=by subst h;exact⟨aB hp,au⟩
def Ca{a:Hp->List V->Prop}:um (MV a) xs.length (fun i x H=>∃p v,x=.ref p/\H p=some (.tup [.int i,v])/\xs[i]? =some v) (fun H=>a H xs) where
 go:=fun i H h hi=>⟨xs,xs[i],h,by simp[hi]⟩
 stop:=fun i H h hi=>⟨xs,h,hi⟩
 yld:=fun i H x c h hi y=>by obtain⟨p,v,hp,e,b,y⟩:=y;subst e b;exact⟨⟨p,v,rfl,au,y xs h⟩,aB hp⟩
def ForB(J:It)(g:TG)(tb:TS)(D:Ends)(σ:L2.St)(H:Hp):Prop:=∃W:Nat->Nat->L2.St->Hp->Prop,(∃m,W 0 m σ H)/\∀i m σ H,W i m σ H->
 (J.stop i H/\D.nx σ H)\/(J.go i H/\∃N:L2.St->Hp->Prop,(∀b H',N b H'->∃a,a<m/\W (i+1) a b H')/\∀x H',J.yld i H x H'->g x σ H' fun c H2=>tb {D with nx:=N,ct:=N,bk:=D.nx} c H2)
def DN(J:It)(g:TG)(tc:TT)(te:TE)(o:L2.St)(H1:Hp)(Q:VK):Prop:=∃W:Nat->Nat->L2.St->List V->Hp->Prop,(∃m,W 0 m o [] H1)/\
 ∀i m h ac H2,W i m h ac H2->(J.stop i H2/\∀l,H2 l=none->Q (.ref l) (upd H2 l (.lst ac)))\/(J.go i H2/\∃N:L2.St->List V->Hp->Prop,(∀j e H',N j e H'->∃f,f<m/\W (i+1) f j e H')/\
  ∀x c,J.yld i H2 x c->g x h c fun a k=>tc a k fun b d=>if b=true then te a d fun v n=>ac.length<sizeLine/\N a (ac++[v]) n else N a ac d)
def GR{J:It}{c:Nat->V->Hp->Prop}{b:Hp->Prop}{g:TG}{tb:TS}{D:Ends}(S:um J n c b)(a:Nat->L2.St->Hp->Prop)(h0:a 0 σ H)(f:∀i σ H,i<=n->a i σ H->b H)
  (h:∀i x σ H H',i<n->a i σ H->c i x H'->aQ H H'->g x σ H' fun o H2=>tb {D with nx:=a (i+1),ct:=a (i+1),bk:=D.nx} o H2) (d:∀σ H,a n σ H->D.nx σ H):
  ForB J g tb D σ H:=by
 refine⟨fun i m σ H=>m=n-i/\i<=n/\a i σ H,⟨n,by simp,aV _,h0⟩,?_⟩;rintro i m σ H ⟨rfl,hi,p⟩;have q:=f i σ H hi p;by_cases hlt:i<n;·refine .inr ⟨S.go i H q hlt,a (i+1),fun r H' j=>⟨n-(i+1),by lia,rfl,hlt,j⟩,fun x H' y=>?_⟩;obtain⟨k,l⟩:=S.yld i H x H' q hlt y;exact h i x σ H H' hlt p k l
 ·have e:i=n:=by lia
  subst e;exact .inl ⟨S.stop i H q (aw _),d σ H p⟩
def dN{J:It}{B:Nat->V->Hp->Prop}{w:Hp->Prop}{g:TG}{D:TE}{Q:VK}{E:L2.St}(S:um J n B w)(hn:n<=sizeLine)(O:∀H,aQ H1 H->w H)
  (F:Nat->V->Hp->Prop)(I:∀i v H H',aQ H H'->F i v H->F i v H')(T:L2.St->Prop)(N:T E)
  (step:∀i x p o (R:L2.St->V->Hp->Prop),i<n->T p->aQ H1 o->B i x o->(∀j v h,T j->aQ o h->F i v h->R j v h)->g x p o fun G K=>D G K (R G))
  (M:∀vs H2 l,vs.length=n->(∀(i:Nat) v,vs[i]? =some v->F i v H2)->aQ H1 H2->H2 l=none->Q (.ref l) (upd H2 l (.lst vs))):
  DN J g tYes D E H1 Q:=by
 refine⟨fun i m p f H2=>m=n-i/\i<=n/\T p/\f.length=i/\aQ H1 H2/\∀(k:Nat) v,f[k]? =some v->F k v H2,⟨n,by simp,aV _,N,rfl,aQ.refl _,fun k v e=>by simp at e⟩,?_⟩;rintro i m p f H2 ⟨rfl,hi,X,A,s,z⟩;have q:=O H2 s;by_cases hlt:i<n
 ·refine .inr ⟨S.go i H2 q hlt,fun j t H'=>T j/\t.length=i+1/\aQ H1 H'/\∀(k:Nat) v,t[k]? =some v->F k v H',fun j t H' ⟨a,b,c,d⟩=>⟨n-(i+1),by lia,rfl,hlt,a,b,c,d⟩,fun x o y=>?_⟩;obtain⟨Z,u⟩:=S.yld i H2 x o q hlt y;refine step i x p o (fun j v h=>f.length<sizeLine/\T j/\(f++[v]).length=i+1/\aQ H1 h/\∀(k:Nat) r,(f++[v])[k]? =some r->F k r h) hlt X (s.trans u) Z fun j v h Y C L=>⟨by lia,Y,by simp[A],(s.trans u).trans C,fun k r e=>?_⟩;by_cases hk:k<f.length;·rw[cq hk]at e;exact I k r H2 h (u.trans C) (z k r e)
  ·rw[bO (by lia)]at e;have U:k-f.length=0:=by have :=(aC.mp e).1;simp at this;lia
   rw[U]at e;have P:k=i:=by lia
   simp at e;subst e;rw[P];exact L
 ·have e:i=n:=by lia
  subst e;exact .inl ⟨S.stop i H2 q (aw _),fun l W=>M f H2 l A z s W⟩
def cN{c:TI}{g:TG}{a:TT}{b:TE}{mk:L2.St->L2.St}{Q:VK}(h:c σ H fun J H1=>DN J g a b (mk σ) H1 Q):wo c g a b mk σ H Q:=h
def gH{a:TI}{g:TG}{tb:TS}{D:Ends}(h:a σ H fun J H1=>ForB J g tb D σ H1):tFor a g tb D σ H:=h
def DK{R:It->Hp->Prop}(a:σ[i]? =some (some (.str z)))(h:R (Its z) H):E9 K (rM i) σ H R:=⟨_,a,.inr (.inr ⟨z,rfl,h⟩)⟩
def cn{R:It->Hp->Prop}(b:σ[i]? =some (some (.ref a)))(hq:SqL K H a xs)(h:R (Itl K a) H):E9 K (rM i) σ H R:=⟨_,b,.inl ⟨a,rfl,⟨xs,hq⟩,h⟩⟩
def u9{R:It->Hp->Prop}(b:σ[i]? =some (some (.ref a)))(hq:SqT K H a xs)(h:R (Itt K a) H):E9 K (rM i) σ H R:=⟨_,b,.inr (.inl ⟨a,rfl,⟨xs,hq⟩,h⟩)⟩
def bool_list{vs:List V}{b:Nat->Bool}(c:vs.length=n)(h:∀(i:Nat) v,vs[i]? =some v->v=.bl (b i)):vs=((aH n).map b).map V.bl:=by
 apply bR;·simp[c]
 ·intro i a d;have :=h i vs[i] (by simp[a]);simp[this]
def sZ{a:Type}(l:List a)(d:a)(f:a->Bool):((aH l.length).map fun i=>f (l.getD i d)).all id=l.all f:=by
 rw[pU,cw];simp only[bg,aW,Function.comp,id];constructor;·intro h c b;obtain⟨i,hi,rfl⟩:=cL.mp b;have :=h i hi;rw[aa,ae hi]at this;exact this
 ·intro h i hi;have :=h _ (a9 hi);rw[aa,ae hi];exact this
def getD_some{a:Type}{l:List a}{d x:a}(h:l[i]? =some x):l.getD i d=x:=by rw[aa,h];rfl
theorem l7:∀ns:List Int,fw (ns.map D.int)=0
 | []=>rfl
 |n::ns=>by rw[b7,fw,l7 ns];rfl
def qT(x y:Str):(x++y).length=x.length+y.length:=by show(x.cps++y.cps).size=_;rw[Array.size_append];rfl
end
def HasFn(K:ah)(x:Str)(st:Stmt):Prop:=∃(f:Addr)(oc:Value)(od an:Option Addr)(ax:Array (Option Value))(kV ap pm am ct:Value),dG K bH x=some (some (.ref f))/\
 K.lookup f=some ⟨oc,od,.func (aE x x (bh st) (aX st) (aO st) .none kV ap pm an am ct),ax⟩/\eM K am x=true/\cP K (.ref f)=true
def Md{st:Stmt}{an:Option Addr}{kV:Value}(a:dG K bH x=some (some (.ref f)))
  (l:K.lookup f=some ⟨oc,od,.func (aE x x (bh st) (aX st) (aO st) .none kV ap pm an am ct),ax⟩)(c:eM K am x=true)(k:cP K (.ref f)=true):HasFn K x st:=
 ⟨f,oc,od,an,ax,kV,ap,pm,am,ct,a,l,c,k⟩
structure Def(K:ah)(mg:Str->Option Value)(x:Str)(st:Stmt):Prop where
 ex:∃f fd,Fun K x x st f fd/\mg x=some (.ref f)
def HasFn.def{st:Stmt}(X:K.In h)(b:h.Ns bH mg)(H:HasFn K x st):Def K mg x st:=by obtain⟨f,i,j,an,m,kV,g,n,d,e,a,l,c,k⟩:=H;exact⟨f,_,Fc l c k,dE X b a⟩
section
variable {mg:Str->Option Value}
def cM{vals:List (Str×V)}{b:List ((Str×Nat)×(Sp×List V))}{st:Stmt}{sp:Sp}{l:CB}{e i j:List ((Str×Nat)×(Addr×Sp×List V))}{a:List (Addr×List (Key×V))}(g:GOk P w K mg base (CXx P w) k (gam vals b e a i j))(d:Def K mg x st)
  (c:(qd N ps (aO st)&&rj (aO st) N l (aX st))=true)
  (m:∀(kV ap pm:Value)(an:Option Addr)(am ct:Value)(us:List Value),us.length=ps.length->rD (aE x x (bh st) (aX st) (aO st) .none kV ap pm an am ct) ⟨us,[]⟩=pure (ps.zip us))
  (len:∀vs H Q E,sp vs H Q E->vs.length=ps.length)
  (h:∀vs H Q E,sp vs H Q E->wpB (gam vals b e a i j) K (fun _=>E) l {nx:=fun _ H'=>Q .non H',rt:=Q} (L2.start N vs) H):GOk P w K mg base (CXx P w) (k+1) (gam vals (((x,ps.length),(sp,[]))::b) e a i j):=by
 rw[aF]at c;obtain⟨f,p,F,o⟩:=d.ex;exact g.add (n:=ps.length) (GU F c.1 c.2 g len h) o F.kp (F.binds m) .nil
end
end R
variable {G:R.Gam}
local macro_rules|`(tactic|ext)=>do let a:=("R.wpB R.wpS R.wpE R.wpT R.wpL R.wpO R.wpC R.wpG R.wpGs R.wpI L2.yx L2.tRet L2.JZ L2.B5 L2.Af L2.J2 L2.tIfS L2.J6 L2.tOrV L2.J1 L2.tNot L2.tAnd L2.tOr L2.yU R.El L2.tIf L2.tCB L2.lS L2.vi L2.rM L2.tC L2.tOp L2.wq L2.tTup L2.tLst L2.B6 L2.tBM L2.tSl L2.J0 L2.Ae R.cv L2.nC L2.gTup L2.Mh L2.gNil R.CGs.len L2.L9 L2.L8 L2.Ma L2.Mb List.getElem?_cons_zero List.getElem?_cons_succ Option.some.injEq exists_eq_left' exists_eq_left L2.V.bl.injEq L2.V.int.injEq L2.V.str.injEq List.set_cons_zero List.set_cons_succ R.CL.len R.Ty.t R.ye R.Eo R.mul_ii R.iC R.div_ii R.pow_ii R.add_ss R.GB R.LI R.Me R.Mg R.ll R.CH R.is_n R.isnot_n R.len_s R.idx_s R.cut_s List.append_nil R.mV List.map_cons List.map_nil List.nil_append List.cons_append".splitOn " ").toArray.map fun s=>Lean.mkIdent ("_root_."++s).toName;`(tactic|simp only[$[$a:term],*])
namespace Cp
open PySem R
abbrev EI:List Str:=["thing"]
abbrev xl:List Str:=["thing"]
abbrev ya:CB:=
  (.cons (.ret (.and (.bfn .isinstance (.cons (.var 0) (.cons (.ty .int) .nil))) (.not (.bfn .isinstance (.cons (.var 0) (.cons (.ty .bool) .nil))))))
  .nil)
abbrev Ih:List Str:=["thing"]
abbrev zr:List Str:=["thing"]
abbrev zJ:CB:=
  (.cons (.iff (.not (.bfn .isinstance (.cons (.var 0) (.cons (.ty .str) .nil))))
  (.cons (.ret (.con (.bool false)))
  .nil)
  .nil)
  (.cons (.iff (.not (.chain .LtE .LtE (.con (.int 1)) (.bfn .len (.cons (.var 0) .nil)) (.glo "LONGEST_NAME")))
  (.cons (.ret (.con (.bool false)))
  .nil)
  .nil)
  (.cons (.ret (.bfn .all (.cons (.comp ["sign"] [] (.name 0) (.seq (.var 0)) .no (.cmp .In (.var 0) (.glo "LETTERS"))) .nil)))
  .nil)))
abbrev AO:List Str:=["thing"]
abbrev sg:List Str:=["thing"]
abbrev sT:CB:=
  (.cons (.ret (.and (.call "is_whole" (.cons (.var 0) .nil)) (.cmp .In (.var 0) (.tup (.cons (.con (.int 0)) (.cons (.con (.int 1)) .nil))))))
  .nil)
abbrev wR:List Str:=["thing"]
abbrev oA:List Str:=["thing"]
abbrev ph:CB:=
  (.cons (.iff (.or (.not (.bfn .isinstance (.cons (.var 0) (.cons (.ty .tuple) .nil)))) (.cmp .Gt (.bfn .len (.cons (.var 0) .nil)) (.glo "MOST_PLACES")))
  (.cons (.ret (.con (.bool false)))
  .nil)
  .nil)
  (.cons (.ret (.bfn .all (.cons (.comp ["part"] [] (.name 0) (.seq (.var 0)) .no (.call "is_reading" (.cons (.var 0) .nil))) .nil)))
  .nil))
end Cp
set_option maxHeartbeats 1000000
namespace Cp
open PySem PySem.Spec PyProof.Rows L2 R
abbrev jR:Option HO->String
 |some (.lst _)=>"list"
 |some (.frz _ (.lst _))=>"list"
 |some (.tup _)=>"tuple"
 |some (.dK _)=>"dict"
 |some (.dT _)=>"dict"
 |_=>"?"
abbrev tyName(H:Hp):V->String
 |.non=>"NoneType"
 |.bl _=>"bool"
 |.int _=>"int"
 |.str _=>"str"
 |.ref a=>jR (H a)
 |_=>"?"
def Known(H:Hp)(x:V):Prop:=tyName H x≠"?"
def Known.same{x:V}(h:Known H x)(s:aQ H H'):Known H' x/\tyName H' x=tyName H x:=by
 cases x with
 |ref a=>
  have b:jR (H a)≠"?":=h;show jR (H' a)≠"?"/\jR (H' a)=jR (H a);cases e:H a with
  |none=>rw[e]at b;exact absurd rfl b
  |some o=>rw[s a o e];rw[e]at b;exact⟨b,rfl⟩
 |_=>exact⟨h,rfl⟩
def Known.ty{x:V}(h:Known H x):nY K H x (.type (tyName H x)):=by
 cases x with
 |non=>exact .non
 |bl b=>exact .bl b
 |int i=>exact .int i
 |str s=>exact .str s
 |ref a=>
  have c:jR (H a)≠"?":=h;show nY K H (.ref a) (.type (jR (H a)));cases e:H a with
  |none=>rw[e]at c;exact absurd rfl c
  |some o=>
   rw[e]at c;cases o with
   |lst xs=>exact .lst e
   |tup xs=>exact .tup e
   |dK kvs=>exact .dK e
   |dT kvs=>exact .dT e
   |frz ob u=>
    cases u with
    |lst xs=>exact .frz e
    |_=>exact absurd rfl c
   |_=>exact absurd rfl c
 |_=>exact absurd rfl h
def Mc{P:Option HO->Prop}(o:Option HO)(c:∀xs,P (some (.lst xs)))(d:∀b xs,P (some (.frz b (.lst xs))))(e:∀xs,P (some (.tup xs)))(f:∀kvs,P (some (.dK kvs)))(g:∀kvs,P (some (.dT kvs)))(a:jR o="?"->P o):P o:=by
 cases o with
 |none=>exact a rfl
 |some o=>
  cases o with
  |lst xs=>exact c xs
  |tup xs=>exact e xs
  |dK kvs=>exact f kvs
  |dT kvs=>exact g kvs
  |frz b u=>
   cases u with
   |lst xs=>exact d b xs
   |_=>exact a rfl
  |_=>exact a rfl
def Known.mem{x:V}(h:Known H x):tyName H x∈["NoneType","bool","int","str","list","tuple","dict"]:=by
 cases x with
 |ref a=>
  have b:jR (H a)≠"?":=h;show jR (H a)∈_;cases e:H a with
  |none=>rw[e]at b;exact absurd rfl b
  |some o=>
   rw[e]at b;cases o with
   |lst xs=>show "list"∈_;decide
   |tup xs=>show "tuple"∈_;decide
   |dK kvs=>show "dict"∈_;decide
   |dT kvs=>show "dict"∈_;decide
   |frz ob u=>
    cases u with
    |lst xs=>show "list"∈_;decide
    |_=>exact absurd rfl b
   |_=>exact absurd rfl b
 |_=>first
  |exact absurd rfl h
  |exact aM
  |exact aK _ aM
  |exact aK _ (aK _ aM)
  |exact aK _ (aK _ (aK _ aM))
abbrev k9(a b:String):Bool:=a==b||(a=="bool"&&b=="int")
def kit_ty(K:ah):∀(a:String)(t:Ty),a∈["NoneType","bool","int","str","list","tuple","dict"]->gS K (.type a) (.type t.t)=some (k9 a t.t):=by intro a t h;simp only[aI,dy,or_false]at h;rcases h with rfl|rfl|rfl|rfl|rfl|rfl|rfl<;>cases t<;>rfl
def isi{x:V}{Q:VK}(h:Known H x)(t:Ty)(q:Q (.bl (k9 (tyName H x) t.t)) H):rBf K .isinstance [x,.ty t.t] H Q:=
 .inl ⟨x,t.t,_,_,rfl,h.ty,kit_ty K _ t h.mem,q⟩
def A4{i:Int}:Known H (.int i):=by show "int"≠"?";decide
def kn_str:Known H (.str x):=by show "str"≠"?";decide
def E1(h:H a=some (.tup xs)):Known H (.ref a):=by show jR (H a)≠"?";rw[h];show "tuple"≠"?";decide
def LN(h:H a=some (.lst xs)):Known H (.ref a):=by show jR (H a)≠"?";rw[h];show "list"≠"?";decide
def eH{o:HO}(s:aQ H H1)(h:H l=none):aQ H (upd H1 l o):=fun b u e=>by rw[ba (bL e h)];exact s b u e
abbrev isWhole:V->Bool
 |.int _=>true
 |_=>false
abbrev cO:V->Bool
 |.int i=>i==0||i==1
 |_=>false
def spB(f:V->Bool):Sp:=fun vs H Q _=>∃x,vs=[x]/\Known H x/\∀H',aQ H H'->Q (.bl (f x)) H'
def sub_int{x:V}(h:Known H x):(k9 (tyName H x) "int"&& !k9 (tyName H x) "bool")=isWhole x:=by
 cases x with
 |ref a=>have b:jR (H a)≠"?":=h;exact Mc (P:=fun o=>(k9 (jR o) "int"&& !k9 (jR o) "bool")=false) (H a) (fun _=>rfl) (fun _ _=>rfl) (fun _=>rfl) (fun _=>rfl) (fun _=>rfl) fun e=>by rw[e];rfl
 |_=>rfl
def BZ:Sat G K (spB isWhole) ya xl:=by
 rintro c H Q E ⟨x,rfl,b,q⟩;unfold ya;change wpB G K _ _ _ [some x] H;ext;refine isi b .int ⟨_,rfl,?_⟩;have e:=sub_int b;cases h1:k9 (tyName H x) "int" with
 |false=>rw[h1,dk]at e;have a:=q H (aQ.refl H);rw[<-e]at a;simpa[Ty.t,h1]using a
 |true=>rw[h1,fE]at e;have a:=q H (aQ.refl H);rw[<-e]at a;simp only[Ty.t,h1,if_true];exact isi b .bool ⟨_,rfl,a⟩
def yv(d:G.fn "is_whole" 1=some (spB isWhole,[])):
  Sat G K (spB cO) sT sg:=by
 rintro h H Q E ⟨x,rfl,f,q⟩;unfold sT;change wpB G K _ _ _ [some x] H;ext;refine⟨_,_,d,x,rfl,f,fun c b=>⟨_,rfl,?_⟩⟩;cases x with
 |int i=>
  refine⟨by decide,fun p hp=>.inr ⟨p,_,rfl,.inr (SqT.of au),rfl,rfl,?_⟩⟩;have g:=q _ (b.trans (aB (o:=.tup [.int 0,.int 1]) hp));have e:(if false=true then !inV (.int i) [.int 0,.int 1]else inV (.int i) [.int 0,.int 1])=cO (.int i):=by show((0:Int)==i||((1:Int)==i||false))=(i==0||i==1);rw[Bool.or_false,Bool.beq_comm,Bool.beq_comm (a:=(1:Int))]
  rw[e];exact g
 |_=>exact q c b
abbrev m3(c:Nat):Bool:=decide (97<=c/\c<=122)
abbrev iB(z:Str):Bool:=decide (1<=z.length/\z.length<=8)&&z.cps.toList.all m3
abbrev isName:V->Bool
 |.str z=>iB z
 |_=>false
abbrev LETTERS:Str:="abcdefghijklmnopqrstuvwxyz"
def CZ(c:Nat):decide (c∈LETTERS.cps.toList)=m3 c:=by unfold m3;rw[show LETTERS.cps.toList=List.range' 97 26 by decide+kernel,decide_eq_decide,List.mem_range'_1];exact⟨fun h=>⟨h.1,Nat.le_of_lt_succ h.2⟩,fun h=>⟨h.1,Nat.lt_succ_of_le h.2⟩⟩
def E7{c:Nat}{Q:VK}(q:Q (.bl (m3 c)) H):fM K .In (.str ⟨#[c]⟩) (.str LETTERS) H Q:=by refine .inl (.inl ⟨_,_,rfl,rfl,?_⟩);rw[StrLaws.found_one,CZ];exact q
def EX:(20000:Nat)<=sizeLine:=by decide
def spN:Sp:=fun vs H Q _=>∃x,vs=[x]/\Known H x/\(∀z,x=.str z->z.length<=20000)/\∀H',aQ H H'->Q (.bl (isName x)) H'
def sub_str{x:V}(h:Known H x):k9 (tyName H x) "str"=(match x with |.str _=>true|_=>false):=by
 cases x with
 |ref a=>exact Mc (P:=fun o=>k9 (jR o) "str"=false) (H a) (fun _=>rfl) (fun _ _=>rfl) (fun _=>rfl) (fun _=>rfl) (fun _=>rfl) fun e=>by rw[e];rfl
 |_=>rfl
def Ef(v1:G.val "LETTERS"=some (.str LETTERS))(A:G.val "LONGEST_NAME"=some (.int 8)):
  Sat G K spN zJ zr:=by
 rintro B H Q E ⟨x,rfl,m,g,q⟩;unfold zJ;change wpB G K _ _ _ [some x] H;ext;refine isi m .str ⟨_,rfl,?_⟩;rw[show Ty.t .str="str" from rfl,sub_str m];cases x with
 |str z=>
  have g:=g z rfl;have n:z.length<=sizeLine:=aL g EX;have all:∀R:VK,(∀b,aQ H b->R (.bl (z.cps.toList.all m3)) b)->wo (E9 K (rM 0)) (nC 0) tYes (tOp (fM K .In) (rM 0) fun F H Q=>∃v,G.val "LETTERS"=some v/\Q v H) (mV ["sign"] []) [some (.str z)] H fun x j=>rBf K .all [x] j R:=by
   intro R r;refine cN (DK rfl (dN seq_str n (fun _ _=>trivial) (fun i v _=>v=.bl (m3 (z.cps.toList.getD i 0))) (fun _ _ _ _ _ h=>h) (fun o=>∃t,o=[t]) ⟨none,rfl⟩ ?_ ?_))
   ·rintro i x o C R hi ⟨t,rfl⟩ D ⟨c,s,rfl⟩ k;refine⟨_,rfl,_,v1,E7 (k _ _ _ ⟨_,rfl⟩ (aQ.refl _) ?_)⟩;have :z.cps.toList[i]? =some c:=by simpa using s
    rw[aa,this];rfl
   ·intro B j l w p y u;have e:=bool_list w p;subst e;refine⟨l,_,rfl,SqL.of au,?_⟩;have f:((aH z.length).map fun i=>m3 (z.cps.toList.getD i 0)).all id=z.cps.toList.all m3:=by have :=sZ z.cps.toList 0 m3;rw[show z.cps.toList.length=z.length by simp[DR]]at this;exact this
    rw[f];exact r _ (y.trans (aB u))
  simp only[gM,aZ,if_false,A,kM,exists_eq_left',exists_eq_left,V.bl.injEq,V.int.injEq,LI,len_s,n,true_and];have a:∀b,aQ H b->Q (.bl (iB z)) b:=q;unfold iB at a;by_cases h1:1<=z.length
  ·by_cases h2:z.length<=8;·have d:decide ((1:Int)<=z.length)=true:=decide_eq_true (by lia);have f:decide ((z.length:Int)<=8)=true:=decide_eq_true (by lia);rw[decide_eq_true (And.intro h1 h2),fE]at a;simp only[d,f,if_true,gM,aZ,if_false];exact all Q a
   ·have d:decide ((1:Int)<=z.length)=true:=decide_eq_true (by lia);have f:decide ((z.length:Int)<=8)=false:=decide_eq_false (by lia);rw[decide_eq_false (fun h=>h2 h.2),dk]at a;simp only[d,f,if_true,Bool.not_false];exact a H (aQ.refl H)
  ·have d:decide ((1:Int)<=z.length)=false:=decide_eq_false (by lia);rw[decide_eq_false (fun h=>h1 h.1),dk]at a;simp only[d,aZ,if_false,Bool.not_false,if_true];exact a H (aQ.refl H)
 |_=>exact q H (aQ.refl H)
abbrev dS:Option HO->Option (List V)
 |some (.tup xs)=>some xs
 |_=>none
def m4{o:Option HO}(h:dS o=some xs):o=some (.tup xs):=by
 cases o with
 |none=>cases h
 |some o=>cases o<;>first | (cases h;rfl) |cases h
def yV(o:Option HO):k9 (jR o) "tuple"=(dS o).isSome:=by
 cases o with
 |none=>rfl
 |some o=>
  cases o with
  |frz ob u=>cases u<;>rfl
  |_=>rfl
abbrev dH(H:Hp):V->Bool
 |.ref a=>match dS (H a)with
  |some xs=>decide (xs.length<=60)&&xs.all cO
  |none=>false
 |_=>false
def spR:Sp:=fun vs H Q _=>∃x,vs=[x]/\Known H x/\(∀a xs,x=.ref a->H a=some (.tup xs)->xs.length<=20000/\∀y∈xs,Known H y)/\∀H',aQ H H'->Q (.bl (dH H x)) H'
def vh(m:G.fn "is_reading" 1=some (spB cO,[]))(v1:G.val "MOST_PLACES"=some (.int 60)):
  Sat G K spR ph oA:=by
 rintro I H Q E ⟨x,rfl,o,w,q⟩;unfold ph;change wpB G K _ _ _ [some x] H;ext;refine isi o .tuple ⟨_,rfl,?_⟩;rw[show Ty.t .tuple="tuple" from rfl];cases x with
 |ref a=>
  show if(!k9 (jR (H a)) "tuple")=true then _ else _
  rw[yV];have d:∀b,aQ H b->Q (.bl (match dS (H a)with |some xs=>decide (xs.length<=60)&&xs.all cO|none=>false)) b:=q;cases e0:dS (H a)with
  |none=>rw[e0]at d;exact d H (aQ.refl H)
  |some xs=>
    rw[e0]at d;have e:=m4 e0;have c:∀b,aQ H b->Q (.bl (decide (xs.length<=60)&&xs.all cO)) b:=d;obtain⟨p,z⟩:=w a xs rfl e;have r:xs.length<=sizeLine:=aL p EX;simp only[gd,gM,aZ,if_false];refine Or.inl ⟨a,xs,rfl,.inr (SqT.of e),_,v1,?_⟩;rw[Me];refine⟨_,rfl,?_⟩;by_cases hle:xs.length<=60
    ·rw[decide_eq_true hle,fE]at c;have f:decide ((60:Int)<xs.length)=false:=decide_eq_false (by lia);rw[f];simp only[aZ,if_false];refine cN (u9 rfl (SqT.of e) (dN Aw r (fun J B=>B.tup (SqT.of e)) (fun i v _=>v=.bl (cO (xs.getD i .non))) (fun _ _ _ _ _ h=>h) (fun j=>∃t,j=[t]) ⟨none,rfl⟩ ?_ ?_));·rintro i y j M R hi ⟨t,rfl⟩ D g k;have A:y∈xs:=aG g;exact⟨_,_,m,y,rfl,y,rfl,((z y A).same D).1,fun N F=>k _ _ _ ⟨_,rfl⟩ F (by rw[getD_some g])⟩
     ·intro I L l u n C s;have e:=bool_list u n;subst e;refine⟨l,_,rfl,SqL.of au,?_⟩;rw[sZ xs .non cO];exact c _ (C.trans (aB s))
    ·rw[decide_eq_false hle,dk]at c;have f:decide ((60:Int)<xs.length)=true:=decide_eq_true (by lia);rw[f];simpa using c H (aQ.refl H)
 |_=>exact q H (aQ.refl H)
end Cp
namespace Cp
open PySem R
abbrev Ii:List Str:=["thing"]
abbrev zt:List Str:=["thing"]
abbrev zK:CB:=
  (.cons (.iff (.or (.not (.bfn .isinstance (.cons (.var 0) (.cons (.ty .tuple) .nil)))) (.cmp .NotEq (.bfn .len (.cons (.var 0) .nil)) (.con (.int 2))))
  (.cons (.ret (.con (.bool false)))
  .nil)
  .nil)
  (.cons (.ret (.and (.call "is_name" (.cons (.idx (.var 0) (.con (.int 0))) .nil)) (.call "are_readings" (.cons (.idx (.var 0) (.con (.int 1))) .nil))))
  .nil))
abbrev EJ:List Str:=["thing"]
abbrev xn:List Str:=["thing","names","counts"]
abbrev yb:CB:=
  (.cons (.iff (.or (.not (.bfn .isinstance (.cons (.var 0) (.cons (.ty .list) .nil)))) (.cmp .Gt (.bfn .len (.cons (.var 0) .nil)) (.glo "MOST_COPIES")))
  (.cons (.ret (.con (.bool false)))
  .nil)
  .nil)
  (.cons (.iff (.not (.bfn .all (.cons (.comp ["part"] [] (.name 0) (.seq (.var 0)) .no (.call "is_copy" (.cons (.var 0) .nil))) .nil)))
  (.cons (.ret (.con (.bool false)))
  .nil)
  .nil)
  (.cons (.asgc 1 (.comp ["name","readings"] [] (.tup (.cons (.name 0) (.cons (.name 1) .nil))) (.seq (.var 0)) .no (.var 0)))
  (.cons (.asgc 2 (.comp ["name","readings"] [] (.tup (.cons (.name 0) (.cons (.name 1) .nil))) (.seq (.var 0)) .no (.bfn .len (.cons (.var 1) .nil))))
  (.cons (.ret (.and (.cmp .Eq (.bfn .len (.cons (.bfn .set (.cons (.var 1) .nil)) .nil)) (.bfn .len (.cons (.var 1) .nil))) (.cmp .LtE (.bfn .len (.cons (.bfn .set (.cons (.var 2) .nil)) .nil)) (.con (.int 1)))))
  .nil)))))
abbrev AJ:List Str:=["table"]
abbrev r6:List Str:=["table"]
abbrev sG:CB:=
  (.cons (.iff (.not (.call "is_table" (.cons (.var 0) .nil)))
  .hole
  .nil)
  .nil)
abbrev yC:List Str:=["table"]
abbrev qg:List Str:=["table"]
abbrev qo:CB:=
  (.cons (.expr (.call "need_table" (.cons (.var 0) .nil)))
  (.cons (.iff (.cmp .Eq (.bfn .len (.cons (.var 0) .nil)) (.con (.int 0)))
  (.cons (.ret (.con (.int 0)))
  .nil)
  .nil)
  (.cons (.ret (.bfn .len (.cons (.idx (.idx (.var 0) (.con (.int 0))) (.con (.int 1))) .nil)))
  .nil)))
end Cp
namespace Cp
open PySem PySem.Spec PyProof.Rows L2 R
def Kn1(H:Hp)(x:V):Prop:=Known H x/\∀z,x=.str z->z.length<=20000
def Kn2(H:Hp)(x:V):Prop:=Kn1 H x/\∀a xs,x=.ref a->H a=some (.tup xs)->xs.length<=20000/\∀y∈xs,Kn1 H y
def Kn3(H:Hp)(x:V):Prop:=Kn1 H x/\∀a xs,x=.ref a->H a=some (.tup xs)->xs.length<=20000/\∀y∈xs,Kn2 H y
abbrev eO:Option HO->Option (List V)
 |some (.lst xs)=>some xs
 |some (.frz _ (.lst xs))=>some xs
 |_=>none
def Kn4(H:Hp)(x:V):Prop:=Kn1 H x/\∀a xs,x=.ref a->eO (H a)=some xs->xs.length<=20000/\∀y∈xs,Kn3 H y
def zY{o:HO}(s:aQ H H')(k:H a≠none)(h:H' a=some o):H a=some o:=by
 cases e:H a with
 |none=>exact absurd e k
 |some u=>rw[s a u e]at h;exact h
def Known.some(k:Known H (.ref a)):H a≠none:=fun e=>by have b:jR (H a)≠"?":=k;rw[e]at b;exact b rfl
theorem Kn1.same{x:V}(h:Kn1 H x)(s:aQ H H'):Kn1 H' x:=⟨(h.1.same s).1,h.2⟩
theorem Kn2.same{x:V}(h:Kn2 H x)(s:aQ H H'):Kn2 H' x:=⟨h.1.same s,fun a d e b=>by subst e;obtain⟨l,k⟩:=h.2 a d rfl (zY s h.1.1.some b);exact⟨l,fun y c=>(k y c).same s⟩⟩
theorem Kn3.same{x:V}(h:Kn3 H x)(s:aQ H H'):Kn3 H' x:=⟨h.1.same s,fun a d e b=>by subst e;obtain⟨l,k⟩:=h.2 a d rfl (zY s h.1.1.some b);exact⟨l,fun y c=>(k y c).same s⟩⟩
def zZ{x:V}(h:Known H x)(s:aQ H H'):dH H' x=dH H x:=by
 cases x with
 |ref a=>
  show(match dS (H' a)with |some xs=>_|none=>_)=(match dS (H a)with |some xs=>_|none=>_);cases e:H a with
  |none=>exact absurd e h.some
  |some o=>rw[s a o e]
 |_=>rfl
abbrev dB(H:Hp):V->Bool
 |.ref a=>match dS (H a)with
  |some [n,r]=>isName n&&dH H r
  |_=>false
 |_=>false
def IT{x:V}(h:Kn3 H x)(s:aQ H H'):dB H' x=dB H x:=by
 cases x with
 |ref a=>
  show(match dS (H' a)with |some [n,r]=>_|_=>_)=(match dS (H a)with |some [n,r]=>_|_=>_);cases e:H a with
  |none=>exact absurd e h.1.1.some
  |some o=>
   rw[s a o e];cases o with
   |tup xs=>
    match xs with
    | []=>rfl
    | [_]=>rfl
    | [n,r]=>have k:=(h.2 a _ rfl e).2 r (by simp);show(isName n&&dH H' r)=(isName n&&dH H r);rw[zZ k.1.1 s]
    |_::_::_::_=>rfl
   |_=>rfl
 |_=>rfl
def spC:Sp:=fun vs H Q _=>∃x,vs=[x]/\Kn3 H x/\∀H',aQ H H'->Q (.bl (dB H x)) H'
def Eg(u:G.fn "is_name" 1=some (spN,[]))(v:G.fn "are_readings" 1=some (spR,[])):
  Sat G K spC zK zt:=by
 rintro C H Q E ⟨x,rfl,i,q⟩;unfold zK;change wpB G K _ _ _ [some x] H;ext;refine isi i.1.1 .tuple ⟨_,rfl,?_⟩;rw[show Ty.t .tuple="tuple" from rfl];cases x with
 |ref a=>
  show if(!k9 (jR (H a)) "tuple")=true then _ else _
  rw[yV];have c:∀f,aQ H f->Q (.bl (match dS (H a)with |some [n,r]=>isName n&&dH H r|_=>false)) f:=q;cases e0:dS (H a)with
  |none=>rw[e0]at c;exact c H (aQ.refl H)
  |some xs=>
   have e:=m4 e0;rw[e0]at c;obtain⟨z,d⟩:=i.2 a xs rfl e;simp only[gd,gM,aZ,if_false];refine Or.inl ⟨a,xs,rfl,.inr (SqT.of e),?_⟩;show fM K .NotEq (.int (xs.length:Int)) (.int 2) H _;rw[CH];refine⟨_,rfl,?_⟩
   match xs,z,d,e,c with
   | [],_,_,_,c=>exact c H (aQ.refl H)
   | [_],_,_,_,c=>exact c H (aQ.refl H)
   |_::_::_::r,_,_,_,c=>rw[if_pos (by simp;lia)];exact c H (aQ.refl H)
   | [n,r],_,d,e,c=>
    rw[if_neg (by simp)];have j:=d n (by simp);have m:=d r (by simp);refine⟨_,_,u,.inr (.inl ⟨a,[n,r],0,n,rfl,rfl,SqT.of e,rfl,n,rfl,j.1.1,j.1.2,fun p g=>⟨_,rfl,?_⟩⟩)⟩;have h:∀f,aQ H f->Q (.bl (isName n&&dH H r)) f:=c;cases en:isName n with
    |false=>rw[en,dk]at h;rw[if_neg ak];exact h p g
    |true=>
     rw[en,fE]at h;rw[if_pos rfl];have o:=m.same g;refine⟨_,_,v,.inr (.inl ⟨a,[n,r],1,r,rfl,rfl,g.tup (SqT.of e),rfl,r,rfl,o.1.1,fun b B t w=>?_,fun s A=>?_⟩)⟩;·obtain⟨l,k⟩:=o.2 b B t w;exact⟨l,fun y d=>(k y d).1⟩
     ·rw[zZ m.1.1 g];exact h s (g.trans A)
 |_=>exact q H (aQ.refl H)
def CU{vs:List V}{f:V->V}(c:vs.length=xs.length)(h:∀(i:Nat) v,vs[i]? =some v->v=f (xs.getD i .non)):vs=xs.map f:=by
 apply bR;·simp[c]
 ·intro i a d;have b:i<xs.length:=by lia
  have :=h i vs[i] (by simp[a]);rw[this,bD,aa,ae b];rfl
theorem zq:∀(l:List Str),(l.map (fz:Str->Key)).Nodup↔l.Nodup
 | []=>by simp
 |x::l=>by
  rw[b7,bW,bW,zq l];have e:fz x∈l.map (fz:Str->Key)↔x∈l:=by
   constructor
   ·intro h;obtain⟨y,a,e⟩:=az.mp h;injection e with e
    rw[<-e];exact a
   ·exact fun h=>az.mpr ⟨x,h,rfl⟩
  rw[e]
def lZ(h:eO (H a)=some xs):SqL K H a xs:=by
 cases e:H a with
 |none=>rw[e]at h;cases h
 |some o=>
  rw[e]at h;cases o with
  |lst ys=>cases h;exact .inl (.inl e)
  |frz ob u=>cases u<;>first | (cases h;exact .inl (.inr ⟨ob,e⟩)) |cases h
  |_=>cases h
def J7(o:Option HO):k9 (jR o) "list"=(eO o).isSome:=by
 cases o with
 |none=>rfl
 |some o=>
  cases o with
  |frz ob u=>cases u<;>rfl
  |_=>rfl
abbrev a6(H:Hp):V->Str
 |.ref a=>match dS (H a)with
  |some (.str z::_)=>z
  |_=>""
 |_=>""
abbrev cF(H:Hp):V->Nat
 |.ref a=>match dS (H a)with
  |some [_,.ref b]=>(dS (H b)).elim 0 ke
  |_=>0
 |_=>0
def iD{x:V}(h:dB H x=true):∃a z b ys,x=.ref a/\H a=some (.tup [.str z,.ref b])/\H b=some (.tup ys)/\iB z=true/\ys.length<=60/\(∀y∈ys,cO y=true)/\a6 H x=z/\cF H x=ys.length:=by
 cases x with
 |ref a=>
  have d:(match dS (H a)with |some [n,r]=>isName n&&dH H r|_=>false)=true:=h;split at d
  ·rename_i n r e;rw[aF]at d;obtain⟨f,g⟩:=d;cases n with
   |str z=>
    cases r with
    |ref b=>
     have c:(match dS (H b)with |some xs=>decide (xs.length<=60)&&xs.all cO|none=>false)=true:=g;split at c
     ·rename_i ys eb;rw[aF,decide_eq_true_eq,bg]at c;refine⟨a,z,b,ys,rfl,m4 e,m4 eb,f,c.1,c.2,?_,?_⟩;·show(match dS (H a)with |some (.str z::_)=>z|_=>"")=z;rw[e]
      ·show(match dS (H a)with |some [_,.ref b]=>(dS (H b)).elim 0 ke|_=>0)=ys.length;rw[e];show(dS (H b)).elim 0 ke=ys.length;rw[eb];rfl
     ·cases c
    |_=>cases g
   |_=>cases f
  ·cases d
 |_=>cases h
abbrev dW(H:Hp):V->Bool
 |.ref a=>match eO (H a)with
  |some xs=>decide (xs.length<=40)&&(xs.all (dB H)&&(decide ((xs.map (a6 H)).Nodup)&&decide (∀y∈xs,∀z∈xs,cF H y=cF H z)))
  |none=>false
 |_=>false
def spT:Sp:=fun vs H Q _=>∃x,vs=[x]/\Kn4 H x/\∀H',aQ H H'->Q (.bl (dW H x)) H'
def B0(g1:G.fn "is_copy" 1=some (spC,[]))(v1:G.val "MOST_COPIES"=some (.int 40)):
  Sat G K spT yb xn:=by
 rintro vs H Q c3 ⟨a0,rfl,W,q⟩;unfold yb;change wpB G K _ _ _ [some a0,none,none] H;ext;refine isi W.1.1 .list ⟨_,rfl,?_⟩;rw[show Ty.t .list="list" from rfl];cases a0 with
 |ref a=>
  show if(!k9 (jR (H a)) "list")=true then _ else _
  rw[J7];have x:∀f,aQ H f->Q (.bl (match eO (H a)with |some xs=>decide (xs.length<=40)&&(xs.all (dB H)&&(decide ((xs.map (a6 H)).Nodup)&&decide (∀y∈xs,∀z∈xs,cF H y=cF H z))) |none=>false)) f:=q;cases e0:eO (H a)with
  |none=>rw[e0]at x;exact x H (aQ.refl H)
  |some xs=>
   rw[e0]at x;obtain⟨hl,hy⟩:=W.2 a xs rfl e0;have L:xs.length<=sizeLine:=aL hl EX;simp only[gd,gM,aZ,if_false];refine Or.inl ⟨a,xs,rfl,.inl (lZ e0),_,v1,?_⟩;rw[Me];refine⟨_,rfl,?_⟩;by_cases hle:xs.length<=40
   ·rw[decide_eq_false (by lia:¬(40:Int)<xs.length),if_neg ak];have m:∀f,aQ H f->Q (.bl (xs.all (dB H)&&(decide ((xs.map (a6 H)).Nodup)&&decide (∀y∈xs,∀z∈xs,cF H y=cF H z)))) f:=fun f s'=>by have z:Q (.bl (decide (xs.length<=40)&&(xs.all (dB H)&&(decide ((xs.map (a6 H)).Nodup)&&decide (∀y∈xs,∀z∈xs,cF H y=cF H z))))) f:=x f s';rw[decide_eq_true hle,fE]at z;exact z
    have B:∀{r:Hp},aQ H r->SqL K r a xs:=fun n=>n.seq (lZ e0);refine cN (cn rfl (lZ e0) (dN dc L (fun r n=>B n) (fun i v _=>v=.bl (dB H (xs.getD i .non))) (fun _ _ _ _ _ h=>h) (fun g=>∃t,g=[t]) ⟨none,rfl⟩ ?_ ?_));·rintro i y g T R hi ⟨t,rfl⟩ e d k;have Y:=hy y (aG d);exact⟨_,_,g1,y,rfl,y,rfl,Y.same e,fun s A=>k _ _ _ ⟨_,rfl⟩ A (by rw[getD_some d,IT Y e])⟩
    intro vs S l b6 hF s2 b1;have a1:=bool_list b6 hF;subst a1;refine⟨l,_,rfl,SqL.of au,_,rfl,?_⟩;rw[sZ xs .non (dB H)];have e:aQ H (upd S l (.lst (((aH xs.length).map fun i=>dB H (xs.getD i .non)).map V.bl))):=s2.trans (aB b1);generalize upd S l (.lst (((aH xs.length).map fun i=>dB H (xs.getD i .non)).map V.bl))=T at e;cases ea:xs.all (dB H)with
    |false=>rw[ea,dk]at m;rw[if_pos (by rfl)];exact m T e
    |true=>
     rw[ea,fE]at m;rw[if_neg (by simp)];rw[bg]at ea;have sh:∀{i:Nat}{y:V},xs[i]? =some y->∃a z b o,y=.ref a/\H a=some (.tup [.str z,.ref b])/\H b=some (.tup o)/\a6 H y=z/\cF H y=o.length:=fun d=>by obtain⟨a,z,b,o,j,D,E,_,_,_,h7,h8⟩:=iD (ea _ (aG d));exact⟨a,z,b,o,j,D,E,h7,h8⟩
     refine cN (cn rfl (B e) (dN dc L (fun r n=>B (e.trans n)) (fun i v _=>v=.str (a6 H (xs.getD i .non))) (fun _ _ _ _ _ h=>h) (fun g=>∃t u,g=[t,u]) ⟨none,none,rfl⟩ ?_ ?_));·rintro i y g s R hi ⟨t,u,rfl⟩ A d k;obtain⟨b,z,c,o,rfl,j,D,E,U⟩:=sh d;refine⟨b,_,rfl,(e.trans A).tup (SqT.of j),rfl,_,_,rfl,_,_,rfl,rfl,_,rfl,k _ _ _ ⟨_,_,rfl⟩ (aQ.refl _) ?_⟩;rw[getD_some d,E]
     intro b9 s l1 b7 a4 A b2;have e1:b9=xs.map fun y=>V.str (a6 H y):=CU b7 a4;subst e1;have p:aQ H (upd s l1 (.lst (xs.map fun y=>V.str (a6 H y)))):=e.trans (A.trans (aB b2));have O:SqL K (upd s l1 (.lst (xs.map fun y=>V.str (a6 H y)))) l1 (xs.map fun y=>V.str (a6 H y)):=SqL.of au;generalize upd s l1 (.lst (xs.map fun y=>V.str (a6 H y)))=H5 at p O;refine cN (cn rfl (B p) (dN dc L (fun r n=>B (p.trans n)) (fun i v _=>v=.int (cF H (xs.getD i .non))) (fun _ _ _ _ _ h=>h) (fun g=>∃t u,g=[t,u]) ⟨none,none,rfl⟩ ?_ ?_));·rintro i y g C R hi ⟨t,u,rfl⟩ F d k;obtain⟨b,z,c,o,rfl,j,D,E,U⟩:=sh d;refine⟨b,_,rfl,(p.trans F).tup (SqT.of j),rfl,_,_,rfl,_,_,rfl,rfl,_,rfl,Or.inl ⟨c,o,rfl,.inr ((p.trans F).tup (SqT.of D)),k _ _ _ ⟨_,_,rfl⟩ (aQ.refl _) ?_⟩⟩;rw[getD_some d,U]
     intro c0 C l2 b8 a5 F b3;have e2:c0=xs.map fun y=>V.int (cF H y):=CU b8 a5;subst e2;have I:aQ H5 (upd C l2 (.lst (xs.map fun y=>V.int (cF H y)))):=F.trans (aB b3);have Z:SqL K (upd C l2 (.lst (xs.map fun y=>V.int (cF H y)))) l2 (xs.map fun y=>V.int (cF H y)):=SqL.of au;generalize upd C l2 (.lst (xs.map fun y=>V.int (cF H y)))=H7 at I Z;have a2:(xs.map fun y=>(fz (a6 H y):Key)).map kV=xs.map fun y=>V.str (a6 H y):=by rw[bp];rfl
     have a3:(xs.map fun y=>(dY (cF H y:Int):Key)).map kV=xs.map fun y=>V.int (cF H y):=by rw[bp];rfl
     refine⟨l1,xs.map fun y=>(fz (a6 H y):Key),rfl,by rw[a2];exact I.seq O,by rw[ai];lia,fun w a7=>?_⟩;refine .inr (.inr ⟨w,_,rfl,au,?_⟩);have J:aQ H7 (upd H7 w (_root_.Q.Ex w (_root_.Q.met (xs.map fun y=>(fz (a6 H y):Key))).length)):=aB a7;generalize upd H7 w (_root_.Q.Ex w (_root_.Q.met (xs.map fun y=>(fz (a6 H y):Key))).length)=H8 at J;refine Or.inl ⟨l1,_,rfl,.inl (J.seq (I.seq O)),?_⟩;show fM K .Eq (.int ((_root_.Q.met (xs.map fun y=>(fz (a6 H y):Key))).length:Int)) (.int ((xs.map fun y=>V.str (a6 H y)).length:Int)) H8 _;rw[ll];refine⟨_,rfl,?_⟩;have b4:decide (((_root_.Q.met (xs.map fun y=>(fz (a6 H y):Key))).length:Int)=((xs.map fun y=>V.str (a6 H y)).length:Int))=decide ((xs.map (a6 H)).Nodup):=by
      rw[decide_eq_decide,ai];have X:(xs.map fun y=>(fz (a6 H y):Key)).Nodup↔(xs.map (a6 H)).Nodup:=by
       have :(xs.map fun y=>(fz (a6 H y):Key))=(xs.map (a6 H)).map fz:=by rw[bp];rfl
       rw[this];exact zq _
      constructor;·intro z;refine X.mp (_root_.Q.AX ?_);rw[ai];exact Int.ofNat.inj z
      ·intro z;rw[_root_.Q.Iz (X.mpr z),ai]
     rw[b4];have s9:aQ H H8:=p.trans (I.trans J);cases en:decide ((xs.map (a6 H)).Nodup)with
     |false=>rw[en,dk]at m;rw[if_neg ak];exact m H8 s9
     |true=>
      rw[en,fE]at m;rw[if_pos rfl];refine⟨l2,xs.map fun y=>(dY (cF H y:Int):Key),rfl,by rw[a3];exact J.seq Z,by rw[ai];lia,fun c2 a8=>?_⟩;refine .inr (.inr ⟨c2,_,rfl,au,?_⟩);show fM K .LtE (.int ((_root_.Q.met (xs.map fun y=>(dY (cF H y:Int):Key))).length:Int)) (.int 1) _ Q;rw[LI];have b5:decide (((_root_.Q.met (xs.map fun y=>(dY (cF H y:Int):Key))).length:Int)<=1)=decide (∀y∈xs,∀z∈xs,cF H y=cF H z):=by
       rw[decide_eq_decide];have j:((_root_.Q.met (xs.map fun y=>(dY (cF H y:Int):Key))).length:Int)<=1↔(_root_.Q.met (xs.map fun y=>(dY (cF H y:Int):Key))).length<=1:=by lia
       rw[j,_root_.Q.met_one];constructor;·intro z y M P N;have :=z _ (az.mpr ⟨y,M,rfl⟩) _ (az.mpr ⟨P,N,rfl⟩);injection this with this;lia
       ·intro z k1 a9 k2 b0;obtain⟨y,M,rfl⟩:=az.mp a9;obtain⟨P,N,rfl⟩:=az.mp b0;rw[z y M P N]
      rw[b5];exact m _ (s9.trans (aB a8))
   ·rw[decide_eq_true (by lia:(40:Int)<xs.length),if_pos rfl];have q1:Q (.bl (decide (xs.length<=40)&&(xs.all (dB H)&&(decide ((xs.map (a6 H)).Nodup)&&decide (∀y∈xs,∀z∈xs,cF H y=cF H z))))) H:=x H (aQ.refl H);rw[decide_eq_false hle,dk]at q1;exact q1
 |_=>exact q H (aQ.refl H)
def Ai(C:Addr):Sp:=fun vs H Q E=>∃x,vs=[x]/\Kn4 H x/\(dW H x=true->∀H',aQ H H'->Q .non H')/\(dW H x=false->False)
def yu(b:G.fn "is_table" 1=some (spT,[])):
  Sat G K (Ai C) sG r6:=by
 rintro h H Q E ⟨x,rfl,c,d,f⟩;unfold sG;change wpB G K _ _ _ [some x] H;ext;refine⟨_,_,b,x,rfl,c,fun a g=>⟨_,rfl,?_⟩⟩;cases e:dW H x with
 |true=>rw[if_neg (by simp)];exact d e a g
 |false=>rw[if_pos (by rfl)];exact f e
abbrev count(H:Hp):V->Nat
 |.ref a=>match eO (H a)with
  |some (y::_)=>cF H y
  |_=>0
 |_=>0
def eV{x:V}(h:dW H x=true):∃a xs,x=.ref a/\eO (H a)=some xs/\xs.length<=40/\(∀y∈xs,dB H y=true)/\(xs.map (a6 H)).Nodup/\∀y∈xs,cF H y=count H x:=by
 cases x with
 |ref a=>
  have b:(match eO (H a)with |some xs=>decide (xs.length<=40)&&(xs.all (dB H)&&(decide ((xs.map (a6 H)).Nodup)&&decide (∀y∈xs,∀z∈xs,cF H y=cF H z))) |none=>false)=true:=h;split at b
  ·rename_i xs e;rw[aF,aF,aF,decide_eq_true_eq,decide_eq_true_eq,decide_eq_true_eq,bg]at b;obtain⟨d,f,g,i⟩:=b;refine⟨a,xs,rfl,e,d,f,g,fun y c=>?_⟩;show _=(match eO (H a)with |some (y::_)=>cF H y|_=>0);rw[e];cases xs with
   |nil=>cases c
   |cons z r=>exact i y c z (.head _)
  ·cases b
 |_=>cases h
def vF(C:Addr):Sp:=fun vs H Q E=>∃x,vs=[x]/\Kn4 H x/\(dW H x=true->∀H',aQ H H'->Q (.int (count H x)) H')/\(dW H x=false->False)
def wb(m:G.fn "need_table" 1=some (Ai C,[])):
  Sat G K (vF C) qo qg:=by
 rintro D H Q E ⟨x,rfl,p,i,u⟩;unfold qo;change wpB G K _ _ _ [some x] H;ext;refine⟨_,_,m,x,rfl,p,fun e f d=>?_,u⟩;obtain⟨a,g,rfl,h,A,n,B,o⟩:=eV e;have k:SqL K f a g:=d.seq (lZ h);refine Or.inl ⟨a,g,rfl,.inl k,?_⟩;show fM K .Eq (.int (g.length:Int)) (.int 0) f _;rw[ll];refine⟨_,rfl,?_⟩;cases g with
 |nil=>
  rw[if_pos (by rfl)];have z:=i e f d;have l:count H (.ref a)=0:=by show(match eO (H a)with |some (y::_)=>cF H y|_=>0)=0;rw[h]
  rw[l]at z;exact z
 |cons y r=>rw[if_neg (by simp;lia)];obtain⟨b,z,c,v,rfl,q,s,_,_,_,_,t⟩:=iD (n y (.head _));refine .inl ⟨a,_,0,.ref b,rfl,rfl,k,cf (j:=0) rfl,?_⟩;refine .inr (.inl ⟨b,_,1,.ref c,rfl,rfl,d.tup (SqT.of q),rfl,?_⟩);refine Or.inl ⟨c,v,rfl,.inr (d.tup (SqT.of s)),?_⟩;have w:=i e f d;rw[<-o _ (.head _),t]at w;exact w
abbrev isPlace(H:Hp)(x:V):V->Bool
 |.int i=>decide (0<=i/\i<count H x)
 |_=>false
abbrev tP(H:Hp):V->List V
 |.ref a=>match dS (H a)with
  |some [_,.ref b]=>(dS (H b)).getD []
  |_=>[]
 |_=>[]
abbrev at_(H:Hp)(i:Int)(y:V):V:=(tP H y).getD i.toNat .non
def m5{x:V}(h:dB H x=true):∃a b,x=.ref a/\H a=some (.tup [.str (a6 H x),.ref b])/\H b=some (.tup (tP H x))/\(tP H x).length=cF H x/\∀y∈tP H x,cO y=true:=by
 obtain⟨a,z,b,c,rfl,d,f,_,_,g,i,j⟩:=iD h;have e:tP H (.ref a)=c:=by show(match dS (H a)with |some [_,.ref b]=>(dS (H b)).getD [] |_=>[])=c;rw[d];show(dS (H b)).getD []=c;rw[f];rfl
 refine⟨a,b,rfl,by rw[i];exact d,by rw[e];exact f,by rw[e,j],by rw[e];exact g⟩
def Fw{x:V}{i:Int}(h:dB H y=true)(g:cF H y=count H x)(hi:isPlace H x (.int i)=true):atI (tP H y) i=some (at_ H i y)/\cO (at_ H i y)=true:=by
 have k:0<=i/\i<count H x:=of_decide_eq_true hi;obtain⟨a,b,_,_,_,f,c⟩:=m5 h;have d:i.toNat<(tP H y).length:=by lia
 have e:(tP H y)[i.toNat]? =some (at_ H i y):=by unfold at_;rw[aa,ae d];rfl
 refine⟨?_,c _ (aG e)⟩;have :=cf (j:=i.toNat) e
 rwa [show((i.toNat:Nat):Int)=i by lia]at this
def ji{v:V}(h:cO v=true):v=.int 0\/v=.int 1:=by
 cases v with
 |int i=>
  have a:(i==0||i==1)=true:=h;rw[cu,beq_iff_eq,beq_iff_eq]at a;rcases a with rfl|rfl;·exact .inl rfl
  ·exact .inr rfl
 |_=>cases h
def sE{J:It}{C:Hp->Prop}{g:TG}{K:TT}{L:TE}{Q:VK}{O:L2.St}{w:Type}{ds:List w}(Z:xs.length=ds.length)(S:um J xs.length (fun i x _=>xs[i]? =some x) C)(hn:xs.length<=sizeLine)(W:∀H,aQ H1 H->C H)
  (t:w->Bool)(f:V->w->V)(T:L2.St->Prop)(U:T O)
  (step:∀(i:Nat) x a k h (E:L2.St->V->Hp->Prop)(D:L2.St->Hp->Prop),xs[i]? =some x->ds[i]? =some a->T k->aQ H1 h->(∀d j,T d->aQ h j->t a=true->E d (f x a) j)->(∀d j,T d->aQ h j->t a=false->D d j)->
   g x k h fun o P=>K o P fun b B=>if b=true then L o B (E o)else D o B)
  (R:∀H2 l,aQ H1 H2->H2 l=none->Q (.ref l) (upd H2 l (.lst (((xs.zip ds).filter fun p=>t p.2).map fun p=>f p.1 p.2)))):DN J g K L O H1 Q:=by
 have N:(xs.zip ds).length=xs.length:=by rw[List.length_zip];lia
 refine⟨fun i m k F H2=>m=xs.length-i/\i<=xs.length/\T k/\F=(((xs.zip ds).take i).filter fun p=>t p.2).map (fun p=>f p.1 p.2)/\aQ H1 H2,⟨xs.length,by simp,aV _,U,by simp,aQ.refl _⟩,?_⟩;rintro i m k F H2 ⟨rfl,hi,Y,rfl,n⟩;have q:=W H2 n;by_cases hlt:i<xs.length
 ·refine .inr ⟨S.go i H2 q hlt,fun d G A=>T d/\G=(((xs.zip ds).take (i+1)).filter fun p=>t p.2).map (fun p=>f p.1 p.2)/\aQ H1 A,fun d G A ⟨a,b,c⟩=>⟨xs.length-(i+1),by lia,rfl,hlt,a,b,c⟩,fun x h y=>?_⟩;obtain⟨M,v⟩:=S.yld i H2 x h q hlt y;have I:ds[i]? =some ds[i]:=ae (by lia);have e:(xs.zip ds).take (i+1)=(xs.zip ds).take i++[(x,ds[i])]:=by rw[dM,(List.getElem?_zip_eq_some (z:=(x,ds[i]))).mpr ⟨M,I⟩];rfl
  have a0:((((xs.zip ds).take i).filter fun p=>t p.2).map (fun p=>f p.1 p.2)).length<=i:=by rw[ai];refine aL (dZ _ _) ?_;rw[dz];lia
  refine step i x _ k h _ _ M I Y (n.trans v) (fun d j r s u=>⟨by lia,r,?_,(n.trans v).trans s⟩) (fun d j r s u=>⟨r,?_,(n.trans v).trans s⟩);·rw[e,lP,cQ];simp[u]
  ·rw[e,lP,cQ];simp[u]
 ·have e:i=xs.length:=by lia
  subst e;rw[<-N,fS];exact .inl ⟨S.stop _ H2 q (by rw[N];exact aw _),fun l X=>R H2 l n X⟩
def pJ{J:It}{p:Hp->Prop}{g:TG}{u:TT}{v:TE}{Q:VK}{w:L2.St}(S:um J xs.length (fun i x _=>xs[i]? =some x) p)(D:xs.length<=sizeLine)(C:∀H,aQ H1 H->p H)
  (t:V->Bool)(f:V->V)(T:L2.St->Prop)(B:T w)
  (step:∀x m c (k:L2.St->V->Hp->Prop)(j:L2.St->Hp->Prop),x∈xs->T m->aQ H1 c->(∀e d,T e->aQ c d->t x=true->k e (f x) d)->(∀e d,T e->aQ c d->t x=false->j e d)->
   g x m c fun n y=>u n y fun b o=>if b=true then v n o (k n)else j n o)
  (A:∀H2 l,aQ H1 H2->H2 l=none->Q (.ref l) (upd H2 l (.lst ((xs.filter t).map f)))):DN J g u v w H1 Q:=by
 refine sE rfl S D C t (fun _ a=>f a) T B (fun i x a m c k j q r=>?_) fun H2 l s h=>?_;·rw[q]at r;cases r;exact step x m c k j (aG q)
 ·have z:=A H2 l s h;rw[<-n6 (l₁:=xs) (l₂:=xs) (aw _),kO,bp]at z;exact z
end Cp
namespace Lt
open PySem R
abbrev yE:List Str:=["_law_script","_law_k"]
abbrev qi:List Str:=["_law_script","_law_k"]
abbrev qF:CB:=
  (.cons (.iff (.cmp .Lt (.var 1) (.bfn .len (.cons (.var 0) .nil)))
  (.cons (.ret (.idx (.var 0) (.var 1)))
  .nil)
  .nil)
  (.cons (.ret (.con (.int 0)))
  .nil))
end Lt
namespace Lt
open PySem PySem.Spec PyProof.Rows L2 R Cp
def xR{i j:Int}(h0:0<=j)(a:j<18446744073709551616):FC i j:=.inr ⟨by lia,by lia⟩
def G5{i j:Int}(h0:0<=i)(a:i<18446744073709551616):FC i j:=.inl ⟨by lia,by lia⟩
def wF(K:ah):Sp:=fun vs H Q _=>∃(a:Addr)(ns:List Int)(k:Nat),vs=[.ref a,.int k]/\SqL K H a (ns.map V.int)/\Q (.int (ns.getD k 0)) H
def wp_cell:Sat G K (wF K) qF qi:=by
 rintro d H Q E ⟨a,b,k,rfl,c,q⟩;unfold qF;change wpB G K _ _ _ [some (.ref a),some (.int k)] H;ext;refine Or.inl ⟨a,_,rfl,.inl c,?_⟩;show fM K .Lt (.int (k:Int)) (.int ((b.map V.int).length:Int)) H _;rw[GB,ai];refine⟨_,rfl,?_⟩;by_cases hk:k<b.length;·rw[decide_eq_true (by lia:(k:Int)<(b.length:Int)),if_pos rfl];refine .inl ⟨a,_,k,_,rfl,rfl,c,cf (j:=k) (v:=.int (b.getD k 0)) ?_,q⟩;rw[av,ae hk,aa,ae hk];rfl
 ·rw[decide_eq_false (by lia:¬(k:Int)<(b.length:Int)),if_neg ak];rw[aa,bT (by lia)]at q;exact q
def short(h:n<=40):n<=sizeLine:=aL h (by decide)
end Lt
namespace Q
open PySem PySem.Spec PySem.W PyProof.Rows L2
theorem Cu(nd:ks.Nodup):(ord ks).Perm (aH ks.length):=by
 unfold ord;split;·exact d7 _
 ·have P:=(fk (wj nd) (by lia)).1;have :=eU.mp P.perm;simpa using this
def range_getD{a:Type}(d:a)(ys:List a):(aH ys.length).map (fun i=>ys.getD i d)=ys:=by
 apply bR;·simp
 ·intro i c b;simp[b]
def gE{a:Type}(d:a){ys:List a}(nd:ks.Nodup)(b:ks.length=ys.length):(sortBy d ks ys).Perm ys:=by unfold sortBy;have h:=(Cu nd).map fun i=>ys.getD i d;rw[b,range_getD]at h;exact h
theorem jh(nd:ks.Nodup):(sortBy ("":Str) ks ks).Pairwise fun a b=>tlt a b=true:=by
 unfold sortBy ord;split
 ·rename_i h;rw[range_getD]
  match ks,h with
  | [],_=>exact .nil
  | [x],_=>simp
  |_::_::_,h=>simp at h;lia
 ·rename_i h;obtain⟨P,U,_⟩:=fk (wj nd) (by lia:1<=ks.length);rw[da];intro i j hi f d;have m:i<ks.length:=by simpa[P.size]using hi
  have g:j<ks.length:=by simpa[P.size]using f
  have u:=U i j d g;rw[bD,bD];have e:∀(k:Nat)(c:k<(run (oF ks) (dX ks.length)).toList.length),(run (oF ks) (dX ks.length)).toList[k]=at' (run (oF ks) (dX ks.length)) k:=fun k c=>by
   have l:k<(run (oF ks) (dX ks.length)).size:=by simpa using c
   simp[at',l]
  rw[e,e];exact u
def HE{y:Str}(a:tlt x y=true)(b:tlt y x=true):False:=by have c:=yT a b;unfold tlt at c;exact List.lt_irrefl _ (of_decide_eq_true c)
theorem lA:∀{l m:List Str},l.Perm m->l.Pairwise (fun a b=>tlt a b=true)->m.Pairwise (fun a b=>tlt a b=true)->l=m
 | [],m,p,_,_=>by rw[List.nil_perm.mp p]
 |x::l,[],p,_,_=>by simpa using p.length_eq
 |x::l,y::m,p,h1,h2=>by
  rw[List.pairwise_cons]at h1 h2;have e:x=y:=by
   by_cases e:x=y;·exact e
   ·have c:x∈m:=by
     have :=p.mem_iff.mp (aM (a:=x) (l:=l));rcases aI.mp this with z|z;·exact absurd z e
     ·exact z
    have d:y∈l:=by
     have :=p.mem_iff.mpr (aM (a:=y) (l:=m));rcases aI.mp this with z|z;·exact absurd z.symm e
     ·exact z
    exact(HE (h1.1 y d) (h2.1 x c)).elim
  subst e;rw[lA (List.perm_cons x |>.mp p) h1.2 h2.2]
def uF{c:Type}(d:c)(f:c->Str)(p:c->Bool){ys:List c}(nd:(ys.map f).Nodup):((sortBy d (ys.map f) ys).filter p).map f=sortBy ("":Str) ((ys.filter p).map f) ((ys.filter p).map f):=by
 have g:((ys.filter p).map f).Nodup:=nd.sublist (kZ.map _);refine lA ?_ ?_ (jh g);·exact(((gE d nd (by simp)).filter p).map f).trans (gE ("":Str) g rfl).symm
 ·have h:((sortBy d (ys.map f) ys).map f).Pairwise fun a b=>tlt a b=true:=by
   have r:=jh nd;unfold sortBy at r⊢;rw[bp];have e:(ord (ys.map f)).map (f∘fun i=>ys.getD i d)=(ord (ys.map f)).map fun i=>(ys.map f).getD i ("":Str):=by
    apply cG
    intro i hi;have j:i<ys.length:=by have :=(Cu nd).mem_iff.mp hi;simpa using this
    show f (ys.getD i d)=(ys.map f).getD i ("":Str);rw[aa,aa,av,ae j];rfl
   rw[e];exact r
  exact h.sublist (kZ.map _)
end Q
namespace Lt
open PySem PySem.Spec PyProof.Rows L2 R Cp
mutual
theorem iU:∀d:D,eqD d d=true
 |.non=>rfl
 |.bl b=>by cases b<;>rfl
 |.int i=>by show(i==i)=true;simp
 |.str x=>by show(x==x)=true;simp
 |.tup ds=>t7 ds
 |.lst ds=>t7 ds
theorem t7:∀ds:List D,oH ds ds=true
 | []=>rfl
 |d::ds=>by show(eqD d d&&oH ds ds)=true;rw[iU d,t7 ds];rfl
end
end Lt
namespace L2
open PySem PySem.Spec PyProof.Rows
section
variable {κ α:Type}[DecidableEq κ](kf:α->κ)(vf:α->V)
abbrev sx(ac:List (κ×V))(y:α):List (κ×V):=if(eR ac (kf y)).isSome then ac else putK ac (kf y) (vf y)
abbrev fnd(ys:List α):List (κ×V):=ys.foldl (sx kf vf) []
theorem Mi(a:List (κ×V))(y:α)(k:κ):eR (sx kf vf a y) k=if(eR a k).isSome then eR a k else if k=kf y then some (vf y)else none:=by
 unfold sx;cases h:eR a (kf y)with
 |some v=>
  show eR a k=_;cases hk:eR a k with
  |some u=>rfl
  |none=>rw[if_neg (by simp),if_neg];intro e;rw[e,h]at hk;cases hk
 |none=>
  rw[if_neg (by simp),JQ];by_cases e:k=kf y;·rw[if_pos e,e,h];simp
  ·rw[if_neg e];cases hk:eR a k<;>simp[e]
theorem fndS_nd{a:List (κ×V)}(y:α)(h:(a.map (·.1)).Nodup):((sx kf vf a y).map (·.1)).Nodup:=by
 unfold sx;cases e:eR a (kf y)with
 |some v=>exact h
 |none=>rw[if_neg (by simp)];exact nd_putK _ h e
theorem Mj(a:List (κ×V))(y:α):(sx kf vf a y).length<=a.length+1:=by
 unfold sx;split;·lia
 ·exact uP _ _ _
theorem Dg:∀(ys:List α)(ac:List (κ×V)),(ys.foldl (sx kf vf) ac).length<=ac.length+ys.length
 | [],ac=>aw _
 |y::ys,ac=>by have :=Dg ys (sx kf vf ac y);have :=Mj kf vf ac y;simp only[dR,bC];lia
theorem GS:∀(ys:List α){ac:List (κ×V)},(ac.map (·.1)).Nodup->((ys.foldl (sx kf vf) ac).map (·.1)).Nodup
 | [],_,h=>h
 |y::ys,_,h=>GS ys (fndS_nd kf vf y h)
theorem Df:∀(ys:List α)(ac:List (κ×V))(k:κ),eR (ys.foldl (sx kf vf) ac) k=if(eR ac k).isSome then eR ac k else(ys.find? fun y=>decide (kf y=k)).map vf
 | [],ac,k=>by show eR ac k=_;cases eR ac k<;>rfl
 |y::ys,ac,k=>by
  rw[dR,Df ys,Mi];cases hk:eR ac k with
  |some u=>simp
  |none=>
   simp only[JF,aZ,if_false];by_cases e:k=kf y;·rw[if_pos e,iZ];simp[e]
   ·have a:¬kf y=k:=fun z=>e z.symm;rw[if_neg e,iZ];simp[a]
theorem Bc(ys:List α)(k:κ):eR (fnd kf vf ys) k=(ys.find? fun y=>decide (kf y=k)).map vf:=by unfold fnd;rw[Df];rfl
theorem fnd_nd(ys:List α):((fnd kf vf ys).map (·.1)).Nodup:=GS kf vf ys jq
theorem fnd_len(ys:List α):(fnd kf vf ys).length<=ys.length:=by have :=Dg kf vf ys [];rw[qa,yk]at this;exact this
theorem Bd{ys:List α}{k:κ}:k∈(fnd kf vf ys).map (·.1)↔∃y∈ys,kf y=k:=by
 constructor
 ·intro h;cases e:eR (fnd kf vf ys) k with
  |none=>exact absurd h (B1 e)
  |some v=>rw[Bc]at e;obtain⟨y,a,_⟩:=ja.mp e;exact⟨y,List.mem_of_find?_eq_some a,by have :=List.find?_some a;simpa using this⟩
 ·rintro⟨y,a,e⟩;cases h:eR (fnd kf vf ys) k with
  |some v=>exact valV_in h
  |none=>rw[Bc,Option.map_eq_none_iff,vd]at h;exact absurd e (by have :=h y a;simpa using this)
theorem Ll:∀{l m:List κ},l.Nodup->(∀x∈l,x∈m)->l.length<=m.length
 | [],_,_,_=>aV _
 |a::l,m,h,hs=>by obtain⟨d,f⟩:=bW.mp h;have b:=hs a (.head _);have :=Ll (l:=l) (m:=m.erase a) f fun x c=>(rF (fun e:x=a=>d (by rw[<-e];exact c))).mpr (hs x (.tail _ c));rw[List.length_erase_of_mem b]at this;have :=List.length_pos_of_mem b;simp only[bC];lia
theorem fnd_all{ys:List α}{ks:List κ}(b:ks.Nodup)(l:∀y∈ys,kf y∈ks):(fnd kf vf ys).length<ks.length↔∃k∈ks,∀y∈ys,kf y≠k:=by
 have m:∀k∈(fnd kf vf ys).map (·.1),k∈ks:=fun k h=>by obtain⟨y,a,e⟩:=(Bd kf vf).mp h;rw[<-e];exact l y a
 have i:=fnd_nd kf vf ys;constructor
 ·intro n;apply aJ
  intro j;have d:∀k∈ks,k∈(fnd kf vf ys).map (·.1):=fun k b=>by
   apply aJ
   intro c;exact j ⟨k,b,fun y a e=>c ((Bd kf vf).mpr ⟨y,a,e⟩)⟩
  have :=Ll b d;rw[ai]at this;lia
 ·rintro⟨k,g,f⟩;have c:k∉(fnd kf vf ys).map (·.1):=fun h=>by obtain⟨y,a,e⟩:=(Bd kf vf).mp h;exact f y a e
  have :(k::(fnd kf vf ys).map (·.1)).Nodup:=bW.mpr ⟨c,i⟩;have :=Ll this (fun x hx=>by
   rcases aI.mp hx with rfl|hx;·exact g
   ·exact m x hx)
  rw[bC,ai]at this;lia
end
end L2
namespace Kc
open PySem R
abbrev tR:List Str:=["copies","one","other"]
abbrev lX:List Str:=["copies","one","other","found","name","readings"]
abbrev mH:CB:=
  (.cons (.asg (.name 3) (.dicT))
  (.cons (.forr (.tup (.cons (.name 4) (.cons (.name 5) .nil))) (.seq (.var 0))
  (.cons (.expr (.setd (.var 3) (.tup (.cons (.idx (.var 5) (.var 1)) (.cons (.idx (.var 5) (.var 2)) .nil))) (.var 4)))
  .nil))
  (.cons (.iff (.cmp .Lt (.bfn .lend (.cons (.var 3) .nil)) (.bfn .len (.cons (.glo "KINDS") .nil)))
  (.cons (.ret (.con .none))
  .nil)
  .nil)
  (.cons (.ret (.bfn .tuple (.cons (.comp ["kind"] [3] (.name 0) (.seq (.glo "KINDS")) .no (.idxd (.var 1) (.var 0))) .nil)))
  .nil))))
end Kc
namespace Kc
open PySem PySem.Spec PyProof.Rows L2 R Cp Lt
def fN{J:It}{l:Nat->V->Hp->Prop}{k:Hp->Prop}{g:TG}{tb:TS}{D:Ends}(S:um J n l k)(e:Nat->L2.St->Hp->Prop)(h0:e 0 σ H)(o:∀i σ H,i<=n->e i σ H->k H)
  (p:∀i x σ H H' (j:Ends),i<n->e i σ H->l i x H'->aQ H H'->(∀f H2,e (i+1) f H2->j.nx f H2)->j.rt=D.rt->g x σ H' fun f H2=>tb j f H2)(m:∀σ H,e n σ H->D.nx σ H):ForB J g tb D σ H:=
 GR S e h0 o (fun i x σ H H' a b c d=>p i x σ H H' _ a b c d (fun _ _ h=>h) rfl) m
def iT(h:us.length=1):∃a,us=[a]:=by
 cases us with
 |nil=>exact nomatch h
 |cons a r=>exact⟨a,by rw[aY.mp (i7 h)]⟩
def eS(h:us.length=2):∃a b,us=[a,b]:=by
 cases us with
 |nil=>exact nomatch h
 |cons a r=>obtain⟨b,e⟩:=iT (i7 h);exact⟨a,b,by rw[e]⟩
def oa(h:us.length=3):∃a b c,us=[a,b,c]:=by
 cases us with
 |nil=>exact nomatch h
 |cons a r=>obtain⟨b,c,e⟩:=eS (i7 h);exact⟨a,b,c,by rw[e]⟩
def dw{b:Type}{F:b->Prop}{vs:List V}(h:∃a,F a)(k:∀a,F a->vs.length=n):vs.length=n:=let⟨a,f⟩:=h;k a f
def fm{P:Prop}{l vs:List V}(h:vs=l/\P)(e:l.length=n):vs.length=n:=by rw[h.1];exact e
abbrev num(H:Hp)(i:Int)(y:V):Int:=match at_ H i y with
 |.int n=>n
 |_=>0
abbrev KP:List (Int×Int):=[(0,0),(0,1),(1,0),(1,1)]
abbrev qU(k:Int×Int):List Key:=[.inl k.1,.inl k.2]
abbrev kf(H:Hp)(i j:Int)(y:V):List Key:=qU (num H i y,num H j y)
abbrev lD(H:Hp)(xs:List V)(i j:Int):Bool:=KP.all fun k=>xs.any fun y=>decide (num H i y=k.1/\num H j y=k.2)
abbrev firstOf(H:Hp)(xs:List V)(i j:Int)(k:Int×Int):V:=((xs.find? fun y=>decide (kf H i j y=qU k)).map fun y=>V.str (a6 H y)).getD .non
def Kinds(K:ah)(kd:Addr):Prop:=∃a b c d:Addr,∀H:Hp,SqT K H kd [.ref a,.ref b,.ref c,.ref d]/\SqT K H a [.int 0,.int 0]/\SqT K H b [.int 0,.int 1]/\SqT K H c [.int 1,.int 0]/\SqT K H d [.int 1,.int 1]
theorem Kinds.at(h:Kinds K kd):∃a:List V,a.length=4/\(∀H:Hp,SqT K H kd a)/\∀(H:Hp)(i:Nat) x,a[i]? =some x->∃(b:Addr)(k:Int×Int),x=.ref b/\KP[i]? =some k/\SqT K H b ((qU k).map kV):=by
 obtain⟨c,d,f,g,h⟩:=h;refine⟨[.ref c,.ref d,.ref f,.ref g],rfl,fun H=>(h H).1,fun H i x e=>?_⟩;obtain⟨_,j,l,m,o⟩:=h H
 match i,e with
 | 0,e=>cases e;exact⟨c,_,rfl,rfl,j⟩
 | 1,e=>cases e;exact⟨d,_,rfl,rfl,l⟩
 | 2,e=>cases e;exact⟨f,_,rfl,rfl,m⟩
 | 3,e=>cases e;exact⟨g,_,rfl,rfl,o⟩
 |n+4,e=>simp at e
def AV{x:V}{i:Int}(h:dB H y=true)(a:cF H y=count H x)(hi:isPlace H x (.int i)=true):at_ H i y=.int (num H i y)/\(num H i y=0\/num H i y=1):=by
 have :=(Fw h a hi).2;unfold num;rcases ji this with e|e;·rw[e];exact⟨rfl,.inl rfl⟩
 ·rw[e];exact⟨rfl,.inr rfl⟩
def LV{k l:Int×Int}(h:qU k=qU l):k=l:=by
 unfold qU at h;injection h with h1 h2
 injection h2 with h2 _;injection h1 with h1;injection h2 with h2;exact Prod.ext h1 h2
def LP:(KP.map qU).Nodup:=by decide+kernel
def kf_eq{i j:Int}{k:Int×Int}:kf H i j y=qU k↔(num H i y=k.1/\num H j y=k.2):=by
 constructor;·intro h;have :=LV h;rw[<-this];exact⟨rfl,rfl⟩
 ·rintro⟨a,b⟩;unfold kf;rw[a,b]
def xF{i j:Int}(b:V->V)(d:∀y∈xs,kf H i j y∈KP.map qU):(fnd (kf H i j) b xs).length<4↔lD H xs i j=false:=by
 rw[show(4:Nat)=(KP.map qU).length from rfl,fnd_all (kf H i j) b LP d];unfold lD;rw[List.all_eq_false];constructor;·rintro⟨k,c,h⟩;obtain⟨p,hp,rfl⟩:=az.mp c;refine⟨p,hp,?_⟩;intro z;obtain⟨y,a,e⟩:=b8.mp z;exact h y a (kf_eq.mpr (of_decide_eq_true e))
 ·rintro⟨p,hp,h⟩;refine⟨qU p,az.mpr ⟨p,hp,rfl⟩,fun y a e=>h ?_⟩;exact b8.mpr ⟨y,a,decide_eq_true (kf_eq.mp e)⟩
def kf_in{x:V}{i j:Int}(b:∀y∈xs,dB H y=true)(c:∀y∈xs,cF H y=count H x)(hi:isPlace H x (.int i)=true)(h:isPlace H x (.int j)=true):∀y∈xs,kf H i j y∈KP.map qU:=by intro y a;have d:=(AV (b y a) (c y a) hi).2;have g:=(AV (b y a) (c y a) h).2;unfold kf;refine az.mpr ⟨_,?_,rfl⟩;rcases d with e|e<;>rcases g with f|f<;>rw[e,f]<;>simp[KP]
def Am:Sp:=fun vs H Q _=>∃a xs i j b,vs=[.ref a,.int i,.int j]/\aQ b H/\dW b (.ref a)=true/\eO (b a)=some xs/\isPlace b (.ref a) (.int i)=true/\isPlace b (.ref a) (.int j)=true/\
 (lD b xs i j=false->∀H',aQ H H'->Q .non H')/\(lD b xs i j=true->∀H' l,aQ H H'->H l=none->H' l=some (.tup (KP.map (firstOf b xs i j)))->Q (.ref l) H')
def JM(v1:G.val "KINDS"=some (.ref kd))(hk:Kinds K kd):
  Sat G K Am mH lX:=by
 rintro O H a7 a5 ⟨a,f,i,j,e,rfl,N,ht,U,hi,J,q1,q2⟩;unfold mH;change wpB G K _ _ _ [some (.ref a),some (.int i),some (.int j),none,none,none] H;ext;intro d S;obtain⟨a',b1,ea,Q,h2,w,h4,A⟩:=eV ht;cases ea;rw[U]at Q;cases Q;obtain⟨as,I,L,a2⟩:=hk.at;have Y:∀{s:Hp},aQ e s->SqL K s a f:=fun o=>o.seq (lZ U);have X:aQ H (upd H d (.dT [])):=aB S;refine gH (cn rfl (Y (N.trans X)) (fN dc (fun k E F=>aQ H F/\F d=some (.dT (fnd (kf e i j) (fun y=>V.str (a6 e y)) (f.take k)))/\∃u v,E=[some (.ref a),some (.int i),some (.int j),some (.ref d),u,v])
  ⟨X,au,none,none,rfl⟩ (fun k E F _ p=>Y (N.trans p.1)) ?_ ?_))
 ·rintro k y E s m D2 b0 ⟨o,q,u,v,rfl⟩ C g R _;have h:=aG C;have ei:=AV (w y h) (A y h) hi;have ej:=AV (w y h) (A y h) J;have gi:=(Fw (w y h) (A y h) hi).1;have gj:=(Fw (w y h) (A y h) J).1;obtain⟨b,c,rfl,k1,W,k3,k4⟩:=m5 (w y h);have x:=N.trans (o.trans g);refine⟨b,_,rfl,x.tup (SqT.of k1),rfl,_,_,rfl,_,_,rfl,rfl,?_⟩;ext;refine⟨.inr (.inr (.inl ⟨rfl,.inr ⟨_,g _ _ q⟩⟩)),?_⟩;refine .inr (.inl ⟨c,_,i,_,rfl,rfl,x.tup (SqT.of W),gi,?_⟩);refine .inr (.inl ⟨c,_,j,_,rfl,rfl,x.tup (SqT.of W),gj,short (by simp),fun p hp=>?_⟩);have D:aQ m (upd m p (.tup [at_ e i (.ref b),at_ e j (.ref b)])):=aB hp;have hf:(fnd (kf e i j) (fun y=>V.str (a6 e y)) (f.take k)).length<=40:=aL (fnd_len _ _ _) (by rw[dz];lia);have et:f.take (k+1)=f.take k++[V.ref b]:=by rw[dM,C];rfl
  have P:fnd (kf e i j) (fun y=>V.str (a6 e y)) (f.take (k+1))=sx (kf e i j) (fun y=>V.str (a6 e y)) (fnd (kf e i j) (fun y=>V.str (a6 e y)) (f.take k)) (.ref b):=by unfold fnd;rw[et,List.foldl_append];rfl
  refine⟨d,p,_,kf e i j (.ref b),_,rfl,rfl,D _ _ (g _ _ q),?_,vz hf (by decide),fun z M=>?_,fun M=>?_⟩;·rw[au,ei.1,ej.1];rfl
  ·refine R _ _ ⟨o.trans (g.trans D),?_,_,_,rfl⟩;rw[P];unfold sx;rw[M];exact D _ _ (g _ _ q)
  ·refine R _ _ ⟨eH (o.trans (g.trans D)) S,?_,_,_,rfl⟩;rw[P];unfold sx;rw[M];exact au
 ·rintro E s ⟨o,q,u,v,rfl⟩;rw[fS]at q;ext;refine⟨d,_,rfl,q,_,v1,Or.inl ⟨kd,as,rfl,.inr (L _),?_⟩⟩;rw[I];show fM K .Lt (.int _) (.int ((4:Nat):Int)) s _;rw[GB];refine⟨_,rfl,?_⟩;have r:=xF (fun y=>V.str (a6 e y)) (kf_in w A hi J);cases hf:lD e f i j with
  |false=>have :=r.mpr hf;rw[decide_eq_true (by lia),if_pos rfl];exact q1 hf s o
  |true=>
   have a9:¬(fnd (kf e i j) (fun y=>V.str (a6 e y)) f).length<4:=fun z=>by rw[r.mp z]at hf;cases hf
   rw[decide_eq_false (by lia),if_neg ak];refine cN ⟨_,v1,.inr (.inl ⟨kd,rfl,⟨_,L _⟩,?_⟩)⟩;refine dN Aw (by rw[I];exact short (by decide)) (fun m _=>L m) (fun n v _=>v=firstOf e f i j (KP.getD n (0,0))) (fun _ _ _ _ _ a0=>a0) (fun Z=>∃t,Z=[t,some (.ref d)]) ⟨none,rfl⟩ ?_ ?_
   ·rintro n y Z m a8 hn ⟨t,rfl⟩ g C k;obtain⟨b,p,rfl,hp,B⟩:=a2 m n y C;ext;have a1:f.any (fun y=>decide (num e i y=p.1/\num e j y=p.2))=true:=by unfold lD at hf;exact bg.mp hf p (aG hp)
    obtain⟨y0,a4,e0⟩:=b8.mp a1;cases r:f.find? (fun y=>decide (kf e i j y=qU p))with
    |none=>rw[vd]at r;exact absurd (decide_eq_true (kf_eq.mpr (of_decide_eq_true e0))) (r y0 a4)
    |some y1=>
     refine⟨d,b,_,qU p,V.str (a6 e y1),rfl,rfl,g _ _ q,B,?_,?_⟩;·rw[Bc,r];rfl
     ·refine k _ _ _ ⟨_,rfl⟩ (aQ.refl _) ?_;rw[getD_some hp];unfold firstOf;rw[r];rfl
   ·intro O m l T hF g a3;have ev:O=KP.map (firstOf e f i j):=by
     rw[I]at T;apply bR;·rw[T];rfl
     ·intro n m1 m2;have :=hF n O[n] (by simp[m1]);rw[this,bD,aa,ae (by simpa using m2)];rfl
    subst ev;refine⟨l,_,rfl,.inl ⟨SqL.of au,fun b B=>?_⟩⟩;have x:aQ H (upd m l (.lst (KP.map (firstOf e f i j)))):=o.trans (g.trans (aB a3));exact q2 hf _ b (x.trans (aB B)) (x.free B) au
end Kc
namespace K21
open PySem PySem.Spec PyProof.Rows L2 R Cp Lt Kc
def Dr(H:Hp)(nf:Nat->Str)(n:Nat)(ys:List V):Prop:=∀(i:Nat) y,ys[i]? =some y->∃b r zs,y=.ref b/\H b=some (.tup [.str (nf i),.ref r])/\H r=some (.tup zs)/\zs.length=n/\∀z∈zs,cO z=true
def sD(k:∀i,iB (nf i)=true)(d:Dr H nf n ys)(t:n<=60)(e:ys[i]? =some y):dB H y=true/\a6 H y=nf i/\cF H y=n/\Kn3 H y:=by
 obtain⟨b,r,m,rfl,c,h,p,j⟩:=d i y e;have o:dH H (.ref r)=true:=by show(match dS (H r)with |some g=>decide (g.length<=60)&&g.all cO|none=>false)=true;rw[h];show(decide (m.length<=60)&&m.all cO)=true;rw[decide_eq_true (by lia),fE,bg];exact j
 have q:(nf i).length<=20000:=by have :=k i;unfold iB at this;rw[aF,decide_eq_true_eq]at this;lia
 refine⟨?_,?_,?_,⟨E1 c,fun z e=>nomatch e⟩,fun a g e f=>?_⟩;·show(match dS (H b)with |some [n,r]=>isName n&&dH H r|_=>false)=true;rw[c];show(iB (nf i)&&dH H (.ref r))=true;rw[k,o];rfl
 ·show(match dS (H b)with |some (.str z::_)=>z|_=>("":Str))=_;rw[c];rfl
 ·show(match dS (H b)with |some [_,.ref b]=>(dS (H b)).elim 0 ke|_=>0)=n;rw[c];show(dS (H r)).elim 0 ke=n;rw[h];exact p
 ·injection e with e
  subst e;rw[c]at f;cases f;refine⟨by show 2<=20000;decide,fun y l=>?_⟩;simp only[aI,dy,or_false]at l;rcases l with rfl|rfl;·exact⟨⟨kn_str,fun z e=>by injection e with e;rw[<-e];exact q⟩,fun a g e=>nomatch e⟩
  ·refine⟨⟨E1 h,fun z e=>nomatch e⟩,fun a g e f=>?_⟩;injection e with e;subst e;rw[h]at f;cases f;refine⟨by lia,fun z s=>?_⟩;rcases ji (j z s)with rfl|rfl
   ·exact⟨A4,fun z e=>nomatch e⟩
   ·exact⟨A4,fun z e=>nomatch e⟩
def xO{t:Addr}(h:∀i,iB (nf i)=true)(q:∀i j,i<ys.length->j<ys.length->nf i=nf j->i=j)(m:H t=some (.lst ys))(d:Dr H nf n ys)(r:ys.length<=40)(g:n<=60):Kn4 H (.ref t)/\dW H (.ref t)=true/\(∀y∈ys,dB H y=true)/\∀y∈ys,cF H y=n:=by
 have at':∀y∈ys,∃i,ys[i]? =some y:=fun y c=>bS.mp c;have o:∀y∈ys,dB H y=true:=fun y c=>let⟨i,e⟩:=at' y c;(sD h d g e).1;have k:∀y∈ys,cF H y=n:=fun y c=>let⟨i,e⟩:=at' y c;(sD h d g e).2.2.1;refine⟨⟨⟨LN m,fun z e=>nomatch e⟩,fun a f e p=>?_⟩,?_,o,k⟩
 ·injection e with e
  subst e;rw[m]at p;cases p;exact⟨by lia,fun y c=>let⟨i,e⟩:=at' y c;(sD h d g e).2.2.2⟩
 ·show(match eO (H t)with |some f=>decide (f.length<=40)&&(f.all (dB H)&&(decide ((f.map (a6 H)).Nodup)&&decide (∀y∈f,∀z∈f,cF H y=cF H z))) |none=>false)=true;rw[m];show(decide (ys.length<=40)&&(ys.all (dB H)&&(decide ((ys.map (a6 H)).Nodup)&&decide (∀y∈ys,∀z∈ys,cF H y=cF H z))))=true;rw[decide_eq_true r,fE,aF,aF,bg,decide_eq_true_eq,decide_eq_true_eq];refine⟨o,?_,fun y c z s=>by rw[k y c,k z s]⟩;show List.Pairwise (fun a b=>a≠b) _;rw[da];intro i j hi l u e;rw[ai]at hi l;rw[bD,bD,(sD h d g (ae hi)).2.1,(sD h d g (ae l)).2.1]at e;have :=q i j hi l e;lia
def A7{vs:List V}(h:∀(i:Nat) v,vs[i]? =some v->∃m:Int,v=.int m):∃ns:List Int,vs=ns.map V.int:=by
 induction vs with
 |nil=>exact⟨[],rfl⟩
 |cons v vs ih=>obtain⟨m,rfl⟩:=h 0 v rfl;obtain⟨ns,rfl⟩:=ih fun i w e=>h (i+1) w (by simpa using e);exact⟨m::ns,rfl⟩
def Ds(c:List Int)(lo hi:Option Int):∃b:List Int,pX (c.map V.int) lo hi=b.map V.int:=by refine A7 fun i v e=>?_;have a:=aG e;unfold pX at a;obtain⟨m,_,rfl⟩:=az.mp (List.mem_of_mem_drop (JG a));exact⟨m,rfl⟩
end K21
namespace K22
open PySem PySem.Spec PyProof.Rows L2 R Cp Lt Kc K21
def CF{t p:Addr}{fs:List Int}(c:SqL K H t (fs.map V.int))(b:H p=some (.lst [])):∃d a,Rep K H d (.ref t)/\Rep K H a (.ref p)/\hgt d<=30/\eqD d a=decide (fs=[]):=by
 refine⟨.lst (fs.map D.int),.lst [],⟨t,_,rfl,c,eX.ints fs⟩,⟨p,[],rfl,SqL.of b,rfl⟩,by show fw (fs.map D.int)+1<=30;rw[l7];decide,?_⟩;cases fs with
 |nil=>rfl
 |cons x r=>rw[decide_eq_false (by simp)];rfl
end K22
namespace Lm
open PySem PySem.Spec PySem.W PyProof.Rows L2 Q
noncomputable abbrev Kp(h h':Heap):Prop:=∀b o,h.get? b=some o->h'.get? b=some o
section
variable {E:Value->Shared->Prop}{s:Shared}
def MK{Q:Value->Shared->Prop}{u:Arguments}{k:Value}{p q t:Pos}{a:Array Value}
  (hf:s.heap.get? f=some (kla_obj "<lambda>" qual u (.Subscript (.Name x p) (.Constant (.int 0) j q) t) scope [] pm c' bc))(C:s.heap.CodeRec (.ref c') qual)(K:A.depth<jV)(I:s.heap.NoLimit)
  (B:∀v,rD (kla_fn "<lambda>" qual u (.Subscript (.Name x p) (.Constant (.int 0) j q) t) scope [] pm (.ref c') bc) ⟨[v],[]⟩=pure [(x,v)])
  (m:scope.names.lookup x=some .local)(G:(x==("__debug__":Str))=false)(d:scope.kind=.function)(D:∀y∈scope.names,y.2≠.cell)(F:scope.isCoroutine=false)(H:scope.isGenerator=false)
  (L:IsTup s.heap b a)(h0:a[0]? =some k)(h:∀h' t',Kp s.heap h'->Q k {s with heap:=h',toks:=t'}):wpAny (model prog w) A (call (.ref f) [.ref b]) Q E s:=by
 refine iK (kla_callFunE K hf rfl F H rfl C ?_);rw[B];refine aj (wpAny_newFunctionEnv D (fun y M=>?_) (fun n J i=>⟨I.fresh _ i,?_⟩) d)
 ·have e:y=(x,.ref b):=by simpa using M
  rw[e];exact m
 have g:Kp s.heap n:=fun b o e=>i.extBut b o (aP (aA e)) (ag _ e);refine kla_codeExpr (Subscript_ (Jn (wpAny_loadName_local d m J (v:=.ref b) (by simp) ?_) G));refine wpAny_Constant_int ?_;have l:IsTup n b a:=by obtain⟨o,e,c⟩:=L;exact⟨o,g _ _ e,c⟩
 have N:0<a.size:=by
  rcases Nat.eq_zero_or_pos a.size with z|z;·rw[pv (by lia)]at h0;cases h0
  ·exact z
 exact ti (x:=k) l.typeIs slot_tuple_getitem.lookup
  (getItem_tuple (j:=0) (Q:=fun r O=>r=k/\_) l (by decide) (by decide) (by rw[D1 (by decide) (by lia)];rfl) h0 ⟨rfl,h _ _ g⟩) rfl
def Keys(prog:Program)(w:World)(A:Around)(f:Value)(vs:List Value)(ks:List Str)(h0:Heap):Prop:=
 ∀(i:Nat)(v:Value)(k:Str),vs[i]? =some v->ks[i]? =some k->∀(s1:Shared)(E:Value->Shared->Prop)(a:Value->Shared->Prop),Kp h0 s1.heap->
  (∀t h' t',Kp s1.heap h'->a (.str k t) {s1 with heap:=h',toks:=t'})->wpAny (model prog w) A (call f [v]) a E s1
theorem strs_snoc{k:Str}{t:Tok}:∀{vs:List Value}{ks:List Str},BJ vs ks->BJ (vs++[.str k t]) (ks++[k])
 |_,_,.nil=>.cons k t .nil
 |_,_,.cons y u h=>.cons y u (strs_snoc h)
def FR{e f:Nat}{st:SortSt}{P:dI->Shared->Prop}(t:(arrOf st).map (·.2)=eA out)(hz:out.length<64)(p:kv.length<64)(hf:failedOf st=none)
  (n:s.heap.get? kS=some (seqObj "list" kv.toArray e))(l:s.heap.get? a=some (seqObj "list" #[] f))(r:kS≠a)
  (h:∀h' c,(∀b o,b≠a->b≠kS->s.heap.get? b=some o->h'.get? b=some o)->h'.get? a=some (seqObj "list" out.toArray c)->P (.done (.ret .none)) {s with heap:=h'}):
  wpAny (model prog w) A (ksk_tail a false f (.ref kS) st) P E s:=by
 have i:=bQ s.heap kS (bf fun _=>(#[]:Array Value));have g:(s.heap.update kS (bf fun _=>(#[]:Array Value))).get? a=some (seqObj "list" #[] f):=(i.2 a (bI r)).trans l;have u:=bQ (s.heap.update kS (bf fun _=>(#[]:Array Value))) a (bf fun _=>eA out);obtain⟨d,m⟩:∃d,((s.heap.update kS (bf fun _=>(#[]:Array Value))).update a (bf fun _=>eA out)).get? a=some (seqObj "list" (eA out) d):=⟨_,tG g fun _=>eA out⟩;unfold ksk_tail;try dsimp only
 rw[t];refine af (fX n rfl ?_ (by rw[aD];exact gh p) (aV _));refine af (pO ?_);refine af (vx g rfl ?_);refine af (fX g rfl ?_ (aV _) (by simpa using FY hz));rw[hf];simp only[bne_self_eq_false,aZ,if_false];exact aj (h _ d (fun b o j k q=>(u.2 b j).trans ((i.2 b k).trans q)) m)
def end_ok{e f:Nat}{P:dI->Shared->Prop}(nd:ks.Nodup)(r:BJ kv ks)(y:ks.length=vs.length)(m:vs.length<64)
  (x:s.heap.get? kS=some (seqObj "list" kv.toArray e))(v:s.heap.get? a=some (seqObj "list" #[] f))(B:kS≠a)
  (h:∀h' c,(∀b o,b≠a->b≠kS->s.heap.get? b=some o->h'.get? b=some o)->h'.get? a=some (seqObj "list" (gV (oF ks) vs).toArray c)->P (.done (.ret .none)) {s with heap:=h'}):
  wpAny (model prog w) A (ksk_end a false vs.toArray f (.ref kS) (eA kv)) P E s:=by
 have g:vs.toArray.size=vs.length:=by simp
 have O:=wt r;have n:kv.length=vs.length:=O.trans y;unfold ksk_end;simp only[aZ,if_false];by_cases hn:vs.length<2;·have l:gV (oF ks) vs=vs:=if_pos hn;rw[l]at h;rw[if_pos (by rw[g];exact hn),if_pos (by rw[g];exact hn)];refine af (aj (af ?_));rw[StateT.run_pure];refine aj (FR (out:=vs) ?_ m (by lia) rfl x v B h);show(kv.toArray.zip vs.toArray).map (·.2)=vs.toArray;apply Nn;simp[n6,n]
 ·have I:2<=vs.length:=by lia
  have l:gV (oF ks) vs=(run (oF ks) (dX vs.length)).toList.map fun i=>vs.getD i .none:=if_neg hn;rw[l]at h;rw[if_neg (by rw[g];exact hn),if_neg (by rw[g];exact hn)];obtain⟨κ,M,N⟩:=Jj (prog:=prog) (w:=w) (A:=A) (h0:=s.heap) r (by lia) s (fun _ _ q=>q);have T:Tot (oF ks) vs.length:=by rw[<-y];exact wj nd
  obtain⟨F,R,D⟩:=fk T (by lia:1<=vs.length);refine af (M _ _ (af ?_));have key:=kat_run (prog:=prog) (w:=w) (A:=A) (E:=E) (κ:=κ) (ks:=kv) (vs:=vs) (s:=s)
   (Q:=fun k d=>d=s/\arrOf k=(run (oF ks) (dX vs.length)).map (kas_item (kv.toArray.zip vs.toArray))/\failedOf k=none)
   (G:=fun p d=>d=s/\p=run (oF ks) (dX vs.length)) n I m
   (fun p k d _ f H u=>⟨u.1,by rw[f,u.2],H⟩)
   (wp_run (S:=fun d=>d=s) (fun i j C d hi U L t J=>by subst t;exact N i j C (by lia) (by lia) L (J _ rfl)) _ _ D rfl fun d t=>⟨t,rfl⟩)
  refine cZ key ?_ fun _ _ z=>z;rintro⟨⟨⟩,k⟩ d ⟨rfl,K,hf⟩;exact FR (kat_snds n K) (by rw[ai,cD,F.size];exact m) (by lia) hf x v B h
def Ki{f:Value}{P:dI->Shared->Prop}(nd:ks.Nodup)(U:ks.length=vs.length)(u:s.heap.get? a=some (seqObj "list" vs.toArray n))
  (k0:∀b o,h0.get? b=some o->s.heap.get? b=some o/\b≠a)(F:vs.length<64)(W:Keys prog w A f vs ks h0)
  (h:∀h' t' c,(∀b o,b≠a->s.heap.get? b=some o->h'.get? b=some o)->h'.get? a=some (seqObj "list" (gV (oF ks) vs).toArray c)->P (.done (.ret .none)) {s with heap:=h',toks:=t'}):
  wpAny (model prog w) A (ksk_tree a f false) P E s:=by
 have V:vs.toArray.size=vs.length:=by simp
 have S:a<s.heap.objs.size:=aA u;have X:=bQ s.heap a (bf fun _=>(#[]:Array Value));obtain⟨m,M⟩:∃m,(s.heap.update a (bf fun _=>(#[]:Array Value))).get? a=some (seqObj "list" #[] m):=⟨_,tG u fun _=> #[]⟩;unfold ksk_tree;refine af (listItems_at u rfl ?_);refine af (fX u rfl ?_ (by rw[V];exact gh F) (aV _));refine af (vx M rfl ?_);refine af (wpAny_newTuple ?_ (show vs.length<=_ from gh F));refine af (pZ ?_ (aV _));refine bY ?_;have J:((s.heap.update a (bf fun _=>(#[]:Array Value))).push (seqObj "tuple" vs.toArray 0)).get? a=some (seqObj "list" #[] m):=ag _ M;have O:∀b o,b≠a->s.heap.get? b=some o->((s.heap.update a (bf fun _=>(#[]:Array Value))).push (seqObj "tuple" vs.toArray 0)).get? b=some o:=fun b o g q=>ag _ ((X.2 b g).trans q);have v:s.heap.objs.size<((s.heap.update a (bf fun _=>(#[]:Array Value))).push (seqObj "tuple" vs.toArray 0)).objs.size:=by rw[Jp,n8];lia
 show wpAny _ _ (ksk_rest a f false vs.toArray m (.ref ((s.heap.update a (bf fun _=>(#[]:Array Value))).push (seqObj "tuple" vs.toArray 0)).objs.size)) _ _
  {s with heap:=((s.heap.update a (bf fun _=>(#[]:Array Value))).push (seqObj "tuple" vs.toArray 0)).push (seqObj "list" #[] 0)}
 generalize(s.heap.update a (bf fun _=>(#[]:Array Value))).push (seqObj "tuple" vs.toArray 0)=h1 at J O v⊢;have L:h1.objs.size≠a:=eN (gA S v);unfold ksk_rest;refine af (iI ?_)
 first
  |rw[List.forIn_toArray]
  | (rw[<-Nm];simp only[Ni])
  |rw[<-Nm]
 refine af (ksk_fold (fun i H=>∃l C d e,H={s with heap:=l,toks:=C}/\BJ d (ks.take i)/\l.get? h1.objs.size=some (seqObj "list" (eA d) e)/\l.get? a=some (seqObj "list" #[] m)/\∀b o,b≠a->s.heap.get? b=some o->l.get? b=some o)
  vs 0 _ ⟨_,s.toks,[],0,rfl,by rw[List.take_zero];exact .nil,ay _ rfl,ag _ J,fun b o g q=>ag _ (O b o g q)⟩ ?_ ?_)
 ·rintro j x H N ⟨l,C,d,e,rfl,r,p,G,B⟩;rw[yk]at r;have Y:j<vs.length:=(aC.mp N).1;have K:ks[j]? =some (ks[j]'(by lia)):=ae (by lia);have Z:d.length=j:=by rw[wt r,dz];lia
  refine af (jg (W j x _ N K _ _ _ (fun b o q=>B b o (k0 b o q).2 (k0 b o q).1) fun t I t3 y=>?_));have Q:=bQ I h1.objs.size (bf (·.push (i5 (ks[j]'(by lia)) t)));have R:(eA d).push (i5 (ks[j]'(by lia)) t)=eA (d++[i5 (ks[j]'(by lia)) t]):=by simp
  obtain⟨D,T⟩:∃D,(I.update h1.objs.size (bf (·.push (i5 (ks[j]'(by lia)) t)))).get? h1.objs.size=some (seqObj "list" (eA (d++[i5 (ks[j]'(by lia)) t])) D):=⟨_,by rw[<-R];exact tG (y _ _ p) (·.push _)⟩;try dsimp only
  refine af (fX (y _ _ p) rfl ?_ (by rw[aD];exact gh (by lia)) (aL (JA (Array.size_push ..)) (by rw[aD];exact FY (by lia))));refine aj ⟨rfl,_,t3,d++[i5 (ks[j]'(by lia)) t],D,rfl,?_,T,(Q.2 a (bI L)).trans (y _ _ G),fun b o g q=>(Q.2 b (aP (gA (aA q) v))).trans (y _ _ (B b o g q))⟩;rw[yk,dM,K];exact strs_snoc r
 ·rintro H ⟨l,C,d,e,rfl,r,p,G,B⟩;rw[yk,gv (by lia)]at r;try dsimp only
  refine af (listItems_at p rfl ?_);exact end_ok nd r U F p G L fun h' c k q=>h h' C c (fun b o g z=>k b o g (aP (gA (aA z) v)) (B b o g z)) q
def Eu{q:Addr}{Q:Value->Shared->Prop}(nd:ks.Nodup)(n:ks.length=vs.length)(j:s.heap.IsList l vs.toArray)(a:vs.length<64)(r:Keys prog w A.in1.in1 (.ref q) vs ks s.heap)
  (h:∀h' t' c,Kp s.heap h'->h'.get? (s.heap.objs.size+1)=some (seqObj "list" (gV (oF ks) vs).toArray c)->Q (.ref (s.heap.objs.size+1)) {s with heap:=h',toks:=t'}):
  wpAny (model prog w) A (call (.builtin "sorted") [.ref l] [(bu "key",.ref q)]) Q E s:=by
 refine call_function_entry_kw kind_sorted plain_sorted entry_sorted (ksk_s1 _ _) ?_;unfold Builtin.«sorted»;refine af (m:=checkCount "sorted" 1 1 _) (aj ?_);refine af (collect_list j ?_ (by simpa using gh a));refine af (pZ ?_ (show vs.length<=_ from gh a));have g:((s.heap.push (seqObj "list" #[] 0)).update s.heap.objs.size (bf (·++vs.toArray))).objs.size=s.heap.objs.size+1:=by rw[n8,Jp]
 have p:Kp s.heap ((s.heap.push (seqObj "list" #[] 0)).update s.heap.objs.size (bf (·++vs.toArray))):=fun b o e=>by have i:=aA e;rw[aS _ _ (eN i)];exact ag _ e
 have d:(((s.heap.push (seqObj "list" #[] 0)).update s.heap.objs.size (bf (·++vs.toArray))).push (seqObj "list" vs.toArray 0)).get? (s.heap.objs.size+1)=some (seqObj "list" vs.toArray 0):=by rw[<-g];exact ay _ rfl
 show wpAny _ _ _ _ _ {s with heap:=((s.heap.push (seqObj "list" #[] 0)).update s.heap.objs.size (bf (·++vs.toArray))).push (seqObj "list" vs.toArray 0)};rw[g];have f:Kp s.heap (((s.heap.push (seqObj "list" #[] 0)).update s.heap.objs.size (bf (·++vs.toArray))).push (seqObj "list" vs.toArray 0)):=fun b o e=>ag _ (p b o e);generalize((s.heap.push (seqObj "list" #[] 0)).update s.heap.objs.size (bf (·++vs.toArray))).push (seqObj "list" vs.toArray 0)=h1 at d f⊢;refine af (bY (wpAny_call_entry_kw Jo ⟨_,d,rfl⟩ FF ?_ (ksk_l1 _ _)));show wpAny (model prog w) A.in1.in1 (Builtin.«list.sort» ⟨[.ref (s.heap.objs.size+1)],[(bu "key",.ref q)]⟩) _ _ _;rw[ksk_t1];exact Ki (s:={s with heap:=h1}) nd n d (fun b o e=>⟨f b o e,aP (bK (aA e))⟩) a r fun h' t' c k z=>⟨_,rfl,aj ⟨_,rfl,h h' t' c (fun b o e=>k b o (aP (bK (aA e))) (f b o e)) z⟩⟩
end
structure Tb where
 P:Addr
 pos:Pos
 q:Str
def Tab(T:Tb)(H:Hp):Prop:=H T.P=some (.tbl #[])\/∃c' oc u vs t,H T.P=some (.tbl #[rawInt T.pos.line,rawInt T.pos.col,.ref c'])/\H c'=some (.frz oc u)/\oc.data=.fields vs/\vs[1]? =some (.str T.q t)
structure Gr(T:Tb)(H H':Hp):Prop where
 keep:∀b o,b≠T.P->H b=some o->H' b=some o
 tab:Tab T H->Tab T H'
def Gr.refl(T:Tb)(H:Hp):Gr T H H:=⟨fun _ _ _ e=>e,fun t=>t⟩
def Gr.trans{T:Tb}{d:Hp}(a:Gr T H H1)(b:Gr T H1 d):Gr T H d:=⟨fun c o n e=>b.keep c o n (a.keep c o n e),fun t=>b.tab (a.tab t)⟩
def Gr.of{T:Tb}(e:aQ H H'):Gr T H H':=
 ⟨fun b o _ q=>e b o q,fun t=>by
  rcases t with t|⟨a,h,u,i,tk,c,d,f,g⟩;·exact .inl (e _ _ t)
  ·exact .inr ⟨a,h,u,i,tk,e _ _ c,e _ _ d,f,g⟩⟩
def Tab.ne{T:Tb}(t:Tab T H){o:HO}(e:H b=some o)(n:∀ps,o≠.tbl ps):b≠T.P:=by
 intro z;subst z;rcases t with t|⟨c,h,u,i,tk,a,d,f,g⟩;·rw[t]at e;exact n _ (bo e).symm
 ·rw[a]at e;exact n _ (bo e).symm
section
variable {T:Tb}{a:Addr}
def Gr.at(g:Gr T H H')(t:Tab T H){o:HO}(e:H a=some o)(n:∀ps,o≠.tbl ps):H' a=some o:=g.keep a o (t.ne e n) e
theorem Gr.lst(g:Gr T H H')(t:Tab T H)(e:H a=some (.lst xs)):H' a=some (.lst xs):=g.at t e fun _ z=>by cases z
def Gr.mR(g:Gr T H H')(t:Tab T H)(e:H a=some (.tup xs)):H' a=some (.tup xs):=g.at t e fun _ z=>by cases z
theorem Gr.frz(g:Gr T H H')(t:Tab T H){o:Obj}{u:HO}(e:H a=some (.frz o u)):H' a=some (.frz o u):=g.at t e fun _ z=>by cases z
def Gr.seq(g:Gr T H H')(t:Tab T H)(h:SqL K H a xs):SqL K H' a xs:=by
 rcases h with(h|⟨o,h⟩) |h;·exact .inl (.inl (g.lst t h))
 ·exact .inl (.inr ⟨o,g.frz t h⟩)
 ·exact .inr h
def Gr.tup(g:Gr T H H')(t:Tab T H)(h:SqT K H a xs):SqT K H' a xs:=by
 rcases h with(h|⟨o,h⟩) |h;·exact .inl (.inl (g.mR t h))
 ·exact .inl (.inr ⟨o,g.frz t h⟩)
 ·exact .inr h
end
def un_tab{fs:List Addr}{p:Addr}{i:Obj}{ps more:Array Value}(m:HOk P w H h)(g:∀b o,b≠p->h.get? b=some o->h'.get? b=some o)(c:H p=some (.tbl ps))(k:h.objs.size<=c')
  (r:h'.get? p=some (tabObj (ps++more)))(j:h'.get? c'=some i):
  Un fs [] H (upd (upd H c' (.frz i (.ext fun _=>True))) p (.tbl (ps++more))) h h'/\HOk P w (upd (upd H c' (.frz i (.ext fun _=>True))) p (.tbl (ps++more))) h':=by
 have l:H c'=none:=m.fresh k;have ne:c'≠p:=bI (bL c l);have f:∀{b:Addr}{o:HO},H b=some o->b≠p->upd (upd H c' (.frz i (.ext fun _=>True))) p (.tbl (ps++more)) b=some o:=fun{b o} e n=>by rw[ba n,ba (bL e l)];exact e
 have nt:∀{b:Addr}{o:HO},H b=some o->(∀s,o≠.tbl s)->b≠p:=fun{b o} e n z=>by subst z;rw[c]at e;exact n _ (bo e).symm
 refine⟨⟨fun b o e n _ _=>g b o (fun z=>by rw[z,c]at n;cases n) e,fun b o e n _ _=>⟨o.slots,g b o (fun z=>by rw[z,c]at n;cases n) e⟩,fun b o e n _=>?_,fun b o e _=>?_,fun b x e=>f e (nt e fun _ z=>by cases z),
  fun b o u e=>f e (nt e fun _ z=>by cases z),fun b s e=>?_⟩,fun b o e=>?_⟩
 ·have a:b≠p:=fun z=>by rw[z,c]at n;cases n
  rw[ba a,ba (aP (aU (aA e) k))];exact n
 ·by_cases a:b=p;·exact⟨_,by rw[a];exact r⟩
  ·exact⟨o,g b o a e⟩
 ·by_cases a:b=p;·subst a;rw[c]at e;cases e;exact⟨more,au⟩
  ·exact⟨#[],by rw[f e a];simp⟩
 ·by_cases a:b=p;·subst a;rw[au]at e;cases e;exact r
  ·rw[ba a]at e;by_cases hc2:b=c';·subst hc2;rw[au]at e;cases e;exact⟨j,trivial,⟨_,j⟩,fun _ _ _ _=>trivial⟩
   ·rw[ba hc2]at e;refine(m b o e).mS (fun d v t q=>g d v ?_ q) (fun d q=>f q (nt q fun _ z=>by cases z)) fun d x q=>f q (nt q fun _ z=>by cases z);rcases t with z|z;·rw[z];exact a
    ·exact nt z fun _ y=>by cases y
def BM(mg:Str->Option Value)(h:Heap):Prop:=∃bm a,mg "__builtins__"=some (.ref bm)/\bm≠nZ/\bm≠bH/\h.get? bm=some a/\a.cls=.type "module"/\a.dict=some nZ/\a.data=.plain
def rSortK(K:ah)(T:Tb):List V->Hp->VK->Prop:=fun xs H Q=>∃a ys ks,xs=[V.ref a]/\SqL K H a ys/\ks.length<64/\ks.Nodup/\td H ys ks/\Tab T H/\
 ∀H2 l,Gr T H H2->H2 l=none->Q (.ref l) (upd H2 l (.lst (sortBy .non ks ys)))
def wm(K:ah)(T:Tb)(te:TE):TE:=fun σ H Q=>lS te vi σ H fun xs H1=>rSortK K T xs H1 Q
structure MU(env:Env)(params:Arguments)(x:Str)(body:Expr)(scope:Scope):Prop where
 cl:Jw scope env=pure []
 df:defaultsOf params env=([],[])
 bd:∀(qual:Str)(pm bc v:Value)(c':Addr),rD (kla_fn "<lambda>" qual params body scope [] pm (.ref c') bc) ⟨[v],[]⟩=pure [(x,v)]
 lk:scope.names.lookup x=some .local
 dbg:(x==("__debug__":Str))=false
 kd:scope.kind=.function
 nc:∀y∈scope.names,y.2≠.cell
 co:scope.isCoroutine=false
 gn:scope.isGenerator=false
section
variable {te:TE}{T:Tb}{c:Addr}{p kp p1 p2 p3:Pos}{x:Str}{params:Arguments}
theorem vP(O:MU X.env params x (.Subscript (.Name x p1) (.Constant (.int 0) j p2) p3) scope)(ok:HOk X.prog X.w H s.heap)
  (hf:s.heap.get? f=some (kla_obj "<lambda>" qual params (.Subscript (.Name x p1) (.Constant (.int 0) j p2) p3) scope [] pm c' bc))(e:s.heap.CodeRec (.ref c') qual)(h:A.depth<jV)(g:s.heap.NoLimit):
  ∀{ys:List V}{ks:List Str}{vs:List Value},td H ys ks->bM ys vs->Keys prog w A (.ref f) vs ks s.heap
 |_,_,_,.nil,.nil=>fun i v k c=>by simp at c
 |_,_,_,.cons y t,.cons r q=>by
  intro i v k c d G E l b hq;cases i with
  |zero=>
   obtain⟨a,K,rfl,p⟩:=y;cases r;have m:v=bE a:=by simpa using c.symm
   subst m;obtain⟨_,J,F,o,u,z,n,B⟩:=ok a _ p;cases F with
   |cons r0 _=>obtain⟨tk,rfl⟩:=r0;obtain rfl:=bo d;exact MK (b _ _ hf) (e.keeps b) h (g.keeps b) (fun v=>O.bd _ _ _ v _) O.lk O.dbg O.kd O.nc O.co O.gn ⟨o,b _ _ u,z,n,B⟩ (by simp) fun C I D=>hq tk C I D
  |succ i=>exact vP O ok hf e h g t q i v k (by simpa using c) (by simpa using d) G E l b hq
def zc{Q:VK}(O:MU X.env params x (.Subscript (.Name x p1) (.Constant (.int 0) j p2) p3) scope)(I:Inv X pins σ H s)
  (hf:s.heap.get? f=some (kla_obj "<lambda>" T.q params (.Subscript (.Name x p1) (.Constant (.int 0) j p2) p3) scope [] pm c' bc))(e:s.heap.CodeRec (.ref c') T.q)(i:X.A.depth<jV)
  (hq:SqL X.K H a ys)(t:ks.length<64)(nd:ks.Nodup)(c:td H ys ks)(q:∀l,H l=none->Q (.ref l) (upd H l (.lst (sortBy .non ks ys)))):
  wpAny (model X.prog X.w) X.A (call (.builtin "sorted") [.ref a] [(bu "key",.ref f)]) (EP X pins σ Q) X.xe s:=by
 obtain⟨o,b,p,v⟩:=I.list hq;have h:ks.length=ys.length:=uE c;have u:=b.length;have m:ks.length=o.length:=by lia
 refine Eu nd m p.isList (by lia) (vP (A:=X.A.in1.in1) O I.hok hf e i I.nolimit c b) fun r t' d k g=>?_;have n:(sortBy V.non ks ys).length<=sizeLine:=by unfold sortBy;rw[ai,ord_len ks nd];lia
 exact⟨.ref (s.heap.objs.size+1),_,I.laid (t':=t') k (dU _) (show dO X.prog X.w _ _ _ (.lst (sortBy .non ks ys))from⟨n,_,d,Le nd h b,g⟩),rfl,q _ (I.hok.fresh (dU _))⟩
def K2(he:PE X e te)(s:bB [e] X.env=(false,eval e X.env)::bB [] X.env)(hg:Gl X "sorted")(hm:X.mg "sorted"=none)(C:X.env.code=.ref c)(B:CodeHd X.base c T.P)(hq:X.env.qual++"<lambda>"=T.q)(hb:BM X.mg X.base)
  (O:MU X.env params x (.Subscript (.Name x p1) (.Constant (.int 0) j p2) p3) scope)(K:X.A.depth<jV):
  PE X (.Call (.Name "sorted" p) [e] [⟨some (bu "key"),.Lambda params (.Subscript (.Name x p1) (.Constant (.int 0) j p2) p3) scope T.pos,kp⟩] pos) (wm X.K T te):=by
 intro a9 b9 σ H c0 I a0;refine gP (lC (u:=.builtin "sorted") I hg hm (by decide+kernel) ?_);refine callWith_kw (thn (iu he lB s pos a9 b9 σ H _ I a0) fun us f ⟨i,g,a,b7,c1,ys,ks,ev,M,y,nd,G,tb,q⟩=>?_) (by rw[s];rfl) (by rw[s];rfl);subst ev;obtain⟨u,rfl,rx⟩:=vals1 b7;cases rx;obtain⟨w,ob,R,S,Q,v,U,V,W⟩:=hb;have F:f.heap.Ns bH X.mg:=a.mod.glob.keeps a.bk;have a1:w≠T.P:=fun z=>by have n:=(a.bs _ _ v).2;rw[z]at n;rcases tb with t|⟨_,_,_,_,_,t,_⟩<;>(rw[t]at n;cases n)
 have a3:bH≠T.P:=fun z=>by obtain⟨o,es,ep,g1,g2,_⟩:=a.mod.glob;have n:=(a.bs _ _ g1).2;rw[z]at n;rcases tb with t|⟨_,_,_,_,_,t,_⟩<;>(rw[t]at n;cases n)
 have A:f.heap.BuiltinsAt X.mg T.P:=⟨w,ob,R,S,Q,a1,a.bk _ _ v,U,V,W⟩;refine kws_cons (kla_eval O.df ?_);rw[hq];rcases tb with t|⟨d,h,u,i,tk,t,a2,k,a6⟩
 ·refine kla_makeFunction (mg:=X.mg) O.cl a.ok.glob F C (B.keeps a.bk) (ps:= #[]) (a.hok _ _ t) True.intro rfl a3 A fun d m h' tk hx E c3 a4 a5=>kws_nil ?_;obtain⟨c2,h,i,N,ec,k,D,L⟩:=a4;cases ec;have a7:∀b o,b≠T.P->f.heap.get? b=some o->(h'.push (kla_obj "<lambda>" T.q params (.Subscript (.Name x p1) (.Constant (.int 0) j p2) p3) scope [] ((X.mg "__name__").getD .none) d m)).get? b=some o:=fun b o n e=>ag _ (hx b o n e);obtain⟨un,ok⟩:=un_tab (fs:=frs X.stack) a.hok a7 t E (ag _ a5) (ag _ k);have l:=a.call (g':=f.gens) (t':=tk) (d':=f.drawn) un ok a.bare (fun b z=>absurd z (by simp));have P:Tab T g:=.inl t;have gr:Gr T g (upd (upd g d (.frz h (.ext fun _=>True))) T.P (.tbl (#[]++ #[rawInt T.pos.line,rawInt T.pos.col,bE d]))):=by
   have J:g d=none:=a.hok.fresh E;refine⟨fun b o n e=>by rw[ba n,ba (bL e J)];exact e,fun _=>.inr ⟨d,h,.ext fun _=>True,i,N,?_,?_,D,L⟩⟩;·rw[au];simp
   ·rw[ba (bI (bL t J)),au]
  exact zc O l (ay _ rfl) ⟨d,h,i,N,rfl,ag _ k,D,L⟩ K (gr.seq P M) y nd (Paired.mZ G fun c6 c5 ⟨b,b8,Y,Z⟩=>⟨b,b8,Y,gr.mR P Z⟩) (q _ · gr)
 ·refine kla_makeFunctionHit (mg:=X.mg) O.cl a.ok.glob F C (B.keeps a.bk) (a.hok _ _ t) (by simp[TriplesOk,rawInt]) (cv:=.ref d) (by simp[codeAmong,rawInt]) A fun m h' tk r c4=>kws_nil ?_;have l:=a.call (H':=g) (h':=h'.push (kla_obj "<lambda>" T.q params (.Subscript (.Name x p1) (.Constant (.int 0) j p2) p3) scope [] ((X.mg "__name__").getD .none) d m)) (g':=f.gens) (t':=tk) (d':=f.drawn) (ch:=[])
   (Un.kept fun b o e=>ag _ (r b o e)) (a.hok.kept fun b o e=>ag _ (r b o e)) a.bare (fun b z=>absurd z (by simp))
  exact zc O l (ay _ rfl) ⟨d,h,i,_,rfl,ag _ (r _ _ (a.hok _ _ a2).1),k,a6⟩ K M y nd G fun a8 hl=>q g a8 (Gr.refl _ _) hl
end
end Lm
namespace Lm
open PySem PySem.Spec PySem.W PyProof.Rows L2 Q R
abbrev sj(lx:Str)(p:Pos):Arguments:={posonlyargs:=[],args:=[⟨lx,none,p⟩],vararg:=none,kwonlyargs:=[],kw_defaults:=[],kwarg:=none,defaults:=[]}
abbrev isArg(lx:Str):List Arg->Bool
 |x::r=>r.isEmpty&&(x.annotation.isNone&&x.arg==lx)
 | []=>false
abbrev zB(lx:Str)(a:Arguments):Bool:=a.posonlyargs.isEmpty&&(a.vararg.isNone&&(a.kwonlyargs.isEmpty&&(a.kw_defaults.isEmpty&&(a.kwarg.isNone&&(a.defaults.isEmpty&&isArg lx a.args)))))
def jI{a b:Bool}(h:(a&&b)=true):a=true/\b=true:=by rwa [aF]at h
def emp{a:Type}{l:List a}(h:l.isEmpty=true):l=[]:=List.isEmpty_iff.mp h
def non{a:Type}{l:Option a}(h:l.isNone=true):l=none:=iq.mp h
def EZ{a:Arguments}(h:zB lx a=true):∃p,a=sj lx p:=by
 obtain⟨s,b,t,o,n,q,c⟩:=a;obtain⟨d,h⟩:=jI h;obtain⟨e,h⟩:=jI h;obtain⟨f,h⟩:=jI h;obtain⟨g,h⟩:=jI h;obtain⟨i,h⟩:=jI h;obtain⟨j,h⟩:=jI h;cases b with
 |nil=>exact(ak h).elim
 |cons x r=>obtain⟨k,h⟩:=jI h;obtain⟨l,m⟩:=jI h;obtain⟨y,an,p⟩:=x;exact⟨p,by rw[(emp d:s=[]),(non e:t=none),(emp f:o=[]),(emp g:n=[]),(non i:q=none),(emp j:c=[]),(emp k:r=[]),(non l:an=none),(eq_of_beq m:y=lx)];rfl⟩
abbrev qW(lx:Str)(sc:Scope):Bool:=decide (sc.names=[(lx,.local)])&&(decide (sc.kind=.function)&&(decide (sc.isCoroutine=false)&&(decide (sc.isGenerator=false)&&(lx==("__debug__":Str))==false)))
abbrev isNm(lx:Str):Expr->Bool
 |.Name x _=>x==lx
 |_=>false
def GI(h:isNm lx e=true):∃p,e=.Name lx p:=by
 cases e with
 |Name x p=>cases eq_of_beq h;exact⟨p,rfl⟩
 |_=>exact(ak h).elim
abbrev isZero:Expr->Bool
 |.Constant c _ _=>decide (c=.int 0)
 |_=>false
def IG(h:isZero e=true):∃j p,e=.Constant (.int 0) j p:=by
 cases e with
 |Constant c j p=>cases of_decide_eq_true h;exact⟨j,p,rfl⟩
 |_=>exact(ak h).elim
abbrev GJ(lx:Str):Expr->Bool
 |.Subscript a b _=>isNm lx a&&isZero b
 |_=>false
def E4(h:GJ lx e=true):∃p1 j p2 p3,e=.Subscript (.Name lx p1) (.Constant (.int 0) j p2) p3:=by
 cases e with
 |Subscript a b p=>obtain⟨c,d⟩:=jI h;obtain⟨p1,rfl⟩:=GI c;obtain⟨j,p2,rfl⟩:=IG d;exact⟨_,_,_,_,rfl⟩
 |_=>exact(ak h).elim
abbrev Fn(lx:Str)(pos:Pos):Expr->Bool
 |.Lambda params body scope lp=>decide (lp=pos)&&(zB lx params&&(qW lx scope&&GJ lx body))
 |_=>false
def IV(h:Fn lx pos e=true):∃a scope p1 j p2 p3,e=.Lambda (sj lx a) (.Subscript (.Name lx p1) (.Constant (.int 0) j p2) p3) scope pos/\qW lx scope=true:=by
 cases e with
 |Lambda params body scope lp=>obtain⟨b,h⟩:=jI h;obtain⟨c,h⟩:=jI h;obtain⟨d,f⟩:=jI h;cases of_decide_eq_true b;obtain⟨a,rfl⟩:=EZ c;obtain⟨p1,j,p2,p3,rfl⟩:=E4 f;exact⟨_,_,_,_,_,_,rfl,d⟩
 |_=>exact(ak h).elim
abbrev MJ(lx:Str)(pos:Pos):List Keyword->Bool
 |k::r=>r.isEmpty&&(decide (k.arg=some (bu "key"))&&Fn lx pos k.value)
 | []=>false
abbrev xW(sc:Scope)(N:List Str)(a:CE)(lx:Str)(pos:Pos):Expr->Bool
 |.Call f es ks _=>isNm "sorted" f&&(kP sc "sorted"&&(m6 sc N (.cons a .nil) es&&MJ lx pos ks))
 |_=>false
abbrev MH(sc:Scope)(N:List Str)(i:Nat):List Expr->Bool
 |g::r=>r.isEmpty&&xV sc N true (.name i) g
 | []=>false
abbrev Fo(sc:Scope)(N:List Str)(i:Nat)(a:CE)(lx:Str)(pos:Pos):Stmt->Bool
 |.Assign ts v _=>MH sc N i ts&&xW sc N a lx pos v
 |_=>false
def asg_of{a:CE}{s:Stmt}(h:Fo sc N i a lx pos s=true):∃ts v p,s=.Assign ts v p/\MH sc N i ts=true/\xW sc N a lx pos v=true:=by
 cases s<;>first |exact dg h|skip
 obtain⟨b,c⟩:=jI h;exact⟨_,_,_,rfl,b,c⟩
def tg_of{a:List Expr}(h:MH sc N i a=true):∃g,a=[g]/\xV sc N true (.name i) g=true:=by
 cases a with
 |nil=>exact dg h
 |cons g r=>obtain⟨b,c⟩:=jI h;cases emp b;exact⟨g,rfl,c⟩
def MM{b:CE}{v:Expr}(h:xW sc N b lx pos v=true):∃f es ks c,v=.Call f es ks c/\isNm "sorted" f=true/\kP sc "sorted"=true/\m6 sc N (.cons b .nil) es=true/\MJ lx pos ks=true:=by
 cases v<;>first |exact dg h|skip
 obtain⟨d,a⟩:=jI h;obtain⟨e,a⟩:=jI a;obtain⟨g,i⟩:=jI a;exact⟨_,_,_,_,rfl,d,e,g,i⟩
def kw_of{ks:List Keyword}(h:MJ lx pos ks=true):∃kv kp,ks=[⟨some (bu "key"),kv,kp⟩]/\Fn lx pos kv=true:=by
 cases ks with
 |nil=>exact dg h
 |cons k ks=>obtain⟨a,b⟩:=jI h;obtain⟨c,d⟩:=jI b;cases emp a;obtain⟨e,kv,kp⟩:=k;cases of_decide_eq_true c;exact⟨_,_,rfl,d⟩
def AsgO(sc:Scope)(N:List Str)(i:Nat)(a:CE)(lx:Str)(pos:Pos)(s:Stmt):Prop:=∃g e c scope p1 j p2 p3 p kp b sp,s=.Assign [g] (.Call (.Name "sorted" p) [e] [⟨some (bu "key"),.Lambda (sj lx c) (.Subscript (.Name lx p1) (.Constant (.int 0) j p2) p3) scope pos,kp⟩] b) sp/\
  xV sc N true (.name i) g=true/\kP sc "sorted"=true/\d5 sc N a e=true/\qW lx scope=true
def IW{a:CE}{s:Stmt}(h:Fo sc N i a lx pos s=true):AsgO sc N i a lx pos s:=by obtain⟨I,v,H,rfl,c,m⟩:=asg_of h;obtain⟨g,rfl,n⟩:=tg_of c;obtain⟨f,x,z,w,rfl,o,q,r,t⟩:=MM m;obtain⟨p,rfl⟩:=GI o;obtain⟨e,F,rfl,u,d⟩:=kb r;cases me d;obtain⟨A,y,rfl,k⟩:=kw_of t;obtain⟨E,G,B,j,C,D,b,l⟩:=IV k;cases b;exact⟨_,_,_,_,_,_,_,_,_,_,_,_,rfl,n,q,u,l⟩
abbrev chkK(sc:Scope)(N:List Str)(a:CS)(i:Nat)(c:CE)(lx:Str)(pos:Pos)(b:CB):List Stmt->Bool
 |s1::r=>chkS sc N a s1&&rst r
 | []=>false
where rst:List Stmt->Bool
 |s2::rest=>Fo sc N i c lx pos s2&&rj sc N b rest
 | []=>false
section
variable {mg:Str->Option Value}
def Ml{st:Stmt}{q:fg}{sp:Sp}{l:CS}{n:CE}{m:CB}{T:Tb}(F:Fun K x qual st f q)(Y:qd N ps (aO st)=true)
  (b:chkK (aO st) N l i n lx T.pos m (aX st)=true)(W:q.code=.ref c)(O:CodeHd base c T.P)(hq:qual++".<locals>."++"<lambda>"=T.q)(U:BM mg base)
  (V:∀(p:Pos)(j:Expr)(scope:Scope)(qual:Str)(pm bc v:Value)(c':Addr),rD (kla_fn "<lambda>" qual (sj lx p) j scope [] pm (.ref c') bc) ⟨[v],[]⟩=pure [(lx,v)])
  (g:GOk P w K mg base (CXx P w) k G)(len:∀vs H Q E,sp vs H Q E->vs.length=ps.length)
  (h:∀vs H Q E,sp vs H Q E->yx (wpS G K (fun _=>E) l) (yx (Af (wm K T (wpE G K (fun _=>E) n)) (nC i)) (wpB G K (fun _=>E) m)) {nx:=fun _ H'=>Q .non H',rt:=Q} (start N vs) H):jx P w K mg base (CXx P w) (k+1) f q ps sp:=by
 have S:=Cw Y;obtain⟨oc,od,kV,a1,pm,an,C,ct,a3,rfl,lk,X⟩:=F.ex;have D:C=.ref c:=W;subst D;refine fn_of lk X S len fun a0 outer a4 H vs Q E u Z=>?_;have o:=Lg (outer:=outer) (E:=E) (H:=H) S g u;refine⟨_,?_,h vs H Q E Z⟩;generalize hB:aX st=j at b;cases j with
 |nil=>exact(ak b).elim
 |cons s1 r=>
  obtain⟨I,b⟩:=jI b;cases r with
  |nil=>exact(ak b).elim
  |cons s2 rest=>
  obtain⟨J,L⟩:=jI b;obtain⟨g',e,pa,scope,p1,a2,p2,p3,p,kp,cp,a5,rfl,s,M,t,a⟩:=IW J;obtain⟨d,a⟩:=jI a;obtain⟨y,a⟩:=jI a;obtain⟨A,a⟩:=jI a;obtain⟨B,n5⟩:=jI a;rw[decide_eq_true_eq]at d y A B;have R:=tN (CX:=CXx P w) (fun _ _ _ _ _ z=>IQ z) (.name i) _ o s;refine rT (Kf (fun _ _ _ _ _ z=>IQ z) l s1 o (fun _ _ _ _ _=>S.kind) I) (rT ?_ (oj (fun _ _ _ _ _ z=>IQ z) m rest o (fun _ _ _ _ _=>S.kind) L));refine ED (K2 (c:=c) (T:=T) (bP (fun _ _ _ _ _ z=>IQ z) n e o t) (cJ t [] _) (o.gl M) (g.blt _ (by decide+kernel)) rfl O hq U ?_ ?_) R (CC rfl _ _ _) (w9 s (fT _) _) (by rw[rW s];rfl)
  ·refine⟨?_,rfl,fun qual pm bc v c'=>V pa _ _ qual pm bc v c',by rw[d];simp,by simpa using n5,y,?_,A,B⟩;·unfold Jw;rw[d];rfl
   ·rw[d];intro z hz;have :z=(lx,eD.local):=by simpa using hz
    rw[this];exact fun z=>by cases z
  ·exact u.depth
end
abbrev kz(K:ah)(tabs:List Addr)(a:Addr)(vs:List Value)(ns:List Int):Hp:=fun b=>
 if b∈tabs then some (.tbl #[])else if b=a/\K.lookup a=none then some (.frz {cls:=.type "list",data:=.seq vs.toArray} (.lst (ns.map V.int)))else none
def IC{CX:CXT}{D:fg}{sp:Sp}{c:Shared}(B:K.In c.heap)
  (J:c.heap.Ns bH mg)(f:c.heap.Ns nZ mb)(a0:∀x:Str,x≠"__name__"->mb x=fP x)(a2:c.heap.NoLimit)(hg:c.gens= #[])(j:c.heap.get? a=some {cls:=.type "list",data:=.seq vs.toArray})
  (hi:cj vs ns) (I:ns.length<=sizeLine) (hr:jf k Hl) (t:∀p∈tabs,c.heap.get? p=some (tabObj #[])/\isCodeTable c.heap p/\K.lookup p=none)
  (F:∀base:Heap,K.In base->base.Ns bH mg->(∀b o,c.heap.get? b=some o->o.cls≠.none->o.cls≠.type "list"->base.get? b=some o)->jx P w K mg base CX k fa D [x] sp)
  (a1:∀(s:Shared)(u:Value),BindsTo s D ⟨[u],[]⟩ [(x,u)])
  (a4:∀H:Hp,(∀p∈tabs,H p=some (.tbl #[]))->SqL K H a (ns.map V.int)->sp [.ref a] H (fun v _=>v=.bl true) fun _ _ _=>False) (W:∀H e s',CX [] H c (fun _ _ _=>False) e s'->False):
  gR (model P w) Hl (.call (.ref fa) ⟨[.ref a],[]⟩) (fun r s'=>r=.ok (.ret (.bool true))/\OldK c.heap s'.heap/\s'.os=c.os/\pW s'.gens) c:=by
 have M:=tK hi;have a5:=hi.length;have y:∀b,(b∈tabs/\kz K tabs a vs ns b=some (.tbl #[]))\/(b=a/\K.lookup a=none/\kz K tabs a vs ns b=some (.frz {cls:=.type "list",data:=.seq vs.toArray} (.lst (ns.map V.int))))\/kz K tabs a vs ns b=none:=fun b=>by
  unfold kz;by_cases i:b∈tabs;·exact .inl ⟨i,if_pos i⟩
  ·rw[if_neg i];by_cases g:b=a/\K.lookup a=none;·exact .inr (.inl ⟨g.1,g.2,if_pos g⟩)
   ·exact .inr (.inr (if_neg g))
 have N:∀p∈tabs,kz K tabs a vs ns p=some (.tbl #[]):=fun p hp=>if_pos hp;have Z:a∉tabs:=fun z=>by have :=(t a z).1;rw[j]at this;cases this
 --what is neither a table nor a list is not tracked
 have O:∀{b:Addr}{o:Obj},c.heap.get? b=some o->o.cls≠.none\/(∃n l,o.data=.dict n l)->o.cls≠.type "list"\/(∃n l,o.data=.dict n l)->kz K tabs a vs ns b=none:=fun{b o} e i g=>by
  rcases y b with⟨q,_⟩ |⟨rfl,_⟩ |q
  ·have :=(t b q).1;rw[e]at this;cases this;rcases i with z|⟨_,_,z⟩;·exact absurd rfl z
   ·cases z
  ·rw[j]at e;cases e;rcases g with z|⟨_,_,z⟩;·exact absurd rfl z
   ·cases z
  ·exact q
 have A:∀{b:Addr}{m:Str->Option Value},c.heap.Ns b m->(C7 c.heap (kz K tabs a vs ns)).Ns b m:=fun{b m} ⟨o,n,l,e,d,r⟩=>⟨o,n,l,xC e (O e (.inr ⟨_,_,d⟩) (.inr ⟨_,_,d⟩)),d,r⟩;have G:K.In (C7 c.heap (kz K tabs a vs ns)):=fun b o e=>xC (B b o e) (by
  rcases y b with⟨q,_⟩ |⟨rfl,z,_⟩ |q;·rw[(t b q).2.2]at e;cases e
  ·rw[z]at e;cases e
  ·exact q)
 have a3:HOk P w (kz K tabs a vs ns) c.heap:=fun b o e=>by
  rcases y b with⟨q,z⟩ |⟨rfl,_,z⟩ |z;·rw[z]at e;cases e;exact(t b q).1
  ·rw[z]at e;cases e;exact⟨j,by rw[ai];exact I,vs,_,M,j⟩
  ·rw[z]at e;cases e
 have Y:SqL K (kz K tabs a vs ns) a (ns.map V.int):=by
  cases hk:K.lookup a with
  |none=>refine .inl (.inr ⟨{cls:=.type "list",data:=.seq vs.toArray},?_⟩);unfold kz;rw[if_neg Z,if_pos ⟨rfl,hk⟩]
  |some o=>have e:=B a o hk;rw[j]at e;cases e;exact .inr ⟨_,vs.toArray,_,hk,rfl,rfl,rfl,by rw[aD,a5];exact I,by simpa using M⟩
 have X:Mod K mg (C7 c.heap (kz K tabs a vs ns)):=⟨G,A J,⟨mb,A f,a0⟩,let⟨mc,i,g⟩:=a2;⟨mc,A i,g⟩⟩;have S:FA P w K mg (C7 c.heap (kz K tabs a vs ns)) Hl [] c (kz K tabs a vs ns):=⟨rfl,X,fun b o e=>of_hidT e,JA (IK _ _),trivial,fun b f=>absurd (show b∈([]:List Addr)from f) (by simp),a3,.of_eq hg⟩;have U:=F _ G (A J) fun b o e i g=>xC e (O e (.inl i) (.inl g));refine jY (U.run Hl [] c (kz K tabs a vs ns) ⟨[.ref a],[]⟩ [.ref a] [.ref a] _ _ hr S (a1 c (.ref a)) (.cons rfl .nil) (a4 _ N Y)) fun r s' h=>?_;cases r with
 |error e=>exact(W _ e s' h).elim
 |ok fl=>
  cases fl with
  |next =>exact hV h
  |brk=>exact hV h
  |cont=>exact hV h
  |ret u=>
   obtain⟨v,H',os,Q,un,L,r',q⟩:=h;have q':v=.bl true:=q;subst q';obtain rfl:u=BI true:=r';have kept:∀b o,c.heap.get? b=some o->b∉tabs->s'.heap.get? b=some o:=fun b o e nt=>by
    rcases y b with⟨z,_⟩ |⟨rfl,_,z⟩ |z;·exact absurd z nt
    ·have z2:=un.frzs b _ _ z;obtain⟨T,_⟩:=L b _ z2;rw[j]at e;cases e;exact T
    ·exact un.keep b o e z (by intro z;exact absurd (show b∈([]:List Addr)from z) (by simp)) (by simp)
   have E:∀b∈tabs,∃more,s'.heap.get? b=some (tabObj (#[]++more)):=fun b f=>by obtain⟨more,z⟩:=un.tbls b _ (N b f);exact⟨more,L b _ z⟩
   refine⟨rfl,⟨fun b o e=>?_,fun b o e=>?_⟩,os,Q⟩
   ·by_cases f:b∈tabs;·obtain⟨C,R,_⟩:=t b f;rw[e]at C;cases C;obtain⟨more,z⟩:=E b f;exact .inr (.inl ⟨R,rfl,#[],more,rfl,z⟩)
    ·exact .inl (kept b o e f)
   ·by_cases f:b∈tabs;·obtain⟨more,z⟩:=E b f;exact⟨_,z⟩
    ·exact⟨o,kept b o e f⟩
def bm_of(l:h.Ns bH mg)(j:∃bm a,mg "__builtins__"=some (.ref bm)/\bm≠nZ/\h.get? bm=some a/\a.cls=.type "module"/\a.dict=some nZ/\a.data=.plain):BM mg h:=by obtain⟨bm,a,d,f,b,g,i,c⟩:=j;refine⟨bm,a,d,f,fun q=>?_,b,g,i,c⟩;obtain⟨o,n,m,e,k,_⟩:=l;rw[q,e]at b;cases b;rw[k]at c;cases c
def JP{l:PySem.W.OpenLaw}{q:Program}{XP:(Str->Option Value)->Heap->Prop}{YP:World->Heap->Prop}{d:DefRec}{K:Params->ah}{CX:CXT}{sp:ah->Sp}
  (Q:l.most=some n)(R:n<=sizeLine)(M:d.params.defaults=[])(U:jf k Hl)(I:∀(w:World)(h:Heap),YP w h->(K w.params).In h)
  (E:∀(w:World)(c:Shared)(mg mb:Str->Option Value)(h:Heap),Ground q loose [] XP w c mg mb h->YP w h->∀p∈tabs,h.get? p=some (tabObj #[])/\isCodeTable h p/\(K w.params).lookup p=none)
  (F:∀(w:World)(mg:Str->Option Value)(fa:Addr)(h:Heap),(K w.params).In h->h.Ns bH mg->mg d.name=some (.ref fa)->
   ∃fd:fg,(∀(s:Shared)(u:Value),BindsTo s fd ⟨[u],[]⟩ [(x,u)])/\
    ∀base:Heap,(K w.params).In base->base.Ns bH mg->BM mg base->jx l.prog w (K w.params) mg base CX k fa fd [x] (sp (K w.params)))
  (W:∀(K:ah)(H:Hp)(a:Addr)(ns:List Int),ns.length<=n->(∀p∈tabs,H p=some (.tbl #[]))->SqL K H a (ns.map V.int)->sp K [.ref a] H (fun v _=>v=.bl true) fun _ _ _=>False)
  (C:∀(H:Hp)(s:Shared)(e:Value)(s':Shared),CX [] H s (fun _ _ _=>False) e s'->False):
  PySem.W.WalkO q loose XP YP l.row.toRowW d [] (fun f vs=>PySem.call f vs):=by
 refine Att.DJ Q M fun w c a0 mg mb fa a3 pm cd a1 a vs ns G Y ho hd a2 P T O j N=>?_;have g:=I w _ Y;obtain⟨fd,J,D⟩:=F w mg fa _ g G.T.g P;have L:=bm_of G.T.g G.T.bmain;refine IC g G.T.g G.T.b G.T.builtins G.T.nolimit N T O (aL j R) U (E w c mg mb _ G Y) (fun base X Z k3=>D base X Z ?_) J (fun H t S=>W _ H a ns j t S) fun H e s'=>C H a0 e s';obtain⟨i,m,r,y,o,z,b,A,B⟩:=L;exact⟨i,m,r,y,o,k3 i m z (by rw[b];nofun) (by rw[b];decide),b,A,B⟩
end Lm
namespace Cp
open PySem PySem.Spec PyProof.Rows L2 R Lm
abbrev rU:List Str:=["table"]
abbrev jO:List Str:=["table","ordered"]
abbrev lJ:CS:=.expr (.call "need_table" (.cons (.var 0) .nil))
abbrev lH:CB:=.cons (.ret (.comp ["name","readings"] [] (.tup (.cons (.name 0) (.cons (.name 1) .nil))) (.seq (.var 1)) .no (.tup (.cons (.var 0) (.cons (.bfn .tuple (.cons (.bfn .list (.cons (.var 1) .nil)) .nil)) .nil))))) .nil
def _root_.Lm.Gr.free{T:Tb}(g:Gr T H H')(t:Tab T H)(h:H' l=none):H l=none:=by
 cases e:H l with
 |none=>rfl
 |some o=>
  by_cases n:l=T.P
  ·rcases g.tab t with z|⟨_,_,_,_,_,z,_⟩;·rw[n,z]at h;cases h
   ·rw[n,z]at h;cases h
  ·rw[g.keep l o n e]at h;cases h
abbrev srt(H:Hp):V->List V
 |.ref a=>match eO (H a)with
  |some ys=>_root_.Q.sortBy .non (ys.map (a6 H)) ys
  |none=>[]
 |_=>[]
def Copied(H H':Hp)(us zs:List V):Prop:=zs.length=us.length/\∀(i:Nat) z,zs[i]? =some z->∃b r,z=.ref b/\H' b=some (.tup [.str (a6 H (us.getD i .non)),.ref r])/\H' r=some (.tup (tP H (us.getD i .non)))
def Aj(C:Addr)(T:Tb):Sp:=fun vs H Q E=>∃x,vs=[x]/\Kn4 H x/\Tab T H/\(dW H x=true->∀H' l zs,Gr T H H'->H l=none->H' l=some (.lst zs)->Copied H H' (srt H x) zs->Q (.ref l) H')/\(dW H x=false->False)
theorem tk_of(s:aQ H H'):∀{xs:List V},(∀y∈xs,dB H y=true)->_root_.Q.td H' xs (xs.map (a6 H))
 | [],_=>.nil
 |y::xs,h=>by obtain⟨a,b,e,c,_⟩:=m5 (h y (.head _));exact .cons ⟨a,_,e,s _ _ c⟩ (tk_of s fun z d=>h z (.tail _ d))
def yt{T:Tb}(P:G.fn "need_table" 1=some (Ai C,[])):
  ∀vs H Q E,Aj C T vs H Q E->yx (R.wpS G K (fun _=>E) lJ) (yx (Af (wm K T (wpE G K (fun _=>E) (.var 0))) (nC 1)) (wpB G K (fun _=>E) lH)) {nx:=fun _ H'=>Q .non H',rt:=Q} (L2.start jO vs) H:=by
 rintro vs H Q E ⟨x,rfl,W,tb,q1,q2⟩;unfold lJ lH;change yx _ _ _ [some x,none] H;unfold wm;ext;refine⟨_,_,P,x,rfl,W,fun e L k=>?_,q2⟩;obtain⟨a,d,rfl,A,S,B,D,h5⟩:=eV e;have a4:Tab T L:=(Gr.of k).tab tb;refine⟨a,d,d.map (a6 H),rfl,k.seq (lZ A),by rw[ai];lia,D,tk_of k B,a4,fun m l gr X=>?_⟩;have M:srt H (.ref a)=_root_.Q.sortBy V.non (d.map (a6 H)) d:=by show(match eO (H a)with |some d=>_root_.Q.sortBy V.non (d.map (a6 H)) d|none=>[])=_;rw[A]
 have w:(_root_.Q.sortBy V.non (d.map (a6 H)) d).Perm d:=_root_.Q.gE V.non D (by simp);have o:=q1 e;rw[M]at o;generalize _root_.Q.sortBy V.non (d.map (a6 H)) d=us at w o⊢;have j:Gr T H (upd m l (.lst us)):=(Gr.of k).trans (gr.trans (Gr.of (aB X)));have n:upd m l (.lst us) l=some (.lst us):=au;generalize upd m l (.lst us)=H3 at j n⊢;have a0:us.length<=40:=by rw[w.length_eq];exact S
 refine cN (cn rfl (SqL.of n) (dN dc (aL a0 (by decide)) (fun f g=>SqL.of (g _ _ n)) (fun i v H'=>∃b r,v=V.ref b/\H' b=some (.tup [.str (a6 H (us.getD i .non)),.ref r])/\H' r=some (.tup (tP H (us.getD i .non))))
  (fun i v f H5 h ⟨b,r,p,q,s⟩=>⟨b,r,p,h _ _ q,h _ _ s⟩) (fun J=>∃t u,J=[t,u]) ⟨none,none,rfl⟩ ?_ ?_))
 ·rintro a7 y J f R hi ⟨t,u,rfl⟩ g I a2;have Z:y∈d:=w.mem_iff.mp (aG I);obtain⟨b,c,rfl,k1,k2,k3,k4⟩:=m5 (B y Z);have N:=g _ _ (j.mR tb k1);have O:=g _ _ (j.mR tb k2);refine⟨b,_,rfl,SqT.of N,rfl,_,_,rfl,_,_,rfl,rfl,?_⟩;ext;refine⟨c,_,rfl,.inr (SqT.of O),fun l1 Y=>⟨l1,_,rfl,.inl ⟨SqL.of au,fun r hr=>⟨aL (by simp :_<=2) (by decide),fun a3 hp=>a2 _ _ _ ⟨_,_,rfl⟩ ((aB Y).trans ((aB hr).trans (aB hp))) ?_⟩⟩⟩⟩;rw[getD_some I];exact⟨a3,r,rfl,au,by rw[ba (bL au hp)];exact au⟩
 ·intro vs f l2 a1 U g F;have z:Gr T H f:=j.trans (Gr.of g);have h:aQ f (upd f l2 (.lst vs)):=aB F;refine o _ l2 vs (z.trans (Gr.of h)) (z.free tb F) au ⟨a1,fun i a5 hz=>?_⟩;obtain⟨b,r,p,q,s⟩:=U i a5 hz;exact⟨b,r,p,h _ _ q,h _ _ s⟩
end Cp
namespace K22
open PySem R
abbrev p_clash:List Str:=["table"]
abbrev Gy:List Str:=["table","copies","count","one","other","names"]
abbrev zQ:CB:=
  (.cons (.ret (.con .none))
  .nil)
abbrev zR:CB:=
  (.cons (.forr (.name 3) (.range1 (.var 2))
  (.cons (.forr (.name 4) (.range2 (.bin .Add (.var 3) (.con (.int 1))) (.var 2))
  (.cons (.asg (.name 5) (.call "first_of_kinds" (.cons (.var 1) (.cons (.var 3) (.cons (.var 4) .nil)))))
  (.cons (.iff (.cmp .IsNot (.var 5) (.con .none))
  (.cons (.ret (.tup (.cons (.var 3) (.cons (.var 4) (.cons (.var 5) .nil)))))
  .nil)
  .nil)
  .nil)))
  .nil))
  zQ)
abbrev zS:CB:=
  (.cons (.asg (.name 2) (.call "place_count" (.cons (.var 1) .nil)))
  zR)
abbrev Hf:CB:=
  (.cons (.asg (.name 1) (.call "table_list" (.cons (.var 0) .nil)))
  zS)
end K22
namespace K22
open PySem PySem.Spec PyProof.Rows L2 R Cp Lt Kc K21 Lm
abbrev cd(H:Hp)(y:V):Str×List V:=(a6 H y,tP H y)
abbrev Im(i:Int)(p:Str×List V):Int:=match p.2.getD i.toNat .non with
 |.int n=>n
 |_=>0
abbrev isK(i j:Int)(k:Int×Int)(p:Str×List V):Bool:=decide (Im i p=k.1/\Im j p=k.2)
abbrev sv(rows:List (Str×List V))(i j:Int):Bool:=KP.all fun k=>rows.any (isK i j k)
abbrev Gu(rows:List (Str×List V))(i j:Int)(k:Int×Int):Str:=((rows.find? (isK i j k)).map (·.1)).getD ""
def GQ{i j:Int}:lD H xs i j=sv (xs.map (cd H)) i j:=by unfold lD sv;congr 1;funext k;rw[v9];rfl
def Ln{i j:Int}(h:lD H xs i j=true):KP.map (firstOf H xs i j)=(KP.map (Gu (xs.map (cd H)) i j)).map V.str:=by
 rw[bp];refine cG fun k d=>?_;have c:xs.any (fun y=>decide (num H i y=k.1/\num H j y=k.2))=true:=by unfold lD at h;exact bg.mp h k d
 have b:(fun y=>decide (kf H i j y=qU k))=(isK i j k)∘(cd H):=by
  funext y
  exact decide_eq_decide.mpr kf_eq
 show firstOf H xs i j k=V.str (Gu (xs.map (cd H)) i j k);unfold firstOf Gu;rw[b,List.find?_map];obtain⟨f,e,a⟩:=b8.mp c;cases hf:xs.find? ((isK i j k)∘(cd H))with
 |none=>rw[vd]at hf;exact absurd a (hf f e)
 |some y=>rfl
structure First(rows:List (Str×List V))(n i j:Nat):Prop where
 ij:i<j
 jn:j<n
 four:sv rows i j=true
 no:∀a b:Nat,a<b->b<n->(a<i\/a=i/\b<j)->sv rows a b=false
def NoC(rows:List (Str×List V))(n:Nat):Prop:=∀a b:Nat,a<b->b<n->sv rows a b=false
def Res(H:Hp)(rows:List (Str×List V))(n:Nat)(v:V):Prop:=(v=.non/\NoC rows n)\/∃(i j:Nat)(a l:Addr),v=.ref a/\First rows n i j/\H a=some (.tup [.int i,.int j,.ref l])/\H l=some (.tup ((KP.map (Gu rows i j)).map V.str))
abbrev rowsOf(H:Hp)(x:V):List (Str×List V):=(srt H x).map (cd H)
def EA{r:Addr}(a:H b=some (.tup [.str z,.ref r]))(e:H r=some (.tup zs)):cd H (.ref b)=(z,zs):=by
 have c:a6 H (.ref b)=z:=by show(match dS (H b)with |some (.str z::_)=>z|_=>("":Str))=_;rw[a];rfl
 have d:tP H (.ref b)=zs:=by show(match dS (H b)with |some [_,.ref b]=>(dS (H b)).getD [] |_=>[])=zs;rw[a];show(dS (H r)).getD []=zs;rw[e];rfl
 unfold cd;rw[c,d]
def vE{t:Addr}(h:eO (H t)=some ys):srt H (.ref t)=_root_.Q.sortBy .non (ys.map (a6 H)) ys:=by show(match eO (H t)with |some ys=>_root_.Q.sortBy V.non (ys.map (a6 H)) ys|none=>[])=_;rw[h]
def Iu{x:V}(h:dB H x=true):iB (a6 H x)=true:=by obtain⟨_,_,_,_,_,_,_,a,_,_,b,_⟩:=iD h;rw[b];exact a
def xQ{x:V}(e:dW H x=true)(h:H' l=some (.lst zs))(c:Copied H H' (srt H x) zs):
  Kn4 H' (.ref l)/\dW H' (.ref l)=true/\count H' (.ref l)=count H x/\zs.map (cd H')=rowsOf H x:=by
 obtain⟨a,n,rfl,s,T,E,F,G⟩:=eV e;have Q:=vE s;have d:(srt H (.ref a)).Perm n:=by rw[Q];exact _root_.Q.gE V.non F (by simp)
 unfold rowsOf;generalize srt H (.ref a)=us at c d⊢;have Z:us.length<=40:=by rw[d.length_eq];exact T
 have K:∀u∈us,dB H u=true/\cF H u=count H (.ref a):=fun u I=>⟨E u (d.mem_iff.mp I),G u (d.mem_iff.mp I)⟩;have nd:(us.map (a6 H)).Nodup:=(d.map (a6 H)).nodup_iff.mpr F;have get:∀{i:Nat}{z:V},zs[i]? =some z->us[i]? =some (us.getD i .non)/\us.getD i .non∈us:=fun{i z} f=>by
  have hi:i<us.length:=by have :=(aC.mp f).1;rw[<-c.1];exact this
  have e:us[i]? =some (us.getD i .non):=by rw[aa,ae hi];rfl
  exact⟨e,aG e⟩
 let nf:Nat->Str:=fun i=>if i<us.length then a6 H (us.getD i .non)else "a"
 have J:∀i,iB (nf i)=true:=fun i=>by
  show iB (if i<us.length then a6 H (us.getD i .non)else "a")=true;split
  ·rename_i hi;have e:us[i]? =some (us.getD i .non):=by rw[aa,ae hi];rfl
   exact Iu (K _ (aG e)).1
  ·decide+kernel
 have dr:Dr H' nf (count H (.ref a)) zs:=fun i z f=>by obtain⟨b,r,X,t,v⟩:=c.2 i z f;obtain⟨R,S⟩:=get f;have hi:i<us.length:=(aC.mp R).1;obtain⟨N,O⟩:=K _ S;obtain⟨_,_,_,_,_,k3,k4⟩:=m5 N;refine⟨b,r,_,X,?_,v,by rw[k3,O],k4⟩;show H' b=some (.tup [.str (if i<us.length then a6 H (us.getD i .non)else "a"),.ref r]);rw[if_pos hi];exact t
 have hn60:n=[]\/count H (.ref a)<=60:=by
  cases n with
  |nil=>exact .inl rfl
  |cons y r=>
   right
   rw[<-G y (.head _)];obtain⟨_,_,_,_,_,_,_,_,U,_,_,W⟩:=iD (E y (.head _));rw[W];exact U
 have Y:∀i j,i<zs.length->j<zs.length->nf i=nf j->i=j:=fun i j hi w e=>by
  rw[c.1]at hi w;have o:(if i<us.length then a6 H (us.getD i .non)else "a")=(if j<us.length then a6 H (us.getD j .non)else "a"):=e;rw[if_pos hi,if_pos w]at o;have g:∀k (A:k<us.length),(us.map (a6 H))[k]'(by simpa using A)=a6 H (us.getD k .non):=fun k A=>by rw[bD,aa,ae A];rfl
  rw[<-g i hi,<-g j w]at o;exact(eQ nd).mp o
 have L:zs=[]↔us=[]:=by rw[<-aY,c.1,aY]
 have M:zs.map (cd H')=us.map (cd H):=by
  apply gT
  intro i;rw[av,av];cases f:zs[i]? with
  |none=>
   have :us.length<=i:=by have :=DV.mp f;rw[c.1]at this;exact this
   rw[bT this];rfl
  |some z=>obtain⟨b,r,rfl,t,v⟩:=c.2 i z f;rw[(get f).1];show some (cd H' (.ref b))=some (cd H (us.getD i .non));rw[EA t v];rfl
 rcases hn60 with m|hn60
 ·have B:us=[]:=by rw[m]at d;exact List.perm_nil.mp d
  have a0:=L.mpr B;subst a0;have P:Dr H' nf 0 []:=fun i y e=>by simp at e
  obtain⟨C,D,_,_⟩:=xO J (fun i j hi=>absurd hi (by simp)) h P (by simp) (by decide);refine⟨C,D,?_,M⟩;have p:count H' (.ref l)=0:=by show(match eO (H' l)with |some (y::_)=>cF H' y|_=>0)=0;rw[h];rfl
  have q:count H (.ref a)=0:=by show(match eO (H a)with |some (y::_)=>cF H y|_=>0)=0;rw[s,m]
  rw[p,q]
 ·obtain⟨C,D,_,t4⟩:=xO J Y h dr (by rw[c.1];exact Z) hn60;refine⟨C,D,?_,M⟩;cases zs with
  |nil=>
   have B:=L.mp rfl;have m:n=[]:=by rw[B]at d;exact List.nil_perm.mp d
   have p:count H' (.ref l)=0:=by show(match eO (H' l)with |some (y::_)=>cF H' y|_=>0)=0;rw[h];rfl
   have q:count H (.ref a)=0:=by show(match eO (H a)with |some (y::_)=>cF H y|_=>0)=0;rw[s,m]
   rw[p,q]
  |cons z r=>show(match eO (H' l)with |some (y::_)=>cF H' y|_=>0)=_;rw[h];exact t4 z (.head _)
def An(C:Addr)(T:Tb):Sp:=fun vs H Q E=>∃x,vs=[x]/\Kn4 H x/\Tab T H/\(dW H x=true->∀H' v,Gr T H H'->Res H' (rowsOf H x) (count H x) v->Q v H')/\(dW H x=false->False)
def JN{T:Tb}(g1:G.fn "table_list" 1=some (Aj C T,[]))(g2:G.fn "place_count" 1=some (vF C,[]))(g3:G.fn "first_of_kinds" 3=some (Am,[])):
  Sat G K (An C T) Hf Gy:=by
 rintro vs H a9 a8 ⟨x,rfl,hk,tb,q1,q2⟩;unfold Hf zS;change wpB G K _ _ _ [some x,none,none,none,none,none] H;ext;refine⟨_,_,g1,x,rfl,hk,tb,fun e d l O gr hl E a0=>?_,q2⟩;obtain⟨kn,N,D,A⟩:=xQ e E a0;have t:=q1 e;generalize rowsOf H x=rw0 at A t;generalize hn:count H x=n at D t;refine⟨_,_,g2,.ref l,rfl,kn,fun _ H2 s2=>?_,fun z=>by rw[N]at z;cases z⟩;rw[D];have U:eO (d l)=some O:=by rw[E];rfl
 have W:∀z:Nat,z<n->isPlace d (.ref l) (.int z)=true:=fun z hz=>decide_eq_true ⟨by lia,by lia⟩;have b0:n<=60:=by
  obtain⟨Q,b1,ea,S,f2,f3,f4,f5⟩:=eV N;cases ea;rw[U]at S;cases S;rw[<-D];cases O with
  |nil=>show(match eO (d l)with |some (y::_)=>cF d y|_=>0)<=60;rw[E];exact aV _
  |cons y r=>rw[<-f5 y (.head _)];obtain⟨_,_,_,_,_,_,_,_,a2,_,_,h8⟩:=iD (f3 y (.head _));rw[h8];exact a2
 unfold zR;ext;refine gH ?_;ext;refine⟨(n:Int),rfl,by lia,by lia,?_⟩;refine fN dD (fun i h B=>aQ d B/\(∀a b:Nat,a<i->a<b->b<n->sv rw0 a b=false)/\∃u v w,h=[some x,some (.ref l),some (.int n),u,v,w])
  ⟨s2,fun a b a1=>absurd a1 (by lia),none,none,none,rfl⟩ (fun _ _ _ _ _=>trivial) ?_ ?_
 ·rintro i y h P H4 D2 hi ⟨I,s,u,v,w,rfl⟩ rfl s4 a3 a6;have a5:i<n:=by lia
  ext;simp only[fB];refine gH ?_;ext;refine⟨_,_,rfl,⟨by lia,by lia,by lia,by lia⟩,?_⟩;refine fN dD (fun m h B=>aQ d B/\(∀b:Nat,i<b->b<i+1+m->sv rw0 i b=false)/\∃v w,h=[some x,some (.ref l),some (.int n),some (.int i),v,w])
   ⟨I.trans s4,fun b g c=>absurd c (by lia),_,_,rfl⟩ (fun _ _ _ _ _=>trivial) ?_ ?_
  ·rintro m y h X Y D3 hm ⟨J,o,v,w,rfl⟩ rfl s6 a4 a7;have F:i+1+m<n:=by lia
   have ej:(i:Int)+1+(m:Int)=((i+1+m:Nat):Int):=by lia
   ext;rw[ej];generalize hjj:i+1+m=j at F o⊢;have L:aQ d Y:=J.trans s6;refine⟨_,_,g3,l,O,i,j,d,rfl,L,N,U,W i a5,W j F,fun f Z M=>?_,fun f Z p M hp ep=>?_⟩
   ·show if(!decide (V.non=V.non))=true then _ else _
    rw[if_neg (by simp)];refine a4 _ _ ⟨L.trans M,fun b g c=>?_,_,_,rfl⟩;by_cases hb:b=j;·rw[hb,<-A,<-GQ];exact f
    ·exact o b g (by lia)
   ·show if(!decide (V.ref p=V.non))=true then _ else _
    rw[if_pos (by simp)];refine⟨short (by simp),fun a q=>?_⟩;rw[a7,a6];refine t _ _ (gr.trans (Gr.of (L.trans (M.trans (aB q))))) (.inr ⟨i,j,a,p,rfl,⟨by lia,F,by rw[<-A,<-GQ];exact f,fun Q R g c k=>?_⟩,au,?_⟩)
    ·rcases k with k|⟨rfl,k⟩;·exact s Q R k g c
     ·exact o R g (by lia)
    ·rw[aB q _ _ ep,Ln f,A]
  ·rintro h X ⟨J,o,v,w,rfl⟩;refine a3 _ _ ⟨J,fun a b g c k=>?_,_,_,_,rfl⟩;by_cases q:a=i;·subst q;exact o b c (by lia)
   ·exact s a b (by lia) c k
 ·rintro h P ⟨I,s,u,v,w,rfl⟩;unfold zQ;ext;exact t P .non (gr.trans (Gr.of I)) (.inl ⟨rfl,fun a b g c=>s a b (by simp;lia) g c⟩)
theorem xp{d g:Type}{f:d->g}{ys:List d}(hf:∀a∈ys,∀b∈ys,f a=f b->a=b):∀{l m:List d},(∀a∈l,a∈ys)->(∀a∈m,a∈ys)->l.map f=m.map f->l=m
 | [],[],_,_,_=>rfl
 | [],_::_,_,_,e=>by simp at e
 |_::_,[],_,_,e=>by simp at e
 |a::l,b::m,h1,h2,e=>by
  rw[b7,b7]at e;injection e with e1 e2
  rw[hf a (h1 a (.head _)) b (h2 b (.head _)) e1,xp hf (fun x c=>h1 x (.tail _ c)) (fun x c=>h2 x (.tail _ c)) e2]
def Ip{c l:Type}{f:c->l}{ys:List c}(nd:(ys.map f).Nodup):∀a∈ys,∀b∈ys,f a=f b->a=b:=fun a g b h e=>by
 obtain⟨i,hi,rfl⟩:=cL.mp g;obtain⟨j,k,rfl⟩:=cL.mp h;have d:(ys.map f)[i]'(by simpa using hi)=(ys.map f)[j]'(by simpa using k):=by rw[bD,bD];exact e
 have :=(eQ nd).mp d;subst this;rfl
end K22
namespace Q
open PySem PySem.Spec PySem.W PyProof.Rows L2
theorem zm(nd:ns.Nodup):(EL ns).Perm (aH ns.length):=by
 unfold EL;split;·exact d7 _
 ·have P:=(fk (totI nd) (by lia)).1;have :=eU.mp P.perm;simpa using this
end Q
namespace M3
open PySem
def and_nat(m n:Nat):i9 (m:Int) (n:Int)=((m&&& n:Nat):Int):=by unfold i9;simp
def xor_bit{a b:Int}(c:a=0\/a=1)(d:b=0\/b=1):k6 a b=if a=b then 0 else 1:=by rcases c with rfl|rfl<;>rcases d with rfl|rfl<;>decide
abbrev num:List Bool->Nat->Nat
 | [],n=>n
 |b::bs,n=>num bs (n*2+b.toNat)
theorem wZ:∀(bs:List Bool)(b:Bool)(n:Nat),num (bs++[b]) n=num bs n*2+b.toNat
 | [],_,_=>rfl
 |c::bs,b,n=>wZ bs b _
theorem Gn:∀(bs:List Bool)(i:Nat),(num bs.reverse 0).testBit i=(bs[i]?).getD false
 | [],i=>by simp[num]
 |b::bs,i=>by
  rw[vZ,wZ];cases i with
  |zero=>rw[Nat.testBit_zero];cases b<;>simp <;>lia
  |succ i=>
   rw[Nat.testBit_succ];have e:(num bs.reverse 0*2+b.toNat)/2=num bs.reverse 0:=by
    have a:b.toNat<=1:=by cases b<;>decide
    lia
   rw[e,Gn bs i];simp
def and_sub:m&&& n=n↔∀i,n.testBit i=true->m.testBit i=true:=by
 constructor;·intro h i hi;rw[<-h,Nat.testBit_and]at hi;exact(aF _ _▸hi).1
 ·intro h;apply tm
  intro i;rw[Nat.testBit_and];cases hn:n.testBit i with
  |true=>rw[h i hn];rfl
  |false=>simp
end M3
namespace M4
open Q
abbrev bl(f:Nat->Int)(n:Nat)(P:Nat->Bool):List Int:=(aH n).map fun p=>if P p=true then 1-f p else f p
def iF(f:Nat->Int)(n:Nat)(P:Nat->Bool):(bl f n P).length=n:=by simp[bl]
def ip{f:Nat->Int}{P Q:Nat->Bool}(h:bl f n P=bl f n Q)(hf:∀p,p<n->f p=0\/f p=1)(hp:p<n):P p=Q p:=by
 have e:(bl f n P)[p]? =(bl f n Q)[p]? :=by rw[h]
 simp[bl,hp]at e;rcases hf p hp with z|z<;>cases hP:P p<;>cases hQ:Q p<;>simp[hP,hQ,z]at e⊢
abbrev sub(grp:Nat->Nat)(g p:Nat):Bool:=decide (grp p&&& g=g)
abbrev above(grp:Nat->Nat)(g p:Nat):Bool:=decide (grp p&&& g=g/\grp p≠g)
variable {f:Nat->Int}{grp:Nat->Nat}(hf:∀p,p<n->f p=0\/f p=1)
include hf
theorem DI(hp:p<n):bl f n (sub grp (grp p))≠bl f n fun _=>false:=fun h=>by have :=ip h hf hp;simp[sub]at this
theorem DH(hp:p<n)(hq:q<n)(c:grp p≠grp q):bl f n (sub grp (grp p))≠bl f n (sub grp (grp q)):=fun h=>by have a:=ip h hf hp;have b:=ip h hf hq;simp[sub]at a b;exact c (by rw[<-b,Nat.and_comm,a])
theorem MG(hp:p<n)(hq:q<n)(c:bl f n (sub grp (grp p))=bl f n (above grp (grp q)))(d:bl f n (sub grp (grp q))=bl f n (above grp (grp p))):False:=by have a:=ip c hf hp;have b:=ip d hf hq;simp[sub,above]at a b;exact a.2 (by rw[<-b.1,Nat.and_comm,a.1])
theorem FZ(hp:p<n):bl f n (above grp (grp p))≠bl f n (sub grp (grp p)):=fun h=>by have :=ip h hf hp;simp[sub,above]at this
abbrev lo(a b:List Int):List Int:=if llt b a=true then b else a
abbrev hi(a b:List Int):List Int:=if llt a b=true then b else a
omit hf in
theorem lohi{a b c d:List Int}(e:lo a b=lo c d)(f:hi a b=hi c d)(g:a≠b)(h:c≠d):(a=c/\b=d)\/(a=d/\b=c):=by
 have i:=jk (bI g);have j:=jk (bI h);unfold lo at e;unfold hi at f;rw[i,j]at e;cases x:llt a b<;>cases y:llt c d<;>rw[x,y]at e f<;>simp only[Bool.not_false,gM,if_true,aZ,if_false]at e f
 ·exact .inl ⟨f,e⟩
 ·exact .inr ⟨f,e⟩
 ·exact .inr ⟨e,f⟩
 ·exact .inl ⟨e,f⟩
theorem zT(hp:p<n)(hq:q<n)(c:grp p≠grp q):
  lo (bl f n (above grp (grp p))) (bl f n (sub grp (grp p)))++hi (bl f n (above grp (grp p))) (bl f n (sub grp (grp p)))≠
  lo (bl f n (above grp (grp q))) (bl f n (sub grp (grp q)))++hi (bl f n (above grp (grp q))) (bl f n (sub grp (grp q))):=fun h=>by
 have len:∀P Q:Nat->Bool,(lo (bl f n P) (bl f n Q)).length=n:=fun P Q=>by unfold lo;split <;>exact iF _ _ _
 obtain⟨a,b⟩:=List.append_inj h ((len _ _).trans (len _ _).symm);rcases lohi a b (FZ hf hp) (FZ hf hq)with⟨_,z⟩ |⟨d,e⟩;·exact DH hf hp hq c z
 ·exact MG hf hp hq e d.symm
end M4
namespace Q
open L2
def HK(nd:ns.Nodup):∃qs:List Int,sortI ns=qs.map V.int/\qs.Perm ns:=by
 refine⟨(EL ns).map fun i=>ns.getD i 0,?_,?_⟩;·unfold sortI;rw[bp];refine cG fun i hi=>?_;have a:i<ns.length:=aW.mp ((zm nd).mem_iff.mp hi);show(ns.map V.int).getD i .non=V.int (ns.getD i 0);rw[aa,aa,av,ae a];rfl
 ·have h:=(zm nd).map fun i=>ns.getD i 0;rw[range_getD]at h;exact h
end Q
namespace M5
open M3 M4 Q L2
abbrev plc(n:Nat)(P:Nat->Bool):List Int:=((aH n).filter P).map fun p:Nat=>(p:Int)
def la{P:Nat->Bool}(h:i<n):(i:Int)∈plc n P↔P i=true:=by
 unfold plc;rw[az];constructor
 ·rintro⟨p,hp,e⟩;have :p=i:=by lia
  rw[<-this];exact(bw.mp hp).2
 ·intro e;exact⟨i,bw.mpr ⟨aW.mpr h,e⟩,rfl⟩
abbrev trn(zs:List Int)(a:List Int):List Int:=(aH zs.length).map fun i:Nat=>if(i:Int)∈a then 1-zs.getD i 0 else zs.getD i 0
def HC{zs:List Int}{P:Nat->Bool}:trn zs (plc zs.length P)=bl (fun p=>zs.getD p 0) zs.length P:=by
 unfold trn bl;refine cG fun i hi=>?_;have hi:=aW.mp hi;by_cases h:P i=true;·rw[if_pos ((la hi).mpr h),if_pos h]
 ·rw[if_neg (fun z=>h ((la hi).mp z)),if_neg h]
def Hh{f:Nat->Int}{P:Nat->Bool}(h:i<n):(bl f n P).getD i 0=if P i=true then 1-f i else f i:=by unfold bl;rw[aa,av,bN h];rfl
def trn_bl{f:Nat->Int}{S E:Nat->Bool}(h:∀p,E p=true->S p=true):trn (bl f n S) (plc n E)=bl f n fun p=>S p&& !E p:=by
 unfold trn;rw[iF];refine cG fun i hi=>?_;have hi:=aW.mp hi;rw[Hh hi];show _=if(S i&& !E i)=true then 1-f i else f i
 cases hE:E i with
 |true=>
  rw[if_pos ((la hi).mpr hE),h i hE,if_pos rfl];show 1-(1-f i)=if(true&& !true)=true then _ else f i
  rw[if_neg (by simp)];lia
 |false=>rw[if_neg (fun z=>by rw[(la hi).mp z]at hE;cases hE)];cases S i<;>rfl
def Mn(zs:List Int):bl (fun p=>zs.getD p 0) zs.length (fun _=>false)=zs:=by
 unfold bl;apply bR;·simp
 ·intro i b a;simp[a]
abbrev own(grp:Nat->Nat)(g p:Nat):Bool:=decide (grp p=g)
def own_sub{grp:Nat->Nat}{g:Nat}(h:own grp g p=true):sub grp g p=true:=by have :grp p=g:=of_decide_eq_true h;refine decide_eq_true ?_;rw[this];exact JB g
def MT(grp:Nat->Nat)(g:Nat):(fun p=>sub grp g p&& !own grp g p)=above grp g:=by
 funext p
 unfold sub own above;by_cases h1:grp p&&& g=g<;>by_cases h2:grp p=g<;>simp[h1,h2]
abbrev nB(f:Nat->Int)(n:Nat)(grp:Nat->Nat)(q:Int):List Int:=bl f n (sub grp q.toNat)
abbrev nA(f:Nat->Int)(n:Nat)(grp:Nat->Nat)(q:Int):List Int:=bl f n (above grp q.toNat)
abbrev fJ(f:Nat->Int)(n:Nat)(grp:Nat->Nat)(qs:List Int):List (List Int):=bl f n (fun _=>false)::qs.map (nB f n grp)
abbrev brK(f:Nat->Int)(n:Nat)(grp:Nat->Nat)(qs:List Int):List (List Int×List Int):=qs.map fun q=>(lo (nA f n grp q) (nB f n grp q),hi (nA f n grp q) (nB f n grp q))
def Grs(n:Nat)(grp:Nat->Nat)(qs:List Int):Prop:=qs.Nodup/\∀q∈qs,∃p,p<n/\q=(grp p:Int)
section
variable {f:Nat->Int}{grp:Nat->Nat}(hf:∀p,p<n->f p=0\/f p=1)(hq:Grs n grp qs)
include hf hq
theorem Ly{j:Type}{F:Int->j}(h:∀p q,p<n->q<n->grp p≠grp q->F (grp p:Int)≠F (grp q:Int)):(qs.map F).Nodup:=by refine de.mpr ?_;have p:List.Pairwise (fun a b=>a≠b) qs:=hq.1;refine(mM.mp p).imp ?_;rintro a b ⟨c,d,f⟩;obtain⟨x,g,rfl⟩:=hq.2 a c;obtain⟨y,i,rfl⟩:=hq.2 b d;exact h x y g i (fun e=>f (by rw[e]))
theorem w8:(fJ f n grp qs).Nodup:=by
 unfold fJ;refine bW.mpr ⟨fun z=>?_,Ly hf hq fun p q hp a b=>?_⟩;·obtain⟨q,a,e⟩:=az.mp z;obtain⟨p,hp,rfl⟩:=hq.2 q a;exact DI hf hp (by unfold nB at e;rw[aN]at e;exact e)
 ·unfold nB;rw[aN,aN];exact DH hf hp a b
theorem Fs:((brK f n grp qs).map kQ).Nodup:=by unfold brK;rw[bp];refine Ly hf hq fun p q hp b a=>?_;show lo (nA f n grp (grp p:Int)) (nB f n grp (grp p:Int))++hi (nA f n grp (grp p:Int)) (nB f n grp (grp p:Int))≠lo (nA f n grp (grp q:Int)) (nB f n grp (grp q:Int))++hi (nA f n grp (grp q:Int)) (nB f n grp (grp q:Int));unfold nA nB;rw[aN,aN];exact zT hf hp b a
end
def Iq{f:Nat->Int}{grp:Nat->Nat}:∀k∈fJ f n grp qs,k.length=n:=fun k hk=>by
 rcases aI.mp hk with rfl|hk;·exact iF _ _ _
 ·obtain⟨q,_,rfl⟩:=az.mp hk;exact iF _ _ _
def lo_len{a b:List Int}(c:a.length=n)(d:b.length=n):(lo a b).length=n:=by unfold lo;split <;>assumption
def hi_len{a b:List Int}(c:a.length=n)(d:b.length=n):(hi a b).length=n:=by unfold hi;split <;>assumption
def brK_len{f:Nat->Int}{grp:Nat->Nat}:∀k∈brK f n grp qs,k.1.length=n/\k.2.length=n:=fun k a=>by obtain⟨q,_,rfl⟩:=az.mp a;exact⟨lo_len (iF _ _ _) (iF _ _ _),hi_len (iF _ _ _) (iF _ _ _)⟩
def vR{grp:Nat->Nat}(h:Grs n grp qs):qs.length<=n:=by
 have e:qs.length<=((aH n).map fun p:Nat=>(grp p:Int)).length:=by refine List.Nodup.length_le_of_subset h.1 fun q hq=>?_;obtain⟨p,hp,rfl⟩:=h.2 q hq;exact az.mpr ⟨p,aW.mpr hp,rfl⟩
 simpa using e
end M5
namespace K32
open PySem R
abbrev EK:List Str:=["copies","place"]
abbrev xo:List Str:=["copies","place","first","group","name","readings"]
abbrev sU:CB:=
  (.cons (.ret (.var 3))
  .nil)
abbrev sV:CB:=
  (.cons (.forr (.tup (.cons (.name 4) (.cons (.name 5) .nil))) (.seq (.var 0))
  (.cons (.asg (.name 3) (.bin .Add (.bin .Mult (.var 3) (.con (.int 2))) (.bin .BitXor (.idx (.var 5) (.var 1)) (.var 2))))
  .nil))
  sU)
abbrev sW:CB:=
  (.cons (.asg (.name 3) (.con (.int 0)))
  sV)
abbrev yc:CB:=
  (.cons (.asg (.name 2) (.idx (.idx (.idx (.var 0) (.con (.int 0))) (.con (.int 1))) (.var 1)))
  sW)
abbrev Lc:List Str:=["readings","places"]
abbrev CJ:List Str:=["readings","places"]
abbrev DA:CB:=
  (.cons (.ret (.bfn .tuple (.cons (.comp ["place","reading"] [1] (.tup (.cons (.name 0) (.cons (.name 1) .nil))) (.enumt (.var 0)) .no (.ite (.cmp .In (.var 0) (.var 2)) (.bin .Sub (.con (.int 1)) (.var 1)) (.var 1))) .nil)))
  .nil)
abbrev p_grown:List Str:=["copies"]
abbrev Gw:List Str:=["copies","first","groups","nodes","branches","group","places","around","below","above"]
abbrev zL:CB:=
  (.cons (.ret (.tup (.cons (.bfn .sortl (.cons (.var 3) .nil)) (.cons (.bfn .sortt (.cons (.var 4) .nil)) .nil))))
  .nil)
abbrev o5:CB:=
  (.cons (.expr (.meth1 .append (.var 4) (.tup (.cons (.bfn .minl (.cons (.var 9) (.cons (.var 8) .nil))) (.cons (.bfn .maxl (.cons (.var 9) (.cons (.var 8) .nil))) (.cons (.bfn .tuple (.cons (.var 6) .nil)) .nil))))))
  .nil)
abbrev o6:CB:=
  (.cons (.expr (.meth1 .append (.var 3) (.var 8)))
  o5)
abbrev u6:CB:=
  (.cons (.asg (.name 9) (.call "turned" (.cons (.var 8) (.cons (.var 6) .nil))))
  o6)
abbrev o7:CB:=
  (.cons (.asg (.name 8) (.call "turned" (.cons (.var 1) (.cons (.var 7) .nil))))
  u6)
abbrev u7:CB:=
  (.cons (.asgc 7 (.comp ["place"] [5,2] (.name 0) (.range1 (.bfn .len (.cons (.var 1) .nil))) (.yes (.cmp .Eq (.bin .BitAnd (.idx (.var 2) (.var 0)) (.var 1)) (.var 1))) (.var 0)))
  o7)
abbrev o8:CB:=
  (.cons (.asgc 6 (.comp ["place"] [5,2] (.name 0) (.range1 (.bfn .len (.cons (.var 1) .nil))) (.yes (.cmp .Eq (.idx (.var 2) (.var 0)) (.var 1))) (.var 0)))
  u7)
abbrev zM:CB:=
  (.cons (.forr (.name 5) (.lseq (.sortset (.var 2)))
  (.cons (.iff (.cmp .Eq (.var 5) (.con (.int 0)))
  (.cons (.cont)
  .nil)
  .nil)
  o8))
  zL)
abbrev zN:CB:=
  (.cons (.asg (.name 4) (.lst .nil))
  zM)
abbrev zO:CB:=
  (.cons (.asg (.name 3) (.lst (.cons (.var 1) .nil)))
  zN)
abbrev zP:CB:=
  (.cons (.asgc 2 (.comp ["place"] [0] (.name 0) (.range1 (.bfn .len (.cons (.var 1) .nil))) .no (.call "group_at" (.cons (.var 1) (.cons (.var 0) .nil)))))
  zO)
abbrev He:CB:=
  (.cons (.asg (.name 1) (.idx (.idx (.var 0) (.con (.int 0))) (.con (.int 1))))
  zP)
end K32
namespace K32
open PySem PySem.Spec PyProof.Rows L2 R Cp Lt Kc K21 K22 Lm M3 M4 M5
def dA(h:n<=63):n<=sizeLine:=aL h (by decide)
def xq(h:n<=63):n<sizeLine:=vz h (by decide)
def xor_ii{i j:Int}{Q:VK}:rS K .BitXor (.int i) (.int j) H Q↔Q (.int (k6 i j)) H:=by show rI0 _ _ _ _ _↔_;simp[rI0]
def and_ii{i j:Int}{Q:VK}:rS K .BitAnd (.int i) (.int j) H Q↔Q (.int (i9 i j)) H:=by show rI0 _ _ _ _ _↔_;simp[rI0]
def A8(a:Int)(l:List Int):inV (V.int a) (l.map V.int)=decide (a∈l):=by
 unfold inV;rw[v9,cw,b8,decide_eq_true_eq];constructor;·rintro⟨x,b,e⟩;have :x=a:=beq_iff_eq.mp e;rw[<-this];exact b
 ·intro h;exact⟨a,h,beq_self_eq_true a⟩
def tZ(b:List Int):(b.map V.int).all qk=true:=by rw[bg];intro v a;obtain⟨m,_,rfl⟩:=az.mp a;rfl
def zf:um (Itet K a) xs.length (fun i x H=>∃p v,x=.ref p/\H p=some (.tup [.int i,v])/\xs[i]? =some v) (fun H=>SqT K H a xs):=Ca
def iv{zs:List Int}(h:i<zs.length):(zs.map V.int)[i]? =some (.int (zs.getD i 0)):=by rw[av,ae h,aa,ae h];rfl
structure Cps(H:Hp)(c:Addr)(ys:List V)(n:Nat)(rows:List (List Int)):Prop where
 ec:H c=some (.lst ys)
 len:ys.length<=40
 rl:rows.length=ys.length
 n60:n<=60
 at_:∀(i:Nat) y,ys[i]? =some y->∃b z r,y=.ref b/\H b=some (.tup [.str z,.ref r])/\H r=some (.tup ((rows.getD i []).map V.int))
 rd:∀zs∈rows,zs.length=n/\∀x∈zs,x=0\/x=1
def Cps.same(d:Cps H c ys n rows)(s:aQ H H'):Cps H' c ys n rows:=
 {d with ec:=s _ _ d.ec,at_:=fun i y e=>let⟨b,z,r,h1,h2,h3⟩:=d.at_ i y e;⟨b,z,r,h1,s _ _ h2,s _ _ h3⟩}
def Cps.row(d:Cps H c ys n rows)(hi:i<ys.length):(rows.getD i []).length=n/\∀p,p<n->(rows.getD i []).getD p 0=0\/(rows.getD i []).getD p 0=1:=by
 have a:i<rows.length:=by rw[d.rl];exact hi
 have e:rows.getD i []=rows[i]:=by rw[aa,ae a];rfl
 obtain⟨b,f⟩:=d.rd rows[i] (a9 a);rw[e];refine⟨b,fun p hp=>f _ ?_⟩;rw[aa,ae (by lia)];exact a9 _
abbrev fr(rows:List (List Int))(p:Nat):Int:=(rows.getD 0 []).getD p 0
abbrev bt(rows:List (List Int))(p:Nat)(r:List Int):Bool:= !decide (r.getD p 0=fr rows p)
abbrev grp(rows:List (List Int))(p:Nat):Nat:=M3.num (rows.map (bt rows p)) 0
def Al:Sp:=fun vs H Q _=>∃(c:Addr)(p:Nat)(ys:List V)(n:Nat)(rows:List (List Int)),vs=[.ref c,.int p]/\Cps H c ys n rows/\ys≠[]/\p<n/\∀H',aQ H H'->Q (.int (grp rows p)) H'
def JL:Sat G K Al yc xo:=by
 rintro Z H Q E ⟨c,p,e,n,a,rfl,d,O,hp,q⟩;unfold yc;change wpB G K _ _ _ [some (.ref c),some (.int p),none,none,none,none] H;ext;have g:0<e.length:=fR.mpr O;obtain⟨b,z,r,x,A,B⟩:=d.at_ 0 e[0] (ae g);obtain⟨X,S⟩:=d.row g;have L:e[0]? =some (.ref b):=by rw[ae g,x]
 refine .inl ⟨c,e,0,_,rfl,rfl,SqL.of d.ec,cf (j:=0) L,?_⟩;refine .inr (.inl ⟨b,_,1,_,rfl,rfl,SqT.of A,rfl,?_⟩);refine .inr (.inl ⟨r,_,p,_,rfl,rfl,SqT.of B,cf (iv (by lia)),?_⟩);unfold sW;ext;unfold sV;ext;refine gH (cn rfl (SqL.of d.ec) (fN dc (fun k f m=>aQ H m/\∃u v,f=[some (.ref c),some (.int p),some (.int (fr a p)),some (.int (M3.num ((a.take k).map (bt a p)) 0:Nat)),u,v])
  ⟨aQ.refl _,none,none,rfl⟩ (fun k f m _ s=>s.1.seq (SqL.of d.ec)) ?_ ?_))
 ·rintro k y f o W V t ⟨i,u,v,rfl⟩ P T M _;obtain⟨w,z',R,rfl,I,J⟩:=d.at_ k y P;have l:=i.trans T;obtain⟨Y,U⟩:=d.row t;have N:k<a.length:=by rw[d.rl];exact t
  refine⟨w,_,rfl,SqT.of (l _ _ I),rfl,_,_,rfl,_,_,rfl,rfl,?_⟩;ext;refine⟨xR (by decide) (by decide),.inr (.inl ⟨R,_,p,_,rfl,rfl,SqT.of (l _ _ J),cf (iv (by lia)),?_⟩)⟩;refine xor_ii.mpr (ye.mpr ?_);rw[show k6 ((a.getD k []).getD p 0) (fr a p)=if(a.getD k []).getD p 0=(a.getD 0 []).getD p 0 then 0 else 1 from xor_bit (U p hp) (S p hp)];have F:a.take (k+1)=a.take k++[a.getD k []]:=by rw[dM,aa,ae N];rfl
  have D:(if(a.getD k []).getD p 0=(a.getD 0 []).getD p 0 then(0:Int)else 1)=((bt a p (a.getD k [])).toNat:Int):=by
   unfold bt fr;by_cases h:(a.getD k []).getD p 0=(a.getD 0 []).getD p 0;·rw[if_pos h,decide_eq_true h];rfl
   ·rw[if_neg h,decide_eq_false h];rfl
  have C:((M3.num ((a.take k).map (bt a p)) 0:Nat):Int)*2+((bt a p (a.getD k [])).toNat:Int)=((M3.num ((a.take (k+1)).map (bt a p)) 0:Nat):Int):=by rw[F,cQ,b7,lz,wZ];push_cast;rfl
  rw[D,C];exact M _ _ ⟨l,_,_,rfl⟩
 ·rintro f o ⟨i,u,v,rfl⟩;unfold sU;ext;rw[<-d.rl,fS];exact q o i
def oh(K:ah):Sp:=fun vs H Q _=>∃(r b:Addr)(zs a:List Int),vs=[.ref r,.ref b]/\SqT K H r (zs.map V.int)/\SqL K H b (a.map V.int)/\zs.length<=60/\
 ∀(H':Hp)(p:Addr),aQ H H'->H p=none->H' p=some (.tup ((trn zs a).map V.int))->Q (.ref p) H'
def Hw:Sat G K (oh K) DA CJ:=by
 rintro d H Q E ⟨r,b,f,a,rfl,j,w,A,q⟩;unfold DA;change wpB G K _ _ _ [some (.ref r),some (.ref b)] H;ext;refine cN ⟨_,rfl,r,rfl,⟨_,j⟩,?_⟩;refine dN zf (dA (by rw[ai];lia)) (fun s c=>c.tup j) (fun i v _=>v=.int (if(i:Int)∈a then 1-f.getD i 0 else f.getD i 0)) (fun _ _ _ _ _ h=>h) (fun o=>∃u v,o=[u,v,some (.ref b)]) ⟨none,none,rfl⟩ ?_ ?_
 ·rintro i x o s R hi ⟨u,v,rfl⟩ c ⟨p,v,rfl,hp,m⟩ k;rw[ai]at hi;rw[iv hi]at m;cases m;refine⟨p,_,rfl,SqT.of hp,rfl,_,_,rfl,_,_,rfl,rfl,?_⟩;ext;refine .inr ⟨b,_,rfl,.inl (c.seq w),rfl,tZ a,_,rfl,?_⟩;show if inV (V.int (i:Int)) (a.map V.int)=true then _ else _
  rw[A8];by_cases h:(i:Int)∈a;·rw[decide_eq_true h,if_pos rfl];exact k _ _ _ ⟨_,_,rfl⟩ (aQ.refl _) (by rw[if_pos h])
  ·rw[decide_eq_false h,if_neg ak];exact k _ _ _ ⟨_,_,rfl⟩ (aQ.refl _) (by rw[if_neg h])
 ·intro d z l y t n g;rw[ai]at y;have e:d=(trn f a).map V.int:=by
   unfold trn;apply gT;intro i;rw[av,av];by_cases hi:i<d.length;·rw[ae hi,bN (by lia),t i _ (ae hi)];rfl
   ·rw[bT (by lia),bT (by rw[aR];lia)];rfl
  rw[e];exact⟨l,_,rfl,.inl ⟨SqL.of au,fun p hp=>q _ p (n.trans ((aB g).trans (aB hp))) ((n.trans (aB g)).free hp) au⟩⟩
end K32
namespace M6
def Ok(n:Nat)(v:List Int):Prop:=v.length=n/\∀x∈v,x=0\/x=1
def Ok.at(h:Ok n v)(i:Nat):v.getD i 0=0\/v.getD i 0=1:=by
 rw[aa];cases e:v[i]? with
 |none=>exact .inl rfl
 |some x=>exact h.2 x (aG e)
def Mis(vs:List (List Int))(i j:Nat):Prop:=∃a b:Int,(a=0\/a=1)/\(b=0\/b=1)/\∀v∈vs,¬(v.getD i 0=a/\v.getD j 0=b)
def Mis.sub{vs c:List (List Int)}(h:Mis vs i j)(s:∀w∈c,w∈vs):Mis c i j:=let⟨a,b,ha,hb,k⟩:=h;⟨a,b,ha,hb,fun w d=>k w (s w d)⟩
def Mis.flip{vs:List (List Int)}(h:Mis vs i j):Mis vs j i:=let⟨a,b,ha,hb,k⟩:=h;⟨b,a,hb,ha,fun w c ⟨x,y⟩=>k w c ⟨y,x⟩⟩
end M6
namespace M7
open K32
def Fits(rows:List (List Int))(n:Nat)(v:List Int):Prop:=M6.Ok n v/\∀i j,i<n->j<n->∃r∈rows,r.getD i 0=v.getD i 0/\r.getD j 0=v.getD j 0
def Fits.sub{a:List (List Int)}(h:Fits rows n v)(s:∀r∈rows,r∈a):Fits a n v:=⟨h.1,fun i j hi b=>let⟨r,hr,e⟩:=h.2 i j hi b;⟨r,s r hr,e⟩⟩
section
def lK:bt rows p r=true↔r.getD p 0≠fr rows p:=by unfold bt;simp
def pk(p i:Nat):(grp rows p).testBit i=((rows.reverse[i]?).map (bt rows p)).getD false:=by unfold grp;have :=M3.Gn (rows.map (bt rows p)).reverse i;rw[List.reverse_reverse]at this;rw[this,<-List.map_reverse,av]
def gsub:grp rows p&&& grp rows q=grp rows q↔∀r∈rows,bt rows q r=true->bt rows p r=true:=by
 rw[M3.and_sub];constructor;·intro h r a hq;obtain⟨i,hi⟩:=bS.mp (jM.mpr a);have :=h i;rw[pk,pk,hi]at this;exact this hq
 ·intro h i;rw[pk,pk];cases e:rows.reverse[i]? with
  |none=>exact id
  |some r=>exact h r (jM.mp (aG e))
def geq:grp rows p=grp rows q↔∀r∈rows,bt rows p r=bt rows q r:=by
 constructor;·intro h r c;have a:=gsub.mp (show grp rows p&&& grp rows q=grp rows q by rw[h,JB]) r c;have b:=gsub.mp (show grp rows q&&& grp rows p=grp rows p by rw[h,JB]) r c;exact cw.mpr ⟨b,a⟩
 ·intro h;apply tm
  intro i;rw[pk,pk];cases e:rows.reverse[i]? with
  |none=>rfl
  |some r=>exact h r (jM.mp (aG e))
def gnz:grp rows p≠0↔∃r∈rows,bt rows p r=true:=by
 constructor
 ·intro h;apply aJ
  intro a;apply h;apply tm;intro i;rw[pk,Nat.zero_testBit];cases e:rows.reverse[i]? with
  |none=>rfl
  |some r=>
   cases b:bt rows p r with
   |false=>exact b
   |true=>exact absurd ⟨r,jM.mp (aG e),b⟩ a
 ·rintro⟨r,c,h⟩ z;obtain⟨i,hi⟩:=bS.mp (jM.mpr c);have :=pk (rows:=rows) p i;rw[hi,z,Nat.zero_testBit]at this;rw[show((some r).map (bt rows p)).getD false=bt rows p r from rfl,h]at this;cases this
end
theorem Dt{b:Type}{p q:b->Bool}:∀{l:List b},(∀r∈l,q r=true->p r=true)->∀{x:b},x∈l->p x=true->q x=false->l.countP q<l.countP p
 |a::l,h,x,hx,hp,hq=>by
  rw[List.countP_cons,List.countP_cons];have d:=h a aM;have c:∀r∈l,q r=true->p r=true:=fun r f=>h r (aK _ f);rcases aI.mp hx with rfl|hx;·have :=List.countP_mono_left c;rw[hp,hq,if_pos rfl,if_neg (by decide)];lia
  ·have :=Dt c hx hp hq;cases e:q a with
   |true=>rw[d e];lia
   |false=>rw[if_neg (by decide)];lia
structure Tbl(rows:List (List Int))(n:Nat):Prop where
 ok:∀r∈rows,M6.Ok n r
 ne:rows≠[]
 mis:∀i j,i<j->j<n->M6.Mis rows i j
section
def Tbl.first(t:Tbl rows n):rows.getD 0 []∈rows:=by
 cases rows with
 |nil=>exact absurd rfl t.ne
 |cons a r=>exact aM
def Tbl.f01(t:Tbl rows n)(p:Nat):fr rows p=0\/fr rows p=1:=(t.ok _ t.first).at p
def Tbl.mis'(t:Tbl rows n)(h:i≠j)(hi:i<n)(a:j<n):M6.Mis rows i j:=by
 rcases Nat.lt_or_gt_of_ne h with h|h;·exact t.mis i j h a
 ·exact(t.mis j i h hi).flip
def neq{x f:Int}(a:x=0\/x=1)(hf:f=0\/f=1):x≠f↔x=1-f:=by rcases a with rfl|rfl<;>rcases hf with rfl|rfl<;>decide
def Tbl.turn(t:Tbl rows n)(a:r∈rows):bt rows p r=true↔r.getD p 0=1-fr rows p:=by rw[lK];exact neq ((t.ok r a).at p) (t.f01 p)
def Tbl.mS(t:Tbl rows n):bt rows p r=false↔r.getD p 0=fr rows p:=by unfold bt;simp
def two{x y z:Int}(a:x=0\/x=1)(b:y=0\/y=1)(hz:z=0\/z=1)(h:x≠y):x=z\/y=z:=by rcases a with rfl|rfl<;>rcases b with rfl|rfl<;>rcases hz with rfl|rfl<;>first |exact absurd rfl h|decide
def two1{x z:Int}(a:x=0\/x=1)(hz:z=0\/z=1):x=z\/1-x=z:=by rcases a with rfl|rfl<;>rcases hz with rfl|rfl<;>decide
def eqb{x y f:Int}(a:x=0\/x=1)(b:y=0\/y=1)(hf:f=0\/f=1):x=y↔(x≠f↔y≠f):=by rcases a with rfl|rfl<;>rcases b with rfl|rfl<;>rcases hf with rfl|rfl<;>decide
def Tbl.nest(t:Tbl rows n)(hp:p<n)(hq:q<n)(f:r∈rows)(o:bt rows p r=true)(s:bt rows q r=true):(∀r∈rows,bt rows p r=true->bt rows q r=true)\/∀r∈rows,bt rows q r=true->bt rows p r=true:=by
 by_cases hpq:p=q;·exact .inl fun r _ h=>hpq▸h
 apply aJ
 intro h;rw[not_or]at h;obtain⟨g,d⟩:=gL.mp h.1;obtain⟨i,e⟩:=gL.mp h.2;have d:g∈rows/\bt rows p g=true/\¬bt rows q g=true:=by apply aJ;intro z;apply d;intro a b;apply aJ;intro c;exact z ⟨a,b,c⟩
 have e:i∈rows/\bt rows q i=true/\¬bt rows p i=true:=by apply aJ;intro z;apply e;intro a b;apply aJ;intro c;exact z ⟨a,b,c⟩
 obtain⟨a,b,A,B,k⟩:=t.mis' hpq hp hq;have v:=t.f01 p;have w:=t.f01 q;have u:=k _ t.first;have m:=k _ f;have j:=k _ d.1;have l:=k _ e.1;rw[(t.turn f).mp o,(t.turn f).mp s]at m;rw[(t.turn d.1).mp d.2.1,t.mS.mp (gU.mpr d.2.2)]at j;rw[(t.turn e.1).mp e.2.1,t.mS.mp (gU.mpr e.2.2)]at l;rcases two1 v A with x|x<;>rcases two1 w B with y|y;·exact u ⟨x,y⟩
 ·exact l ⟨x,y⟩
 ·exact j ⟨x,y⟩
 ·exact m ⟨x,y⟩
def ip{f:Nat->Int}{P:Nat->Bool}(h:i<n):(M4.bl f n P).getD i 0=if P i=true then 1-f i else f i:=M5.Hh h
def GW{u:List Int}(c:u.length=n)(d:v.length=n)(h:∀i,i<n->u.getD i 0=v.getD i 0):u=v:=by
 apply bR (c.trans d.symm)
 intro i a b;have :=h i (by lia)
 rwa [aa,aa,ae a,ae b]at this
def Hg(t:Tbl rows n)(P:Nat->Bool):M6.Ok n (M4.bl (fr rows) n P):=⟨M4.iF _ _ _,fun x a=>by obtain⟨i,_,rfl⟩:=az.mp a;have :=t.f01 i;split <;>lia⟩
abbrev below(rows:List (List Int))(n p:Nat):List Int:=M4.bl (fr rows) n (M4.sub (grp rows) (grp rows p))
def iS:M4.sub (grp rows) (grp rows p) q=true↔∀r∈rows,bt rows p r=true->bt rows q r=true:=by unfold M4.sub;rw[decide_eq_true_eq];exact gsub
def qY(t:Tbl rows n)(hz:grp rows p≠0):Fits rows n (below rows n p):=by
 refine⟨Hg t _,fun i j hi g=>?_⟩;unfold below;rw[ip hi,ip g];have pick:∀{i j:Nat},M4.sub (grp rows) (grp rows p) i=true->M4.sub (grp rows) (grp rows p) j=false->∃r∈rows,r.getD i 0=1-fr rows i/\r.getD j 0=fr rows j:=fun{i j} a b=>by
  have b:¬∀r∈rows,bt rows p r=true->bt rows j r=true:=fun z=>by rw[iS.mpr z]at b;cases b
  obtain⟨r,h⟩:=gL.mp b;have h:r∈rows/\bt rows p r=true/\¬bt rows j r=true:=by apply aJ;intro z;apply h;intro a b;apply aJ;intro c;exact z ⟨a,b,c⟩
  exact⟨r,h.1,(t.turn h.1).mp (iS.mp a r h.1 h.2.1),t.mS.mp (gU.mpr h.2.2)⟩
 cases a:M4.sub (grp rows) (grp rows p) i with
 |true=>
  cases b:M4.sub (grp rows) (grp rows p) j with
  |true=>obtain⟨r,d,h⟩:=gnz.mp hz;exact⟨r,d,(t.turn d).mp (iS.mp a r d h),(t.turn d).mp (iS.mp b r d h)⟩
  |false=>exact pick a b
 |false=>
  cases b:M4.sub (grp rows) (grp rows p) j with
  |true=>obtain⟨r,d,e,f⟩:=pick b a;exact⟨r,d,f,e⟩
  |false=>exact⟨_,t.first,rfl,rfl⟩
def xH(t:Tbl rows n):Fits rows n (M4.bl (fr rows) n fun _=>false):=by refine⟨Hg t _,fun i j hi a=>⟨_,t.first,?_⟩⟩;rw[ip hi,ip a];exact⟨rfl,rfl⟩
def Gi(t:Tbl rows n)(h:Fits rows n v):v=M4.bl (fr rows) n (fun _=>false)\/∃p,p<n/\grp rows p≠0/\v=below rows n p:=by
 by_cases hS:∀p,p<n->v.getD p 0=fr rows p
 ·left
  exact GW h.1.1 (M4.iF _ _ _) fun i hi=>by rw[ip hi];exact hS i hi
 ·right
  have s:∃m p,p<n/\v.getD p 0≠fr rows p/\rows.countP (bt rows p)=m:=by obtain⟨p,hp⟩:=gL.mp hS;obtain⟨hp,c⟩:=tB.mp hp;exact⟨_,p,hp,c,rfl⟩
  obtain⟨m,⟨p,hp,c,l⟩,x⟩:∃m,(∃p,p<n/\v.getD p 0≠fr rows p/\rows.countP (bt rows p)=m)/\∀k,k<m->¬∃p,p<n/\v.getD p 0≠fr rows p/\rows.countP (bt rows p)=k:=by
   obtain⟨m,l⟩:=s
   induction m using kX with
   |_ m ih=>
    by_cases d:∃k,k<m/\∃p,p<n/\v.getD p 0≠fr rows p/\rows.countP (bt rows p)=k;·obtain⟨k,d,h⟩:=d;exact ih k d h
    ·exact⟨m,l,fun k w u=>d ⟨k,w,u⟩⟩
  have B:=fun i=>h.1.at i;have f:∀{r:List Int}{i:Nat},r∈rows->r.getD i 0=v.getD i 0->v.getD i 0≠fr rows i->bt rows i r=true:=fun a e y=>lK.mpr (by rw[e];exact y);refine⟨p,hp,gnz.mpr ?_,?_⟩;·obtain⟨r,a,e,_⟩:=h.2 p p hp hp;exact⟨r,a,f a e c⟩
  ·refine GW h.1.1 (M4.iF _ _ _) fun q hq=>?_;unfold below;rw[ip hq];by_cases hqv:v.getD q 0=fr rows q;·rw[if_neg,hqv];rw[iS];intro hs;obtain⟨r,a,g,j⟩:=h.2 p q hp hq;exact lK.mp (hs r a (f a g c)) (j.trans hqv)
   ·rw[if_pos,(neq (B q) (t.f01 q)).mp hqv];rw[iS];obtain⟨r,a,g,j⟩:=h.2 p q hp hq;rcases t.nest hp hq a (f a g c) (f a j hqv)with hs|hs;·exact hs
    ·intro A z o;cases b:bt rows q A with
     |true=>rfl
     |false=>
      exfalso
      refine x _ ?_ ⟨q,hq,hqv,rfl⟩;rw[<-l];exact Dt hs z o b
def Cls(rows:List (List Int))(p q:Nat):Prop:=∀r∈rows,∀s∈rows,r.getD p 0=s.getD p 0↔r.getD q 0=s.getD q 0
def Tbl.cls(t:Tbl rows n):grp rows p=grp rows q↔Cls rows p q:=by
 rw[geq];constructor;·intro h r c s d;have a:=h r c;have b:=h s d;rw[cw,lK,lK]at a b;rw[eqb ((t.ok r c).at p) ((t.ok s d).at p) (t.f01 p),eqb ((t.ok r c).at q) ((t.ok s d).at q) (t.f01 q),a,b]
 ·intro h r c;rw[cw,lK,lK];exact not_congr (h r c _ t.first)
structure End(rows:List (List Int))(n p:Nat)(v:List Int):Prop where
 ok:M6.Ok n v
 own:∀q,q<n->Cls rows p q->∃r∈rows,r.getD p 0=v.getD p 0/\r.getD q 0=v.getD q 0
 off:∀q,q<n->¬Cls rows p q->∃r∈rows,∃s∈rows,r.getD p 0≠s.getD p 0/\r.getD q 0=v.getD q 0/\s.getD q 0=v.getD q 0
def End.one(t:Tbl rows n)(hp:p<n){w:List Int}(a:End rows n p v)(b:End rows n p w)(e:v.getD p 0=w.getD p 0):v=w:=by
 refine GW a.ok.1 b.ok.1 fun q hq=>?_;by_cases c:Cls rows p q;·obtain⟨r,d,g,i⟩:=a.own q hq c;obtain⟨s,f,j,O⟩:=b.own q hq c;rw[<-i,<-O];exact(c r d s f).mp (by rw[g,j,e])
 ·apply aJ
  intro R;have S:p≠q:=fun z=>c (by rw[z];exact fun _ _ _ _=>Iff.rfl);obtain⟨r,d,s,f,g,i,j⟩:=a.off q hq c;obtain⟨D,l,E,m,L,M,N⟩:=b.off q hq c;obtain⟨x,y,o,T,k⟩:=t.mis' S hp hq;have u:=k r d;have A:=k s f;have B:=k D l;have C:=k E m;have F:=(t.ok r d).at p;have G:=(t.ok s f).at p;have H:=(t.ok D l).at p;have I:=(t.ok E m).at p;have J:=a.ok.at q;have K:=b.ok.at q;rw[i]at u;rw[j]at A;rw[M]at B;rw[N]at C;have P:=two F G o g;have Q:=two H I o L;have h3:=two J K T R;rcases h3 with h3|h3
  ·rcases P with h|h;·exact u ⟨h,h3⟩
   ·exact A ⟨h,h3⟩
  ·rcases Q with h|h;·exact B ⟨h,h3⟩
   ·exact C ⟨h,h3⟩
abbrev hJ(rows:List (List Int))(n p:Nat):List Int:=M4.bl (fr rows) n (M4.above (grp rows) (grp rows p))
def uj:M4.above (grp rows) (grp rows p) q=true↔M4.sub (grp rows) (grp rows p) q=true/\grp rows q≠grp rows p:=by unfold M4.above M4.sub;rw[decide_eq_true_eq,decide_eq_true_eq]
def sub_self:M4.sub (grp rows) (grp rows p) p=true:=iS.mpr fun _ _ h=>h
def vT(hp:p<n):(below rows n p).getD p 0=1-fr rows p:=by unfold below;rw[ip hp,if_pos sub_self]
def BC(hp:p<n):(hJ rows n p).getD p 0=fr rows p:=by unfold hJ;rw[ip hp,if_neg fun h=>(uj.mp h).2 rfl]
def xN(t:Tbl rows n)(hz:grp rows p≠0)(c:¬Cls rows p q):∃r∈rows,∃s∈rows,r.getD p 0≠s.getD p 0/\(r.getD q 0=if M4.sub (grp rows) (grp rows p) q=true then 1-fr rows q else fr rows q)/\s.getD q 0=if M4.sub (grp rows) (grp rows p) q=true then 1-fr rows q else fr rows q:=by
 have i:∀{a b:Nat},(¬∀r∈rows,bt rows a r=true->bt rows b r=true)->∃r∈rows,bt rows a r=true/\bt rows b r=false:=fun{a b} h=>by obtain⟨r,h⟩:=gL.mp h;obtain⟨e,h⟩:=tB.mp h;obtain⟨f,h⟩:=tB.mp h;exact⟨r,e,f,gU.mpr h⟩
 have f01:=t.f01 p;cases a:M4.sub (grp rows) (grp rows p) q with
 |true=>obtain⟨r,d,h⟩:=gnz.mp hz;have g:¬∀r∈rows,bt rows q r=true->bt rows p r=true:=fun z=>c (t.cls.mp (geq.mpr fun r d=>cw.mpr ⟨iS.mp a r d,z r d⟩));obtain⟨s,g,e,f⟩:=i g;rw[if_pos rfl];exact⟨r,d,s,g,by rw[(t.turn d).mp h,t.mS.mp f];lia,(t.turn d).mp (iS.mp a r d h),(t.turn g).mp e⟩
 |false=>
  obtain⟨r,d,e,f⟩:=i fun z=>by rw[iS.mpr z]at a;cases a
  rw[if_neg (by decide)];exact⟨r,d,_,t.first,by rw[(t.turn d).mp e];show _≠fr rows p;lia,t.mS.mp f,rfl⟩
def j9(t:Tbl rows n)(hp:p<n)(hz:grp rows p≠0):End rows n p (below rows n p):=by
 refine⟨Hg t _,fun q hq c=>?_,fun q hq c=>?_⟩
 ·obtain⟨r,a,h⟩:=gnz.mp hz;have e:=geq.mp (t.cls.mpr c);refine⟨r,a,?_,?_⟩;·rw[vT hp];exact(t.turn a).mp h
  ·unfold below;rw[ip hq,if_pos (iS.mpr fun s d b=>by rw[<-e s d];exact b)];exact(t.turn a).mp (by rw[<-e r a];exact h)
 ·have :=xN t hz c;unfold below;rw[ip hq];exact this
def oJ(t:Tbl rows n)(hp:p<n)(hz:grp rows p≠0):End rows n p (hJ rows n p):=by
 refine⟨Hg t _,fun q hq c=>⟨_,t.first,?_,?_⟩,fun q hq c=>?_⟩;·rw[BC hp];rfl
 ·unfold hJ;rw[ip hq,if_neg fun h=>(uj.mp h).2 (t.cls.mpr c).symm];rfl
 ·have :=xN t hz c;unfold hJ;rw[ip hq];have e:(M4.above (grp rows) (grp rows p) q=true)↔(M4.sub (grp rows) (grp rows p) q=true):=by rw[uj];exact⟨fun h=>h.1,fun h=>⟨h,fun z=>c (t.cls.mp z.symm)⟩⟩
  simp only[e];exact this
def sC(t:Tbl rows n)(hp:p<n):hJ rows n p≠below rows n p:=fun h=>by have a:=BC (rows:=rows) hp;have b:=vT (rows:=rows) hp;have :=t.f01 p;rw[h,b]at a;lia
def GC{a b:List Int}(h:a≠b):M4.lo a b=M4.lo b a:=by unfold M4.lo;rw[Q.jk h];cases Q.llt b a<;>rfl
def GL{a b:List Int}(h:a≠b):M4.hi a b=M4.hi b a:=by unfold M4.hi;rw[Q.jk h];cases Q.llt b a<;>rfl
def Ms(t:Tbl rows n)(hp:p<n)(hz:grp rows p≠0){u:List Int}(c:End rows n p u)(d:End rows n p v)(k:u≠v):M4.lo (hJ rows n p) (below rows n p)=M4.lo u v/\M4.hi (hJ rows n p) (below rows n p)=M4.hi u v:=by
 have a:=oJ t hp hz;have b:=j9 t hp hz;have g:=BC (rows:=rows) hp;have h:=vT (rows:=rows) hp;have f:=t.f01 p;have u1:=c.ok.at p;have j:=d.ok.at p;have i:u.getD p 0≠v.getD p 0:=fun z=>k (c.one t hp d z);by_cases e:u.getD p 0=fr rows p;·have x:=c.one t hp a (by rw[g];exact e);have y:=d.one t hp b (by rw[h];exact(neq j f).mp fun z=>i (e.trans z.symm));rw[x,y];exact⟨rfl,rfl⟩
 ·have x:=c.one t hp b (by rw[h];exact(neq u1 f).mp e);have y:=d.one t hp a (by rw[g];exact(two u1 j f i).resolve_left e);rw[x,y];exact⟨GC (sC t hp),GL (sC t hp)⟩
end
end M7
namespace K32
open PySem PySem.Spec PyProof.Rows L2 R Cp Lt Kc K21 K22 Lm M3 M4 M5
def De{J:It}{l:Nat->V->Hp->Prop}{k:Hp->Prop}{g:TG}{tb:TS}{D:Ends}(S:um J n l k)(e:Nat->L2.St->Hp->Prop)(h0:e 0 σ H)(o:∀i σ H,i<=n->e i σ H->k H)
  (p:∀i x σ H H' (j:Ends),i<n->e i σ H->l i x H'->aQ H H'->(∀f H2,e (i+1) f H2->j.nx f H2)->(∀f H2,e (i+1) f H2->j.ct f H2)->g x σ H' fun f H2=>tb j f H2)(m:∀σ H,e n σ H->D.nx σ H):ForB J g tb D σ H:=
 GR S e h0 o (fun i x σ H H' a b c d=>p i x σ H H' _ a b c d (fun _ _ h=>h) (fun _ _ h=>h)) m
def B9:um (Itr 0 n) (nats n).length (fun i x _=>(nats n)[i]? =some x) (fun _=>True) where
 go:=fun i H h hi=>dD.go i H h (by simpa[nats]using hi)
 stop:=fun i H h hi=>dD.stop i H h (by simpa[nats]using hi)
 yld:=fun i H x b h hi y=>by
  have a:i<n:=by simpa[nats]using hi
  obtain⟨e,s⟩:=dD.yld i H x b h a y;refine⟨?_,s⟩;subst e;unfold nats;rw[av,bN a,fB];rfl
def Ir{t:V->Bool}{P:Nat->Bool}(h:∀p,p<n->t (.int p)=P p):((nats n).filter t).map id=(plc n P).map V.int:=by unfold nats plc;rw[dQ,kO,bp];rw[show(aH n).filter (t∘fun i:Nat=>V.int (i:Int))=(aH n).filter P from nq fun p hp=>h p (aW.mp hp)];rfl
def Paired.snoc{c d:Type}{F:c->d->Prop}{a:c}{b:d}(h:F a b){l:List c}{m:List d}(p:Paired F l m):Paired F (l++[a]) (m++[b]):=by
 induction p with
 |nil=>exact .cons h .nil
 |cons x r ih=>exact .cons x ih
def Tk(H H':Hp):Prop:=∀a xs,H a=some (.tup xs)->H' a=some (.tup xs)
def Tk.of(s:aQ H H'):Tk H H':=fun a _ e=>s a _ e
def tM(h:H a=some (.lst xs)):Tk H (upd H a (.lst ys)):=fun b _ e=>by rw[ba (fun z=>by rw[z,h]at e;cases e)];exact e
def eB(t:Tk H H'){ps:List (List Int)}(h:_root_.Q.IntKeys H ys ps):_root_.Q.IntKeys H' ys ps:=Paired.mZ h fun v k z=>by obtain⟨a,e,f⟩:=z;exact⟨a,e,t _ _ f⟩
def BrOf(f:Nat->Int)(n:Nat)(g:Nat->Nat)(H:Hp)(v:V)(q:Int):Prop:=∃a x y z,v=V.ref a/\H a=some (.tup [.ref x,.ref y,.ref z])/\H x=some (.tup ((lo (nA f n g q) (nB f n g q)).map V.int))/\H y=some (.tup ((hi (nA f n g q) (nB f n g q)).map V.int))/\H z=some (.tup ((plc n (own g q.toNat)).map V.int))
def nh(f:Nat->Int)(n:Nat)(g:Nat->Nat)(H:Hp)(bs:List V)(qs:List Int):Prop:=Paired (BrOf f n g H) bs qs
def nh.tk{f:Nat->Int}{g:Nat->Nat}(t:Tk H H'){bs:List V}(h:nh f n g H bs qs):nh f n g H' bs qs:=Paired.mZ h fun v k w=>by obtain⟨a,x,y,z,e,b,c,d,i⟩:=w;exact⟨a,x,y,z,e,t _ _ b,t _ _ c,t _ _ d,t _ _ i⟩
def nh.two{f:Nat->Int}{g:Nat->Nat}{bs:List V}(h:nh f n g H bs qs):_root_.Q.jw H bs (brK f n g qs):=by
 unfold nh at h
 induction h with
 |nil=>exact .nil
 |cons x r ih=>obtain⟨a,x,y,z,e,b,c,d,_⟩:=x;exact .cons ⟨a,x,y,_,e,b,c,d⟩ ih
def eZ{a b:Type}{F:a->b->Prop}{l:List a}{m:List b}(h:Paired F l m):m.length=l.length:=by
 induction h with
 |nil=>rfl
 |cons _ _ ih=>simp[ih]
abbrev gsI(rows:List (List Int))(n:Nat):List Int:=(aH n).map fun p:Nat=>(grp rows p:Int)
def Ba:(gsI rows n).length=n:=by simp[gsI]
def Mf(h:p<n):(gsI rows n).getD p 0=(grp rows p:Int):=by unfold gsI;rw[aa,av,bN h];rfl
abbrev dn(qs:List Int)(k:Nat):List Int:=(qs.take k).filter fun q=> !decide (q=0)
def dn_zero(h:qs[k]? =some 0):dn qs (k+1)=dn qs k:=by unfold dn;rw[dM,h,lP];simp
def G0{q:Int}(h:qs[k]? =some q)(a:q≠0):dn qs (k+1)=dn qs k++[q]:=by unfold dn;rw[dM,h,lP];simp[a]
def Mx{g:Nat->Nat}(h:Grs n g qs):Grs n g (dn qs k):=by have s:(dn qs k).Sublist qs:=kZ.trans (vY k qs);exact⟨h.1.sublist s,fun q hq=>h.2 q (s.subset hq)⟩
def Mw{g:Nat->Nat}(h:Grs n g qs):(dn qs k).length<=n:=vR (Mx h)
structure Fx(H:Hp)(gl nd br so:Addr):Prop where
 fnd:H nd=none
 fbr:H br=none
 n1:nd≠br
 n2:nd≠gl
 n3:nd≠so
 n4:br≠gl
 n5:br≠so
structure Gx(rows:List (List Int))(n:Nat)(qs:List Int)(H:Hp)(gl nd br so:Addr)(ds:List Int)(ks bs:List V)(H':Hp):Prop where
 s:aQ H H'
 eg:H' gl=some (.lst ((gsI rows n).map V.int))
 eo:H' so=some (.lst (qs.map V.int))
 en:H' nd=some (.lst ks)
 eb:H' br=some (.lst bs)
 nk:_root_.Q.IntKeys H' ks (fJ (fr rows) n (grp rows) ds)
 bk:nh (fr rows) n (grp rows) H' bs ds
section
variable {gl nd br so c r0:Addr}{ds:List Int}{ks bs:List V}{G:Gam}{E:XS}{D:Ends}
def Gx.same{a:Hp}(g:Gx rows n qs H gl nd br so ds ks bs H')(s:aQ H' a):Gx rows n qs H gl nd br so ds ks bs a:=
 ⟨g.s.trans s,s _ _ g.eg,s _ _ g.eo,s _ _ g.en,s _ _ g.eb,eB (Tk.of s) g.nk,g.bk.tk (Tk.of s)⟩
def Gx.ksl(g:Gx rows n qs H gl nd br so ds ks bs H'):ks.length=ds.length+1:=by have :=eZ g.nk;simpa[fJ]using this.symm
def Gx.bsl(g:Gx rows n qs H gl nd br so ds ks bs H'):bs.length=ds.length:=(eZ g.bk).symm
def Gv(rows:List (List Int))(n:Nat)(qs:List Int)(H:Hp)(c r0 gl nd br so:Addr)(k:Nat)(σ:L2.St)(H':Hp):Prop:=
 (∃ks bs,Gx rows n qs H gl nd br so (dn qs k) ks bs H')/\∃u v w x y,σ=[some (.ref c),some (.ref r0),some (.ref gl),some (.ref nd),some (.ref br),u,v,w,x,y]
def EN{f:Nat->Int}{g:Nat->Nat}{q:Int}:fJ f n g (ds++[q])=fJ f n g ds++[nB f n g q]:=by simp[fJ]
def pick{p:Prop}[Decidable p]{x y:Addr}{A B:List Int}(a:H x=some (.tup (A.map V.int)))(b:H y=some (.tup (B.map V.int))):∃z,(if p then V.ref y else V.ref x)=V.ref z/\H z=some (.tup ((if p then B else A).map V.int)):=by
 split;·exact⟨y,rfl,b⟩
 ·exact⟨x,rfl,a⟩
def z8(F:Fx H gl nd br so)(T:n<=60)(hq:Grs n (grp rows) qs){q:Int}(L:qs[k]? =some q)(h0:q≠0)(J:∀u H2,Gv rows n qs H c r0 gl nd br so (k+1) u H2->D.nx u H2)
  (s:aQ H H')(v:H' gl=some (.lst ((gsI rows n).map V.int)))(A:H' so=some (.lst (qs.map V.int)))(w:H' nd=some (.lst ks))(m:H' br=some (.lst bs))(P:_root_.Q.IntKeys H' ks (fJ (fr rows) n (grp rows) (dn qs (k+1))))(bk:nh (fr rows) n (grp rows) H' bs (dn qs k))
  (B:H' pl=some (.lst ((plc n (own (grp rows) q.toNat)).map V.int)))(g:H' be=some (.tup ((nB (fr rows) n (grp rows) q).map V.int)))(f:H' ab=some (.tup ((nA (fr rows) n (grp rows) q).map V.int))):
  wpB G K E o5 D [some (.ref c),some (.ref r0),some (.ref gl),some (.ref nd),some (.ref br),some (.int q),some (.ref pl),some (.ref ar),some (.ref be),some (.ref ab)] H':=by
 have S:(dn qs k).length<=n:=Mw hq;have R:=eZ bk;unfold o5;ext;have t:(nA (fr rows) n (grp rows) q).length=(nB (fr rows) n (grp rows) q).length:=(iF _ _ _).trans (iF _ _ _).symm;obtain⟨x,C,M⟩:=pick (p:=_root_.Q.llt (nB (fr rows) n (grp rows) q) (nA (fr rows) n (grp rows) q)=true) f g;obtain⟨y,I,N⟩:=pick (p:=_root_.Q.llt (nA (fr rows) n (grp rows) q) (nB (fr rows) n (grp rows) q)=true) f g;refine⟨.inl ⟨rfl,_,SqL.of m⟩,ab,be,_,_,rfl,SqT.of f,SqT.of g,t,ab,be,_,_,rfl,SqT.of f,SqT.of g,t,?_⟩;rw[C,I];refine⟨pl,_,rfl,.inl ⟨SqL.of B,fun z O=>⟨short (by simp),fun a r=>?_⟩⟩⟩;have d:aQ H' (upd (upd H' z (.tup ((plc n (own (grp rows) q.toNat)).map V.int))) a (.tup [.ref x,.ref y,.ref z])):=(aB O).trans (aB r);have j:upd (upd H' z (.tup ((plc n (own (grp rows) q.toNat)).map V.int))) a (.tup [.ref x,.ref y,.ref z]) a=some (.tup [.ref x,.ref y,.ref z]):=au;have l:upd (upd H' z (.tup ((plc n (own (grp rows) q.toNat)).map V.int))) a (.tup [.ref x,.ref y,.ref z]) z=some (.tup ((plc n (own (grp rows) q.toNat)).map V.int)):=aB r _ _ au;generalize upd (upd H' z (.tup ((plc n (own (grp rows) q.toNat)).map V.int))) a (.tup [.ref x,.ref y,.ref z])=H1 at d j l⊢;have o:=d _ _ m;refine⟨br,bs,_,rfl,rfl,o,xq (by lia),J _ _ ⟨⟨ks,bs++[.ref a],?_⟩,_,_,_,_,_,rfl⟩⟩;have i:Tk H1 (upd H1 br (.lst (bs++[V.ref a]))):=tM o;have h:Tk H' (upd H1 br (.lst (bs++[V.ref a]))):=fun b Q e=>i b Q (d _ _ e);refine⟨eH (s.trans d) F.fbr,?_,?_,?_,au,eB h P,?_⟩;·rw[ba (bI F.n4)];exact d _ _ v
 ·rw[ba (bI F.n5)];exact d _ _ A
 ·rw[ba F.n1];exact d _ _ w
 ·rw[G0 L h0];exact Paired.snoc ⟨a,x,y,z,rfl,i _ _ j,h _ _ M,h _ _ N,i _ _ l⟩ (bk.tk h)
def z9(F:Fx H gl nd br so)(j:n<=60)(hq:Grs n (grp rows) qs){q:Int}(d:qs[k]? =some q)(h0:q≠0)(i:∀e H2,Gv rows n qs H c r0 gl nd br so (k+1) e H2->D.nx e H2)
  (g:Gx rows n qs H gl nd br so (dn qs k) ks bs H')(l:pl≠nd)(h:H' pl=some (.lst ((plc n (own (grp rows) q.toNat)).map V.int)))(b:H' be=some (.tup ((nB (fr rows) n (grp rows) q).map V.int)))(f:H' ab=some (.tup ((nA (fr rows) n (grp rows) q).map V.int))):
  wpB G K E o6 D [some (.ref c),some (.ref r0),some (.ref gl),some (.ref nd),some (.ref br),some (.int q),some (.ref pl),some (.ref ar),some (.ref be),some (.ref ab)] H':=by
 have m:(dn qs k).length<=n:=Mw hq;have o:=g.ksl;unfold o6;ext;refine⟨.inl ⟨rfl,_,SqL.of g.en⟩,nd,ks,_,rfl,rfl,g.en,xq (by lia),?_⟩;have a:Tk H' (upd H' nd (.lst (ks++[V.ref be]))):=tM g.en;refine z8 F j hq d h0 i (eH g.s F.fnd) ?_ ?_ au ?_ ?_ (g.bk.tk a) ?_ (a _ _ b) (a _ _ f);·rw[ba (bI F.n2)];exact g.eg
 ·rw[ba (bI F.n3)];exact g.eo
 ·rw[ba (bI F.n1)];exact g.eb
 ·rw[G0 d h0,EN];exact Paired.snoc ⟨be,rfl,a _ _ b⟩ (eB a g.nk)
 ·rw[ba l];exact h
def oo{P:Nat->Bool}{Q:VK}{c:TT}{τs:List (Option V)}(r:n<=60)
  (step:∀(p:Nat)(u:Option V)(a:Hp)(R:Bool->Hp->Prop),p<n->aQ H1 a->R (P p) a->c (some (.int p)::τs) a R)
  (f:∀H2 l,aQ H1 H2->H2 l=none->Q (.ref l) (upd H2 l (.lst ((plc n P).map V.int)))):
  DN (Itr 0 n) (nC 0) c (rM 0) (none::τs) H1 Q:=by
 refine pJ (xs:=nats n) B9 (dA (by unfold nats;simp;lia)) (fun _ _=>trivial) (fun v=>match v with |.int i=>P i.toNat|_=>false) id (fun d=>∃u,d=u::τs) ⟨none,rfl⟩ ?_ ?_
 ·rintro x d a q o b ⟨u,rfl⟩ m j kf;unfold nats at b;obtain⟨p,hp,rfl⟩:=az.mp b;have hp:=aW.mp hp;refine step p u a _ hp m ?_;have e:P ((p:Int)).toNat=P p:=by rw[aN]
  cases h:P p with
  |true=>rw[if_pos rfl];exact⟨_,rfl,j _ _ ⟨_,rfl⟩ (aQ.refl _) (e.trans h)⟩
  |false=>rw[if_neg ak];exact kf _ _ ⟨_,rfl⟩ (aQ.refl _) (e.trans h)
 ·intro H2 l k g;rw[Ir (P:=P) fun p hp=>by show P ((p:Int)).toNat=P p;rw[aN]];exact f H2 l k g
def Aa(h:G.fn "turned" 2=some (oh K,[]))(F:Fx H gl nd br so)(i:n<=60)(u:(rows.getD 0 []).length=n)(v:H r0=some (.tup ((rows.getD 0 []).map V.int)))(hq:Grs n (grp rows) qs){q:Int}(t:qs[k]? =some q)(h0:q≠0)(s:∀j H2,Gv rows n qs H c r0 gl nd br so (k+1) j H2->D.nx j H2){x y:Option V}
  (g:Gx rows n qs H gl nd br so (dn qs k) ks bs H')(w:pl≠nd)(f:H' pl=some (.lst ((plc n (own (grp rows) q.toNat)).map V.int)))(r:H' ar=some (.lst ((plc n (M4.sub (grp rows) q.toNat)).map V.int))):
  wpB G K E o7 D [some (.ref c),some (.ref r0),some (.ref gl),some (.ref nd),some (.ref br),some (.int q),some (.ref pl),some (.ref ar),x,y] H':=by
 unfold o7;ext;refine⟨_,_,h,r0,ar,_,_,rfl,SqT.of (g.s _ _ v),SqL.of r,by lia,fun z l b _ a=>?_⟩;have m:trn (rows.getD 0 []) (plc n (M4.sub (grp rows) q.toNat))=nB (fr rows) n (grp rows) q:=by rw[<-u];exact HC
 rw[m]at a;unfold u6;ext;refine⟨_,_,h,l,pl,_,_,rfl,SqT.of a,SqL.of (b _ _ f),by unfold nB;rw[iF];exact i,fun H2 A d _ e=>?_⟩;have o:trn (nB (fr rows) n (grp rows) q) (plc n (own (grp rows) q.toNat))=nA (fr rows) n (grp rows) q:=by unfold nB nA;rw[trn_bl fun p=>own_sub,MT]
 rw[o]at e;exact z9 F i hq t h0 s (g.same (b.trans d)) w (d _ _ (b _ _ f)) (d _ _ a) e
def Ab(J:G.fn "turned" 2=some (oh K,[]))(F:Fx H gl nd br so)(h:n<=60)(s:(rows.getD 0 []).length=n)(j:H r0=some (.tup ((rows.getD 0 []).map V.int)))(hq:Grs n (grp rows) qs){q:Int}(r:qs[k]? =some q)(h0:q≠0)(L:∀C H2,Gv rows n qs H c r0 gl nd br so (k+1) C H2->D.nx C H2){v w x y:Option V}
  (g:Gx rows n qs H gl nd br so (dn qs k) ks bs H'):
  wpB G K E o8 D [some (.ref c),some (.ref r0),some (.ref gl),some (.ref nd),some (.ref br),some (.int q),v,w,x,y] H':=by
 obtain⟨S,Q,I⟩:=hq.2 q (aG r);have t:q=(q.toNat:Int):=by rw[I,aN]
 have A:((rows.getD 0 []).map V.int).length=n:=by rw[ai];exact s
 unfold o8;ext;refine cN ?_;ext;refine Or.inl ⟨r0,_,rfl,.inr (SqT.of (g.s _ _ j)),_,rfl,by lia,by lia,?_⟩;rw[A,aN];refine oo (P:=own (grp rows) q.toNat) (τs:=[some (.int q),some (.ref gl)]) h ?_ ?_
 ·intro p u l R hp a f;ext;refine .inl ⟨gl,_,p,_,rfl,rfl,SqL.of (a _ _ g.eg),cf (iv (by rw[Ba];exact hp)),?_⟩;rw[Mf hp];refine ll.mpr ?_;refine⟨_,rfl,?_⟩;have e:decide ((grp rows p:Int)=q)=own (grp rows) q.toNat p:=by unfold M5.own;rw[t,aN];exact decide_eq_decide.mpr (by lia)
  rw[e];exact f
 intro d b B i;have N:aQ H' (upd d b (.lst ((plc n (own (grp rows) q.toNat)).map V.int))):=B.trans (aB i);have m:upd d b (.lst ((plc n (own (grp rows) q.toNat)).map V.int)) b=some (.lst ((plc n (own (grp rows) q.toNat)).map V.int)):=au;have M:b≠nd:=fun z=>by rw[z,B _ _ g.en]at i;cases i
 have g:=g.same N;generalize upd d b (.lst ((plc n (own (grp rows) q.toNat)).map V.int))=H2 at m g⊢;unfold u7;ext;refine cN ?_;ext;refine Or.inl ⟨r0,_,rfl,.inr (SqT.of (g.s _ _ j)),_,rfl,by lia,by lia,?_⟩;rw[A,aN];refine oo (P:=M4.sub (grp rows) q.toNat) (τs:=[some (.int q),some (.ref gl)]) h ?_ ?_
 ·intro p u l R hp a f;ext;refine .inl ⟨gl,_,p,_,rfl,rfl,SqL.of (a _ _ g.eg),cf (iv (by rw[Ba];exact hp)),?_⟩;rw[Mf hp];refine and_ii.mpr (ll.mpr ⟨_,rfl,?_⟩);have e:decide (i9 (grp rows p:Int) q=q)=M4.sub (grp rows) q.toNat p:=by unfold M4.sub;rw[t,and_nat,aN];exact decide_eq_decide.mpr (by lia)
  rw[e];exact f
 intro l O a o;exact Aa J F h s j hq r h0 L (g.same (a.trans (aB o))) M ((a.trans (aB o)) _ _ m) au
end
def uv(rows:List (List Int))(n:Nat)(H:Hp)(H':Hp)(p:Addr):Prop:=∃(nl bl:Addr)(ks bs:List V)(qs:List Int),H' p=some (.tup [.ref nl,.ref bl])/\H nl=none/\H bl=none/\nl≠bl/\Grs n (grp rows) qs/\0∉qs/\(∀p,p<n->grp rows p≠0->(grp rows p:Int)∈qs)/\
 _root_.Q.IntKeys H' ks (fJ (fr rows) n (grp rows) qs)/\nh (fr rows) n (grp rows) H' bs qs/\H' nl=some (.lst (_root_.Q.cB .non (fJ (fr rows) n (grp rows) qs) ks))/\H' bl=some (.lst (_root_.Q.cB .non ((brK (fr rows) n (grp rows) qs).map _root_.Q.kQ) bs))
def wB:Sp:=fun vs H Q _=>∃(c:Addr)(ys:List V)(n:Nat)(rows:List (List Int)),vs=[.ref c]/\Cps H c ys n rows/\ys≠[]/\∀H' p,aQ H H'->H p=none->uv rows n H H' p->Q (.ref p) H'
def Hy(g1:G.fn "group_at" 2=some (Al,[]))(F:G.fn "turned" 2=some (oh K,[])):Sat G K wB He Gw:=by
 rintro vs H b3 b2 ⟨c,N,n,a,rfl,d,hy,q⟩;unfold He;change wpB G K _ _ _ [some (.ref c),none,none,none,none,none,none,none,none,none] H;ext;have m:0<N.length:=fR.mpr hy;obtain⟨a0,z,r,e1,e2,R⟩:=d.at_ 0 N[0] (ae m);obtain⟨W,hf⟩:=d.row m;have hf:∀p,p<n->fr a p=0\/fr a p=1:=hf;have hn:=d.n60;have a8:((a.getD 0 []).map V.int).length=n:=by rw[ai];exact W
 have g0:N[0]? =some (.ref a0):=by rw[ae m,e1]
 refine .inl ⟨c,N,0,_,rfl,rfl,SqL.of d.ec,cf (j:=0) g0,?_⟩;refine .inr (.inl ⟨a0,_,1,_,rfl,rfl,SqT.of e2,rfl,?_⟩);unfold zP;ext;refine cN ?_;ext;refine Or.inl ⟨r,_,rfl,.inr (SqT.of R),_,rfl,by lia,by lia,?_⟩;rw[a8,aN];refine dN dD (dA (by lia)) (fun _ _=>trivial) (fun i v _=>v=.int (grp a i)) (fun _ _ _ _ _ h=>h) (fun τ=>∃u,τ=[u,some (.ref c)]) ⟨none,rfl⟩ ?_ ?_;·rintro i b0 τ C b4 hi ⟨u,rfl⟩ w rfl k;ext;simp only[fB];exact⟨_,_,g1,c,i,N,n,a,rfl,d.same w,hy,by lia,fun D M=>k _ _ _ ⟨_,rfl⟩ M rfl⟩
 intro vs H1 gl b9 hF s1 a7;have ev:vs=(gsI a n).map V.int:=by
  unfold gsI;apply gT;intro i;rw[av,av];by_cases hi:i<vs.length;·rw[ae hi,bN (by lia),hF i _ (ae hi)];rfl
  ·rw[bT (by lia),bT (by rw[aR];lia)];rfl
 rw[ev];generalize hX:upd H1 gl _=H2;obtain⟨L,s⟩:=cU hX a7;clear hX
 replace L:=s1.trans (L)
 unfold zO;ext;refine⟨short (by simp),fun nd Q=>?_⟩;have w:aQ H2 (upd H2 nd (.lst [.ref r])):=aB Q;have t:upd H2 nd (.lst [.ref r]) nd=some (.lst [.ref r]):=au;have n2:nd≠gl:=fun z=>by rw[z,s]at Q;cases Q
 have fnd:H nd=none:=L.free Q;generalize upd H2 nd (.lst [.ref r])=C at w t⊢;unfold zN;ext;refine⟨short (by simp),fun e y=>?_⟩;have M:aQ C (upd C e (.lst [])):=aB y;have S:upd C e (.lst []) e=some (.lst []):=au;have n1:nd≠e:=fun z=>by rw[<-z,t]at y;cases y
 have n4:e≠gl:=fun z=>by rw[z,w _ _ s]at y;cases y
 have a6:H e=none:=(L.trans w).free y;have t:=M _ _ t;have s:=M _ _ (w _ _ s);have Y:=L.trans (w.trans M);generalize upd C e (.lst [])=D at Y S t s⊢;unfold zM;ext;refine gH ?_;ext;refine⟨_,rfl,gl,gsI a n,rfl,SqL.of s,Few.of (by rw[Ba];lia),fun ms f a3 mem J=>?_⟩;obtain⟨b,eq,X⟩:=_root_.Q.HK a3;have hq:Grs n (grp a) b:=⟨X.nodup_iff.mpr a3,fun q hq=>by have h:=(mem q).mp (X.mem_iff.mp hq);unfold gsI at h;obtain⟨p,hp,a5⟩:=az.mp h;exact⟨p,aW.mp hp,a5.symm⟩⟩
 rw[eq];have B:aQ D (upd D f (.lst (b.map V.int))):=aB J;have U:upd D f (.lst (b.map V.int)) f=some (.lst (b.map V.int)):=au;have n3:nd≠f:=fun z=>by rw[<-z,t]at J;cases J
 have n5:e≠f:=fun z=>by rw[<-z,S]at J;cases J
 have a4:Fx H gl nd e f:=⟨fnd,a6,n1,n2,n3,n4,n5⟩;generalize upd D f (.lst (b.map V.int))=H5 at B U⊢;have gx:Gx a n b H gl nd e f (dn b 0) [.ref r] [] H5:=by
  refine⟨Y.trans B,B _ _ s,U,B _ _ t,B _ _ S,?_,.nil⟩;refine .cons ⟨r,rfl,?_⟩ .nil;have ef:bl (fr a) n (fun _=>false)=a.getD 0 []:=by rw[<-W];exact Mn _
  rw[ef];exact(Y.trans B) _ _ R
 refine⟨f,rfl,⟨_,SqL.of U⟩,De (dc (xs:=b.map V.int)) (Gv a n b H c r gl nd e f) ⟨⟨_,_,gx⟩,_,_,_,_,_,rfl⟩ (fun k σ H' _ g=>?_) ?_ ?_⟩;·obtain⟨⟨l,bs,g⟩,_⟩:=g;exact SqL.of g.eo
 ·rintro k b0 σ E H7 D2 hk ⟨⟨l,bs,g⟩,u,v,a9,x',b1,rfl⟩ hx s7 hD hC;have g:=g.same s7;rw[ai]at hk;have P:b[k]? =some b[k]:=ae hk;rw[av,P]at hx;cases hx;generalize b[k]=q at P;ext;by_cases m:q=0;·rw[decide_eq_true m,if_pos rfl];refine hC _ _ ⟨⟨l,bs,?_⟩,_,_,_,_,_,rfl⟩;rw[dn_zero (by rw[P,m])];exact g
  ·rw[decide_eq_false m,if_neg ak];exact Ab F a4 hn W R hq P m hD g
 ·rintro σ E ⟨⟨l,bs,g⟩,u,v,a9,x',b1,rfl⟩;rw[ai]at g;have I:Grs n (grp a) (dn b b.length):=Mx hq;have a1:dn b b.length=b.filter fun q=> !decide (q=0):=by unfold dn;rw[fS]
  have z0:(0:Int)∉dn b b.length:=fun z=>by rw[a1]at z;simpa using(bw.mp z).2
  have all:∀p,p<n->grp a p≠0->(grp a p:Int)∈dn b b.length:=fun p hp h=>by
   rw[a1];refine bw.mpr ⟨X.mem_iff.mpr ((mem _).mpr ?_),?_⟩;·unfold gsI;exact az.mpr ⟨p,aW.mpr hp,rfl⟩
   ·have :¬((grp a p:Int)=0):=by lia
    rw[decide_eq_false this];rfl
  generalize dn b b.length=ds at g I z0 all;have b7:ds.length<=n:=vR I;have b8:=g.ksl;have b6:=g.bsl;have c0:=eZ g.nk;have b5:=eZ g.bk.two;unfold zL;ext;refine⟨nd,l,_,n,rfl,SqL.of g.en,by lia,w8 hf I,Iq,g.nk,fun A a2=>?_⟩;have t1:aQ E (upd E A (.lst (_root_.Q.cB .non (fJ (fr a) n (grp a) ds) l))):=aB a2;have T:upd E A (.lst (_root_.Q.cB .non (fJ (fr a) n (grp a) ds) l)) A=some (.lst (_root_.Q.cB .non (fJ (fr a) n (grp a) ds) l)):=au;have x:=g.same t1;generalize upd E A (.lst (_root_.Q.cB .non (fJ (fr a) n (grp a) ds) l))=H7 at t1 T x⊢;refine⟨e,bs,_,n,rfl,SqL.of x.eb,by lia,Fs hf I,brK_len,x.bk.two,fun bl O=>⟨short (by simp),fun p hp=>?_⟩⟩;have Z:=aB (o:=.lst (_root_.Q.cB .non ((brK (fr a) n (grp a) ds).map _root_.Q.kQ) bs)) O;have t3:=aB (o:=.tup [.ref A,.ref bl]) hp;have F:=x.same (Z.trans t3);refine q _ p F.s (((x.s).trans Z).free hp) ⟨A,bl,l,bs,ds,au,g.s.free a2,x.s.free O,fun z=>by(rw[<-z,T]at O;cases O),I,z0,all,F.nk,F.bk,(Z.trans t3) _ _ T,t3 _ _ au⟩
end K32
namespace K32
open PySem R
abbrev p_tree:List Str:=["table"]
abbrev Lp:List Str:=["table","copies"]
abbrev DB:CB:=
  (.cons (.ret (.call "grown" (.cons (.var 1) .nil)))
  .nil)
abbrev DC:CB:=
  (.cons (.iff (.cmp .Eq (.bfn .len (.cons (.var 1) .nil)) (.con (.int 0)))
  (.cons (.ret (.tup (.cons (.lst .nil) (.cons (.lst .nil) .nil))))
  .nil)
  .nil)
  DB)
abbrev DD:CB:=
  (.cons (.expr (.call "refuse_clash" (.cons (.var 1) .nil)))
  DC)
abbrev MN:CB:=
  (.cons (.asg (.name 1) (.call "table_list" (.cons (.var 0) .nil)))
  DD)
end K32
namespace K32
open PySem PySem.Spec PyProof.Rows L2 R Cp Lt Kc K21 K22 Lm M5
def put2{x:V}:qS (bu "other") y [(bu "one",x)]=[(bu "one",x),(bu "other",y)]:=by unfold qS qS;rw[if_neg (by decide+kernel)]
def B8{x:V}(e:dW H x=true)(m:H' l=some (.lst zs))(h:zs.map (cd H')=rowsOf H x)(t:dW H' (.ref l)=true):rowsOf H' (.ref l)=rowsOf H x/\srt H' (.ref l)=zs:=by
 have i:eO (H' l)=some zs:=by rw[m];rfl
 obtain⟨y,C,o,j,z,A,b,B⟩:=eV t;cases o;rw[i]at j;cases j;obtain⟨a,ys,rfl,p,u,v,g,w⟩:=eV e;have c:∀l:List V,l.filter (fun _=>true)=l:=fun l=>Nj.mpr fun _ _=>rfl;have r:(_root_.Q.sortBy V.non (ys.map (a6 H)) ys).map (a6 H)=_root_.Q.sortBy ("":Str) (ys.map (a6 H)) (ys.map (a6 H)):=by
  have :=_root_.Q.uF V.non (a6 H) (fun _=>true) g
  rwa [c,c]at this
 have s:(_root_.Q.sortBy V.non (zs.map (a6 H')) zs).map (a6 H')=_root_.Q.sortBy ("":Str) (zs.map (a6 H')) (zs.map (a6 H')):=by
  have :=_root_.Q.uF V.non (a6 H') (fun _=>true) b
  rwa [c,c]at this
 have n:zs.map (a6 H')=_root_.Q.sortBy ("":Str) (ys.map (a6 H)) (ys.map (a6 H)):=by rw[<-r,<-vE p];have :=congrArg (List.map Prod.fst) h;unfold rowsOf at this;rw[bp,bp]at this;exact this
 have q:=_root_.Q.gE V.non b (ys:=zs) (by simp);have k:_root_.Q.sortBy V.non (zs.map (a6 H')) zs=zs:=by refine xp (Ip b) (fun a d=>q.mem_iff.mp d) (fun a d=>d) ?_;rw[s];refine _root_.Q.lA (_root_.Q.gE ("":Str) b rfl) (_root_.Q.jh b) ?_;rw[n];exact _root_.Q.jh g
 have f:srt H' (.ref l)=zs:=by rw[vE i,k]
 refine⟨?_,f⟩;show(srt H' (.ref l)).map (cd H')=_;rw[f];exact h
abbrev intOf:V->Int
 |.int i=>i
 |_=>0
def tX(h:∀z∈zs,cO z=true):(zs.map intOf).map V.int=zs/\∀x∈zs.map intOf,x=0\/x=1:=by
 constructor
 ·rw[bp]
  conv =>rhs;rw[<-dQ zs]
  refine cG fun z a=>?_;rcases ji (h z a)with e|e<;>rw[e]<;>rfl
 ·intro x b;obtain⟨z,a,rfl⟩:=az.mp b;rcases ji (h z a)with e|e<;>rw[e];·exact .inl rfl
  ·exact .inr rfl
abbrev rI(R:List (Str×List V)):List (List Int):=R.map fun p=>p.2.map intOf
def cps_of(d:H l=some (.lst zs))(v:dW H (.ref l)=true):Cps H l zs (count H (.ref l)) (rI (zs.map (cd H))):=by
 have g:eO (H l)=some zs:=by rw[d];rfl
 obtain⟨x,A,q,m,w,c,z,n⟩:=eV v;cases q;rw[g]at m;cases m;refine⟨d,w,by simp[rI],?_,fun i y e=>?_,fun r u=>?_⟩
 ·cases zs with
  |nil=>show(match eO (H l)with |some (y::_)=>cF H y|_=>0)<=60;rw[g];exact aV _
  |cons y r=>rw[<-n y (.head _)];obtain⟨_,_,_,_,_,_,_,_,s,_,_,t⟩:=iD (c y (.head _));rw[t];exact s
 ·obtain⟨b,r,rfl,h,j,k,a⟩:=m5 (c y (aG e));refine⟨b,_,r,rfl,h,?_⟩;have o:(rI (zs.map (cd H))).getD i []=(tP H (.ref b)).map intOf:=by unfold rI;rw[aa,av,av,e];rfl
  rw[o,(tX a).1];exact j
 ·obtain⟨p,hp,rfl⟩:=az.mp u;obtain⟨y,f,rfl⟩:=az.mp hp;obtain⟨b,r,rfl,h,j,k,a⟩:=m5 (c y f);refine⟨?_,(tX a).2⟩;rw[ai,<-n _ f];exact k
def GN{T:Tb}{p:Addr}(g:Gr T H H')(t:Tab T H')(h:H' p=none):H p=none:=by
 cases e:H p with
 |none=>rfl
 |some o=>
  have hp:p≠T.P:=fun z=>by rw[z]at h;rcases t with t|⟨_,_,_,_,_,t,_⟩<;>(rw[h]at t;cases t)
  rw[g.keep p o hp e]at h;cases h
def Cps.gr{T:Tb}(d:Cps H c ys n rows)(g:Gr T H H')(a:Tab T H):Cps H' c ys n rows:=
 {d with ec:=g.lst a d.ec,at_:=fun i y e=>let⟨b,z,r,h1,h2,h3⟩:=d.at_ i y e;⟨b,z,r,h1,g.mR a h2,g.mR a h3⟩}
def uv.old{a:Hp}{p:Addr}(g:uv rows n H H' p)(f:∀p,H p=none->a p=none):uv rows n a H' p:=by obtain⟨i,bl,h,bs,j,b,c,d,e⟩:=g;exact⟨i,bl,h,bs,j,b,f _ c,f _ d,e⟩
def TreeK(R:List (Str×List V))(n:Nat)(H H':Hp)(p:Addr):Prop:=
 (R=[]/\∃a b,H' p=some (.tup [.ref a,.ref b])/\H a=none/\H b=none/\a≠b/\H' a=some (.lst [])/\H' b=some (.lst []))\/(R≠[]/\uv (rI R) n H H' p)
end K32
namespace K02
open PySem PySem.Spec PyProof.Rows L2 R Cp Lt Lm
abbrev rdD:V->D
 |.int i=>.int i
 |_=>.non
end K02
namespace K82
open PySem PySem.Spec PyProof.Rows L2 R Cp Lt Lm K02
noncomputable abbrev Row:=Str×List V
end K82
namespace K24
open PySem PySem.Spec PyProof.Rows L2 R Cp Lt Kc K21 K22 Lm
def xF{rows:List (Str×List V)}{i j:Int}:sv rows i j=true↔∀u v:Int,(u=0\/u=1)->(v=0\/v=1)->∃r∈rows,Im i r=u/\Im j r=v:=by
 unfold sv;rw[bg];constructor
 ·intro h u v a f;have d:(u,v)∈KP:=by unfold KP;rcases a with rfl|rfl<;>rcases f with rfl|rfl<;>simp
  obtain⟨r,c,e⟩:=b8.mp (h (u,v) d);exact⟨r,c,of_decide_eq_true e⟩
 ·intro h k b;have a:(k.1=0\/k.1=1)/\(k.2=0\/k.2=1):=by unfold KP at b;simp only[aI,dy,or_false]at b;rcases b with rfl|rfl|rfl|rfl<;>simp
  obtain⟨r,c,e⟩:=h k.1 k.2 a.1 a.2;exact b8.mpr ⟨r,c,decide_eq_true e⟩
end K24
namespace K84
open PySem PySem.Spec PyProof.Rows L2 R Cp Lt Kc K21 K22 K24 Lm
theorem vI{b:Type}[DecidableEq b]:∀{l m:List b},l.Nodup->m.Nodup->(∀x,x∈l↔x∈m)->l.Perm m
 | [],m,_,_,h=>by
  cases m with
  |nil=>exact .nil
  |cons x m=>exact nomatch(h x).mpr (.head _)
 |x::l,m,h1,h2,h=>by
  have d:=(h x).mp (.head _);refine .trans (.cons x (vI (bW.mp h1).2 (h2.erase x) fun y=>?_)) (rE d).symm;rw[h2.mem_erase_iff];constructor;·intro a;exact⟨fun e=>(bW.mp h1).1 (e▸a),(h y).mp (.tail _ a)⟩
  ·rintro⟨c,a⟩;rcases aI.mp ((h y).mpr a)with e|e;·exact absurd e c
   ·exact e
end K84
namespace K83
open PySem PySem.Spec PyProof.Rows L2 R Cp Lt Kc K84 Lm
def gF{a b:Type}{F:a->b->Prop}{l:List a}{m:List b}(p:Paired F l m):l.length=m.length:=by
 induction p with
 |nil=>rfl
 |cons _ _ ih=>rw[bC,bC,ih]
def pr_at{c d:Type}{F:c->d->Prop}{l:List c}{m:List d}(p:Paired F l m):∀{i:Nat}{a:c},l[i]? =some a->∃b,m[i]? =some b/\F a b:=by
 induction p with
 |nil=>intro i a h;cases h
 |cons h _ ih=>
  intro i a e;cases i with
  |zero=>cases e;exact⟨_,rfl,h⟩
  |succ i=>exact ih e
def vals_eq{g:Nat->V}(a:ws.length=n)(h:∀(i:Nat) v,ws[i]? =some v->v=g i):ws=(aH n).map g:=by
 apply gT
 intro i;cases e:ws[i]? with
 |none=>rw[av,bT (by rw[aR];have :=DV.mp e;lia)];rfl
 |some v=>have :=(aC.mp e).1;rw[av,bN (by lia),h i v e];rfl
end K83
namespace K83
open PySem R
abbrev wN:List Str:=["table"]
abbrev ou:List Str:=["table","found"]
abbrev oN:CB:=
  (.cons (.asg (.name 1) (.call "clash" (.cons (.var 0) .nil)))
  (.cons (.iff (.cmp .IsNot (.var 1) (.con .none)) .hole .nil)
  .nil))
end K83
namespace K83
open PySem PySem.Spec PyProof.Rows L2 R Cp Lt Lm K02 K82
theorem Aq{ps:List (List Int)}(nd:ps.Nodup):(_root_.Q.cB [] ps ps).Pairwise fun a b=>_root_.Q.llt a b=true:=by
 unfold _root_.Q.cB _root_.Q.wU;split
 ·rename_i h;rw[_root_.Q.range_getD]
  match ps,h with
  | [],_=>exact .nil
  | [x],_=>simp
  |_::_::_,h=>simp at h;lia
 ·rename_i h;obtain⟨P,U,_⟩:=_root_.Q.fk (_root_.Q.HD nd) (by lia:1<=ps.length);rw[da];intro i j hi f d;have g:j<ps.length:=by simpa[P.size]using f
  have u:=U i j d g;rw[bD,bD];have e:∀(k:Nat)(c:k<(_root_.Q.run (_root_.Q.ltL ps) (jz ps.length)).toList.length),(_root_.Q.run (_root_.Q.ltL ps) (jz ps.length)).toList[k]=_root_.Q.at' (_root_.Q.run (_root_.Q.ltL ps) (jz ps.length)) k:=fun k c=>by
   have l:k<(_root_.Q.run (_root_.Q.ltL ps) (jz ps.length)).size:=by simpa using c
   simp[_root_.Q.at',l]
  rw[e,e];exact u
def vK{ps:List (List Int)}(nd:ps.Nodup)(h:i∈_root_.Q.wU ps):i<ps.length:=aW.mp ((_root_.Q.lV nd).mem_iff.mp h)
def kj{a:Type}(d:a){ps:List (List Int)}{ys:List a}(nd:ps.Nodup)(b:ps.length=ys.length):(_root_.Q.cB d ps ys).Perm ys:=by unfold _root_.Q.cB;have h:=(_root_.Q.lV nd).map fun i=>ys.getD i d;rw[b,_root_.Q.range_getD]at h;exact h
def llt_no{a b:List Int}(h:_root_.Q.llt a b=true)(k:_root_.Q.llt b a=true):a=b:=by
 have c:=_root_.Q.tT h k;have :∀x:List Int,_root_.Q.llt x x=false:=fun x=>by
  induction x with
  |nil=>rfl
  |cons a x ih=>simp[_root_.Q.llt,ih]
 rw[this]at c;cases c
def HJ{a:Type}(d:a)(F:a->List Int){ys:List a}(nd:(ys.map F).Nodup):(_root_.Q.cB d (ys.map F) ys).map F=_root_.Q.cB [] (ys.map F) (ys.map F):=by unfold _root_.Q.cB;rw[bp];refine cG fun i hi=>?_;have :=vK nd hi;rw[ai]at this;show F (ys.getD i d)=_;rw[aa,aa,av,ae this];rfl
def pA{c:Type}(d:c)(F:c->List Int){ys zs:List c}(nd:(ys.map F).Nodup)(p:ys.Perm zs):_root_.Q.cB d (ys.map F) ys=_root_.Q.cB d (zs.map F) zs:=by
 have f:=(p.map F).nodup_iff.mp nd;have m:∀{ys:List c},(ys.map F).Nodup->(_root_.Q.cB d (ys.map F) ys).Pairwise fun a b=>_root_.Q.llt (F a) (F b)=true:=fun{ys} nd=>by have h:=Aq nd;rw[<-HJ d F nd]at h;exact de.mp h
 have g:=kj d (ys:=ys) nd (by simp);have l:=kj d (ys:=zs) f (by simp);refine List.Perm.eq_of_pairwise (fun a b n q h k=>?_) (m nd) (m f) (g.trans (p.trans l.symm));have e:=llt_no h k;have o:=g.mem_iff.mp n;have r:=p.mem_iff.mpr (l.mem_iff.mp q);obtain⟨i,hi,rfl⟩:=cL.mp o;obtain⟨j,s,rfl⟩:=cL.mp r;have :(ys.map F)[i]'(by simpa using hi)=(ys.map F)[j]'(by simpa using s):=by rw[bD,bD];exact e
 have :=(eQ nd).mp this;subst this;rfl
def Gf{c:Type}{F:V->c->Prop}{ps:List (List Int)}{ks:List c}{d:c}(nd:ps.Nodup)(k:ps.length=ys.length)(p:Paired F ys ks):Paired F (_root_.Q.cB .non ps ys) (_root_.Q.cB d ps ks):=by
 unfold _root_.Q.cB;have key:∀{a:List Nat},(∀i∈a,i<ys.length)->Paired F (a.map fun i=>ys.getD i .non) (a.map fun i=>ks.getD i d):=fun{a} h=>by
  induction a with
  |nil=>exact .nil
  |cons i a ih=>have hi:=h i aM;obtain⟨b,e,f⟩:=pr_at p (ae hi);refine .cons ?_ (ih fun j g=>h j (aK _ g));show F (ys.getD i .non) (ks.getD i d);rw[aa,aa,ae hi,e];exact f
 exact key fun i hi=>by rw[<-k];exact vK nd hi
def GrQ(rows:List (List Int))(n:Nat)(qs:List Int):Prop:=M5.Grs n (K32.grp rows) qs/\0∉qs/\∀p,p<n->K32.grp rows p≠0->(K32.grp rows p:Int)∈qs
def GrQ.perm{ps:List Int}(a:GrQ rows n qs)(b:GrQ rows n ps):qs.Perm ps:=by
 have s:∀{qs ps:List Int},GrQ rows n qs->GrQ rows n ps->∀x∈qs,x∈ps:=fun{qs ps} a b x c=>by obtain⟨p,hp,rfl⟩:=a.1.2 x c;exact b.2.2 p hp fun z=>a.2.1 (by rw[z]at c;exact c)
 exact K84.vI a.1.1 b.1.1 fun x=>⟨s a b x,s b a x⟩
abbrev nd1(k:List Int):L2.D:=.tup (k.map .int)
abbrev brF(rows:List (List Int))(n:Nat)(q:Int):List Int:=_root_.Q.kQ (M4.lo (M5.nA (K32.fr rows) n (K32.grp rows) q) (M5.nB (K32.fr rows) n (K32.grp rows) q),M4.hi (M5.nA (K32.fr rows) n (K32.grp rows) q) (M5.nB (K32.fr rows) n (K32.grp rows) q))
abbrev br1(rows:List (List Int))(n:Nat)(q:Int):L2.D:=.tup [nd1 (M4.lo (M5.nA (K32.fr rows) n (K32.grp rows) q) (M5.nB (K32.fr rows) n (K32.grp rows) q)),nd1 (M4.hi (M5.nA (K32.fr rows) n (K32.grp rows) q) (M5.nB (K32.fr rows) n (K32.grp rows) q)),nd1 (M5.plc n (M5.own (K32.grp rows) q.toNat))]
abbrev gD(rows:List (List Int))(n:Nat)(qs:List Int):L2.D:=
 .tup [.lst ((_root_.Q.cB [] (M5.fJ (K32.fr rows) n (K32.grp rows) qs) (M5.fJ (K32.fr rows) n (K32.grp rows) qs)).map nd1),.lst ((_root_.Q.cB 0 (qs.map (brF rows n)) qs).map (br1 rows n))]
abbrev qs0(rows:List (List Int))(n:Nat):List Int:=Classical.epsilon (GrQ rows n)
def F6{b:Type}{F:V->b->Prop}{g:b->L2.D}(f:∀v a,F v a->Rep K H (g a) v){ks:List b}(p:Paired F ys ks):eX K H (ks.map g) ys:=by
 induction p with
 |nil=>rfl
 |cons h _ ih=>exact⟨_,_,rfl,f _ _ h,ih⟩
def AA{k:List Int}(h:H a=some (.tup (k.map V.int))):Rep K H (nd1 k) (.ref a):=⟨a,_,rfl,SqT.of h,eX.ints k⟩
def IL{p:Addr}(hf:∀p,p<n->K32.fr rows p=0\/K32.fr rows p=1)(g:K32.uv rows n H H' p):Rep K H' (gD rows n (qs0 rows n)) (.ref p):=by
 obtain⟨B,bl,F,bs,b,u,_,_,_,f,w,A,k,bk,t,j⟩:=g;have q:GrQ rows n b:=⟨f,w,A⟩;have C:GrQ rows n (qs0 rows n):=BR (p:=GrQ rows n) ⟨b,q⟩;have m:=q.perm C;have l:=M5.w8 hf f;have i:=M5.Fs hf f;have c:(M5.brK (K32.fr rows) n (K32.grp rows) b).map _root_.Q.kQ=b.map (brF rows n):=by unfold M5.brK;rw[bp];rfl
 rw[c]at i j;have D:_root_.Q.cB [] (M5.fJ (K32.fr rows) n (K32.grp rows) b) (M5.fJ (K32.fr rows) n (K32.grp rows) b)=_root_.Q.cB [] (M5.fJ (K32.fr rows) n (K32.grp rows) (qs0 rows n)) (M5.fJ (K32.fr rows) n (K32.grp rows) (qs0 rows n)):=by
  have :=pA [] id (ys:=M5.fJ (K32.fr rows) n (K32.grp rows) b) (zs:=M5.fJ (K32.fr rows) n (K32.grp rows) (qs0 rows n)) (by rw[dQ];exact l) (.cons _ (m.map _))
  rwa [dQ,dQ]at this
 have E:=pA (0:Int) (brF rows n) i m;refine⟨p,_,rfl,SqT.of u,_,_,rfl,⟨B,_,rfl,SqL.of t,?_⟩,_,_,rfl,⟨bl,_,rfl,SqL.of j,?_⟩,rfl⟩;·rw[<-D];exact F6 (fun v a ⟨x,e,h⟩=>by subst e;exact AA h) (Gf l (gF k).symm k)
 ·rw[<-E];refine F6 (fun v G ⟨a,x,y,z,e,o,c,r,s⟩=>?_) (Gf (d:=(0:Int)) i (by rw[ai];exact(gF bk).symm) bk);subst e;exact⟨a,_,rfl,SqT.of o,_,_,rfl,AA c,_,_,rfl,AA r,_,_,rfl,AA s,rfl⟩
abbrev tD(n:Nat)(R:List K82.Row):L2.D:=if R=[]then .tup [.lst [],.lst []]else gD (K32.rI R) n (qs0 (K32.rI R) n)
def B3{R:List K82.Row}{p:Addr}(j:∀l∈R,l.2.length=n/\∀y∈l.2,cO y=true)(i:R≠[]->m=n)(t:K32.TreeK R m H H' p):Rep K H' (tD n R) (.ref p):=by
 unfold tD;rcases t with⟨h,a,b,e,_,_,_,c,d⟩ |⟨h,g⟩;·rw[if_pos h];exact⟨p,_,rfl,SqT.of e,_,_,rfl,⟨a,_,rfl,SqL.of c,rfl⟩,_,_,rfl,⟨b,_,rfl,SqL.of d,rfl⟩,rfl⟩
 ·rw[if_neg h];rw[i h]at g;refine IL (fun q hq=>?_) g;cases R with
  |nil=>exact absurd rfl h
  |cons l R=>obtain⟨k,f⟩:=j l aM;have :=M6.Ok.at (n:=(l.2.map K32.intOf).length) ⟨rfl,(K32.tX f).2⟩ q;exact this
section
variable {G:Gam}{C CS:Addr}{T:Tb}
def Kb(T:Tb):Sp:=fun vs H Q _=>∃x,vs=[x]/\Kn4 H x/\Tab T H/\dW H x=true/\K22.NoC (K22.rowsOf H x) (count H x)/\∀H',Gr T H H'->Q .non H'
def wp_ref(d:G.fn "clash" 1=some (K22.An C T,[])):Sat G K (Kb T) oN ou:=by
 rintro o H Q E ⟨x,rfl,f,tb,e,g,q⟩;unfold oN;change wpB G K _ _ _ [some x,none] H;ext;refine⟨_,_,d,x,rfl,f,tb,fun _ c v gr h=>?_,fun z=>by rw[e]at z;cases z⟩;rcases h with⟨rfl,n⟩ |⟨i,j,a,l,rfl,b,k,m⟩;·rw[if_neg (by simp)];exact q c gr
 ·have :=g i j b.ij b.jn;rw[b.four]at this;cases this
def mT(T:Tb):Sp:=fun vs H Q _=>∃x,vs=[x]/\Kn4 H x/\Tab T H/\dW H x=true/\K22.NoC (K22.rowsOf H x) (count H x)/\∀H' p,Gr T H H'->H p=none->K32.TreeK (K22.rowsOf H x) (count H x) H H' p->Q (.ref p) H'
def wp_tree(I:G.fn "table_list" 1=some (Aj C T,[]))(J:G.fn "refuse_clash" 1=some (Kb T,[]))(L:G.fn "grown" 1=some (K32.wB,[])):
  Sat G K (mT T) K32.MN K32.Lp:=by
 rintro W H Q E ⟨x,rfl,O,tb,e,r,i⟩;unfold K32.MN;change wpB G K _ _ _ [some x,none] H;ext;refine⟨_,_,I,x,rfl,O,tb,fun _ U l j gr V m F=>?_,fun z=>by rw[e]at z;cases z⟩;obtain⟨P,w,k,s⟩:=K22.xQ e m F;obtain⟨A,_⟩:=K32.B8 e m s w;have c:=K32.cps_of m w;rw[k,s]at c;have q:j.length=(K22.rowsOf H x).length:=by rw[<-s,ai]
 have v:=gr.tab tb;generalize K22.rowsOf H x=R at i r A c q;generalize count H x=n at i r k c;unfold K32.DD;ext;refine⟨_,_,J,.ref l,rfl,P,v,w,by rw[A,k];exact r,fun B f=>?_⟩;have c:=c.gr f v;have S:=f.tab v;have d:∀p,B p=none->H p=none:=fun p=>K32.GN (gr.trans f) S;unfold K32.DC;ext;refine Or.inl ⟨l,j,rfl,.inl (SqL.of c.ec),?_⟩;refine ll.mpr ⟨_,rfl,?_⟩;by_cases hz:j=[];·have N:R=[]:=aY.mp (by rw[<-q,hz];rfl);rw[hz,if_pos (by simp)];refine⟨short (by simp),fun a y=>⟨short (by simp),fun b h=>⟨short (by simp),fun p hp=>?_⟩⟩⟩;have t:=aB (o:=.lst []) y;have u:=aB (o:=.lst []) h;have g:=aB (o:=.tup [.ref a,.ref b]) hp;refine i _ p ((gr.trans f).trans (Gr.of (t.trans (u.trans g)))) (d _ ((t.trans u).free hp)) (.inl ⟨N,a,b,au,d _ y,d _ (t.free h),fun z=>?_,(u.trans g) _ _ au,g _ _ au⟩);rw[<-z,au]at h;cases h
 ·rw[if_neg (fun z=>hz (aY.mp (by have :=of_decide_eq_true z;lia)))];unfold K32.DB;ext;refine⟨_,_,L,l,j,n,K32.rI R,rfl,c,hz,fun D p g hp M=>?_⟩;exact i D p ((gr.trans f).trans (Gr.of g)) (d _ hp) (.inr ⟨fun z=>hz (aY.mp (by rw[q,z];rfl)),M.old d⟩)
end
end K83
namespace M8
open K32 M7 K83
def ex_grq(rows:List (List Int))(n:Nat):∃qs,GrQ rows n qs:=by
 induction n with
 |zero=>exact⟨[],⟨jq,fun _ h=>by cases h⟩,by simp,fun p hp=>by lia⟩
 |succ n ih=>
  obtain⟨qs,⟨nd,f⟩,g,i⟩:=ih;by_cases c:grp rows n=0\/(grp rows n:Int)∈qs
  ·refine⟨qs,⟨nd,fun q hq=>let⟨p,hp,e⟩:=f q hq;⟨p,by lia,e⟩⟩,g,fun p hp d=>?_⟩;by_cases e:p=n
   ·rw[e]at d⊢;rcases c with c|c;·exact absurd c d
    ·exact c
   ·exact i p (by lia) d
  ·rw[not_or]at c;refine⟨qs++[(grp rows n:Int)],⟨eG.mpr ⟨nd,by simp,fun a j b k e=>c.2 (by rw[aT.mp k]at e;rw[<-e];exact j)⟩,fun q hq=>?_⟩,fun z=>?_,fun p hp d=>?_⟩
   ·rcases cX.mp hq with hq|hq;·obtain⟨p,hp,e⟩:=f q hq;exact⟨p,by lia,e⟩
    ·exact⟨n,by lia,aT.mp hq⟩
   ·rcases cX.mp z with z|z;·exact g z
    ·have :=aT.mp z;lia
   ·by_cases e:p=n;·rw[e];simp
    ·exact bZ _ (i p (by lia) d)
def qR(rows:List (List Int))(n:Nat):GrQ rows n (qs0 rows n):=BR (ex_grq rows n)
abbrev nds(rows:List (List Int))(n:Nat):List (List Int):=M5.fJ (fr rows) n (grp rows) (qs0 rows n)
noncomputable abbrev Tri:=List Int×List Int×List Int
abbrev tri(rows:List (List Int))(n p:Nat):Tri:=(M4.lo (hJ rows n p) (below rows n p),M4.hi (hJ rows n p) (below rows n p),M5.plc n (M5.own (grp rows) (grp rows p)))
abbrev triQ(rows:List (List Int))(n:Nat)(q:Int):Tri:=(M4.lo (M5.nA (fr rows) n (grp rows) q) (M5.nB (fr rows) n (grp rows) q),M4.hi (M5.nA (fr rows) n (grp rows) q) (M5.nB (fr rows) n (grp rows) q),M5.plc n (M5.own (grp rows) q.toNat))
theorem FP(rows:List (List Int))(n p:Nat):triQ rows n (grp rows p:Int)=tri rows n p:=rfl
abbrev trs(rows:List (List Int))(n:Nat):List Tri:=(qs0 rows n).map (triQ rows n)
abbrev key(x:Tri):List Int:=_root_.Q.kQ (x.1,x.2.1)
abbrev triD(x:Tri):L2.D:=.tup [nd1 x.1,nd1 x.2.1,nd1 x.2.2]
abbrev nW(xs:List (List Int)):List (List Int):=_root_.Q.cB [] xs xs
abbrev wz(xs:List Tri):List Tri:=_root_.Q.cB ([],[],[]) (xs.map key) xs
def yy{a b:Type}(d:a)(e:b)(g:a->b){ps:List (List Int)}{ys:List a}(nd:ps.Nodup)(c:ps.length=ys.length):(_root_.Q.cB d ps ys).map g=_root_.Q.cB e ps (ys.map g):=by unfold _root_.Q.cB;rw[bp];refine cG fun i hi=>?_;have :=vK nd hi;show g (ys.getD i d)=_;rw[aa,aa,av,ae (by lia)];rfl
section
variable {rows2:List (List Int)}
def fU(t:Tbl rows n):v∈nds rows n↔Fits rows n v:=by
 have q:=qR rows n;unfold nds M5.fJ;rw[aI];constructor
 ·rintro(rfl|h);·exact xH t
  ·obtain⟨x,a,rfl⟩:=az.mp h;obtain⟨p,hp,rfl⟩:=q.1.2 x a;exact qY t (p:=p) fun z=>q.2.1 (by rw[z]at a;exact a)
 ·intro h;rcases Gi t h with h|⟨p,hp,b,h⟩;·exact .inl h
  ·exact .inr (az.mpr ⟨_,q.2.2 p hp b,h.symm⟩)
def k7(t:Tbl rows n){x:Tri}:x∈trs rows n↔∃p,p<n/\grp rows p≠0/\x=tri rows n p:=by
 have q:=qR rows n;unfold trs;rw[az];constructor;·rintro⟨y,a,rfl⟩;obtain⟨p,hp,rfl⟩:=q.1.2 y a;exact⟨p,hp,fun z=>q.2.1 (by rw[z]at a;exact a),rfl⟩
 ·rintro⟨p,hp,b,rfl⟩;exact⟨_,q.2.2 p hp b,rfl⟩
def kq(t:Tbl rows n):(nds rows n).Nodup:=M5.w8 (fun p _=>t.f01 p) (qR rows n).1
def qP(t:Tbl rows n):((trs rows n).map key).Nodup:=by have :=M5.Fs (fun p _=>t.f01 p) (qR rows n).1;unfold M5.brK at this;rw[bp]at this;unfold trs;rw[bp];exact this
def gD_is(t:Tbl rows n):gD rows n (qs0 rows n)=.tup [.lst ((nW (nds rows n)).map nd1),.lst ((wz (trs rows n)).map triD)]:=by
 unfold gD wz;have nd:=qP t;have e:(trs rows n).map key=(qs0 rows n).map (brF rows n):=by unfold trs;rw[bp];rfl
 rw[e]at nd⊢;have :=yy (0:Int) (([],[],[]):Tri) (triQ rows n) (ys:=qs0 rows n) nd (by simp);unfold trs;rw[<-this,bp];rfl
structure Iso(rows rows2:List (List Int))(n:Nat)(φ:List Int->List Int)(o oi:Nat->Nat):Prop where
 t:Tbl rows n
 t2:Tbl rows2 n
 lt:∀j,j<n->o j<n
 lti:∀p,p<n->oi p<n
 l1:∀j,j<n->oi (o j)=j
 l2:∀p,p<n->o (oi p)=p
 fit:∀v,Fits rows n v->Fits rows2 n (φ v)
 tif:∀w,Fits rows2 n w->∃v,Fits rows n v/\w=φ v
 inj:∀u v,M6.Ok n u->M6.Ok n v->φ u=φ v->u=v
 ed:∀j v,j<n->End rows n (o j) v->End rows2 n j (φ v)
 cls:∀i j,i<n->j<n->(Cls rows2 i j↔Cls rows (o i) (o j))
 nz:∀j,j<n->(grp rows2 j≠0↔grp rows (o j)≠0)
abbrev psi(n:Nat)(φ:List Int->List Int)(o:Nat->Nat)(x:Tri):Tri:=(M4.lo (φ x.1) (φ x.2.1),M4.hi (φ x.1) (φ x.2.1),M5.plc n fun i=>decide ((o i:Int)∈x.2.2))
variable {φ:List Int->List Int}{o oi:Nat->Nat}
def Iso.nodes(I:Iso rows rows2 n φ o oi):((nds rows n).map φ).Perm (nds rows2 n):=by
 refine K84.vI ?_ (kq I.t2) fun w=>?_;·refine de.mpr ?_;have nd:(nds rows n).Pairwise (fun a b=>a≠b):=kq I.t;refine(mM.mp nd).imp ?_;rintro a b ⟨d,g,f⟩ e;exact f (I.inj a b ((fU I.t).mp d).1 ((fU I.t).mp g).1 e)
 ·rw[fU I.t2,az];constructor;·rintro⟨v,c,rfl⟩;exact I.fit v ((fU I.t).mp c)
  ·intro h;obtain⟨v,c,rfl⟩:=I.tif w h;exact⟨v,(fU I.t).mpr c,rfl⟩
def Lx{P:Nat->Bool}{x:Int}(h:x∈M5.plc n P):∃i,i<n/\P i=true/\x=(i:Int):=by obtain⟨i,hi,rfl⟩:=az.mp h;have :=bw.mp hi;exact⟨i,aW.mp this.1,this.2,rfl⟩
def zh{P a:Nat->Bool}(h:∀i,i<n->P i=a i):M5.plc n P=M5.plc n a:=by unfold M5.plc;rw[nq fun i hi=>h i (aW.mp hi)]
theorem Iso.tri(I:Iso rows rows2 n φ o oi)(f:j<n)(hz:grp rows (o j)≠0):M8.tri rows2 n j=psi n φ o (M8.tri rows n (o j)):=by
 have hp:=I.lt j f;have h:=(I.nz j f).mpr hz;have a:=oJ I.t hp hz;have b:=j9 I.t hp hz;have ne:=sC I.t (rows:=rows) hp;have g:φ (hJ rows n (o j))≠φ (below rows n (o j)):=fun e=>ne (I.inj _ _ a.ok b.ok e);have c:=Ms I.t2 f h (I.ed j _ f a) (I.ed j _ f b) g;have d:M4.lo (φ (M4.lo (hJ rows n (o j)) (below rows n (o j)))) (φ (M4.hi (hJ rows n (o j)) (below rows n (o j))))=M4.lo (φ (hJ rows n (o j))) (φ (below rows n (o j)))/\M4.hi (φ (M4.lo (hJ rows n (o j)) (below rows n (o j)))) (φ (M4.hi (hJ rows n (o j)) (below rows n (o j))))=M4.hi (φ (hJ rows n (o j))) (φ (below rows n (o j))):=by
  unfold M4.lo M4.hi;rw[_root_.Q.jk ne];cases _root_.Q.llt (below rows n (o j)) (hJ rows n (o j))with
  |false=>exact⟨rfl,rfl⟩
  |true=>exact⟨GC (bI g),GL (bI g)⟩
 unfold psi M8.tri;refine Prod.ext (c.1.trans d.1.symm) (Prod.ext (c.2.trans d.2.symm) (zh fun i hi=>?_));rw[cw,decide_eq_true_eq,M5.la (I.lt i hi)];unfold M5.own;rw[decide_eq_true_eq,decide_eq_true_eq,I.t2.cls,I.t.cls];exact I.cls i j hi f
def Iso.tris(I:Iso rows rows2 n φ o oi):((trs rows n).map (psi n φ o)).Perm (trs rows2 n):=by
 have E:(trs rows2 n).Nodup:=by have :=qP I.t2;exact(de.mp this).imp fun h e=>h (by rw[e])
 refine K84.vI ?_ E fun x=>?_
 ·unfold trs;rw[bp];refine de.mpr ?_;have q:=qR rows n;have nd:(qs0 rows n).Pairwise (fun a b=>a≠b):=q.1.1;refine(mM.mp nd).imp ?_;rintro a b ⟨l,m,B⟩ e;obtain⟨p,hp,rfl⟩:=q.1.2 a l;obtain⟨d,i,rfl⟩:=q.1.2 b m;have F:grp rows p≠0:=fun z=>q.2.1 (by rw[z]at l;exact l);have G:grp rows d≠0:=fun z=>q.2.1 (by rw[z]at m;exact m);have e:psi n φ o (M8.tri rows n p)=psi n φ o (M8.tri rows n d):=e;have g:=I.lti p hp;have s:=I.lti d i;have v:=I.tri g (by rw[I.l2 p hp];exact F);have w:=I.tri s (by rw[I.l2 d i];exact G);rw[I.l2 p hp]at v;rw[I.l2 d i]at w;have t:M8.tri rows2 n (oi p)=M8.tri rows2 n (oi d):=by rw[v,w,e]
  have A:grp rows2 (oi p)=grp rows2 (oi d):=by
   apply aJ
   intro C;have :=M4.zT (f:=fr rows2) (n:=n) (grp:=grp rows2) (fun p _=>I.t2.f01 p) g s C;apply this;show M4.lo (hJ rows2 n (oi p)) (below rows2 n (oi p))++M4.hi (hJ rows2 n (oi p)) (below rows2 n (oi p))=M4.lo (hJ rows2 n (oi d)) (below rows2 n (oi d))++M4.hi (hJ rows2 n (oi d)) (below rows2 n (oi d));rw[show M4.lo (hJ rows2 n (oi p)) (below rows2 n (oi p))=M4.lo (hJ rows2 n (oi d)) (below rows2 n (oi d))from congrArg Prod.fst t,show M4.hi (hJ rows2 n (oi p)) (below rows2 n (oi p))=M4.hi (hJ rows2 n (oi d)) (below rows2 n (oi d))from congrArg (fun x:Tri=>x.2.1) t]
  have c:=(I.cls _ _ g s).mp (I.t2.cls.mp A);rw[I.l2 p hp,I.l2 d i]at c;exact B (by rw[I.t.cls.mpr c])
 ·rw[k7 I.t2,az];constructor;·rintro⟨y,D,rfl⟩;obtain⟨p,hp,k,rfl⟩:=(k7 I.t).mp D;have g:=I.lti p hp;refine⟨oi p,g,(I.nz _ g).mpr (by rw[I.l2 p hp];exact k),?_⟩;rw[I.tri g (by rw[I.l2 p hp];exact k),I.l2 p hp]
  ·rintro⟨j,r,k,rfl⟩;have u:=(I.nz j r).mp k;exact⟨_,(k7 I.t).mpr ⟨o j,I.lt j r,u,rfl⟩,(I.tri r u).symm⟩
end
end M8
namespace M9
open K32 M7 M8
section
variable {rows2:List (List Int)}
def rL(t:Tbl rows n):grp rows p≠0↔∃r∈rows,∃s∈rows,r.getD p 0≠s.getD p 0:=by
 rw[gnz];constructor;·rintro⟨r,a,h⟩;exact⟨r,a,_,t.first,lK.mp h⟩
 ·rintro⟨r,a,s,b,h⟩;by_cases e:r.getD p 0=fr rows p;·exact⟨s,b,lK.mpr fun z=>h (e.trans z.symm)⟩
  ·exact⟨r,a,lK.mpr e⟩
def LX(t:Tbl rows n)(t2:Tbl rows2 n)(h:∀r,r∈rows↔r∈rows2):Iso rows rows2 n id id id where
 t:=t
 t2:=t2
 lt:=fun _ h=>h
 lti:=fun _ h=>h
 l1:=fun _ _=>rfl
 l2:=fun _ _=>rfl
 fit:=fun v f=>f.sub fun r a=>(h r).mp a
 tif:=fun w f=>⟨w,f.sub fun r a=>(h r).mpr a,rfl⟩
 inj:=fun _ _ _ _ e=>e
 ed:=fun j v d e=>⟨e.ok,fun q hq c=>by
  obtain⟨r,a,x⟩:=e.own q hq fun r a s b=>c r ((h r).mp a) s ((h s).mp b);exact⟨r,(h r).mp a,x⟩,fun q hq c=>by
  obtain⟨r,a,s,b,x⟩:=e.off q hq fun z=>c fun r a s b=>z r ((h r).mpr a) s ((h s).mpr b);exact⟨r,(h r).mp a,s,(h s).mp b,x⟩⟩
 cls:=fun i j _ _=>⟨fun c r a s b=>c r ((h r).mp a) s ((h s).mp b),fun c r a s b=>c r ((h r).mpr a) s ((h s).mpr b)⟩
 nz:=fun j _=>by rw[rL t,rL t2];exact⟨fun⟨r,a,s,b,x⟩=>⟨r,(h r).mpr a,s,(h s).mpr b,x⟩,fun⟨r,a,s,b,x⟩=>⟨r,(h r).mp a,s,(h s).mp b,x⟩⟩
end
end M9
namespace M9
open K32 K83 M7 M8 L2
abbrev trD(rows:List (List Int))(n:Nat):L2.D:=.tup [.lst ((nW (nds rows n)).map nd1),.lst ((wz (trs rows n)).map triD)]
def yX{xs ys:List (List Int)}(nd:xs.Nodup)(p:xs.Perm ys):nW xs=nW ys:=by
 have :=pA [] id (ys:=xs) (zs:=ys) (by rw[dQ];exact nd) p
 rwa [dQ,dQ]at this
def HG{xs ys:List Tri}(nd:(xs.map key).Nodup)(p:xs.Perm ys):wz xs=wz ys:=pA _ key nd p
def lT{xs:List (List Int)}(nd:xs.Nodup):(nW xs).Perm xs:=kj [] nd rfl
def rN{xs:List Tri}(nd:(xs.map key).Nodup):(wz xs).Perm xs:=kj _ nd (by simp)
def lo_lo{a b:List Int}:M4.lo (M4.lo a b) (M4.hi a b)=M4.lo a b/\M4.hi (M4.lo a b) (M4.hi a b)=M4.hi a b:=by
 by_cases h:a=b;·subst h;unfold M4.lo M4.hi;split <;>simp_all
 ·have t:=_root_.Q.jk h;cases c:_root_.Q.llt b a with
  |true=>rw[c]at t;have d:M4.lo a b=b:=if_pos c;have e:M4.hi a b=a:=if_neg (by rw[t];decide);rw[d,e];exact⟨if_neg (by rw[t];decide),if_pos c⟩
  |false=>rw[c]at t;have d:M4.lo a b=a:=if_neg (by rw[c];decide);have e:M4.hi a b=b:=if_pos t;rw[d,e];exact⟨d,e⟩
def psi_id{a b:List Int}{P:Nat->Bool}:psi n id id (M4.lo a b,M4.hi a b,M5.plc n P)=(M4.lo a b,M4.hi a b,M5.plc n P):=by
 unfold psi;dsimp only[id];rw[lo_lo.1,lo_lo.2];refine Prod.ext rfl (Prod.ext rfl ?_);refine zh fun i hi=>?_;rw[cw,decide_eq_true_eq];constructor;·intro h;obtain⟨j,_,c,e⟩:=Lx h;rw[show i=j by lia];exact c
 ·intro h;unfold M5.plc;exact az.mpr ⟨i,bw.mpr ⟨aW.mpr hi,h⟩,rfl⟩
def JX{a:List (List Int)}(t:Tbl rows n)(d:Tbl a n)(h:∀r,r∈rows↔r∈a):trD rows n=trD a n:=by
 have I:=LX t d h;have b:=I.nodes;rw[dQ]at b;have pt:=I.tris;have e:(trs rows n).map (psi n id id)=trs rows n:=by
  conv =>rhs;rw[<-dQ (trs rows n)]
  refine cG fun x c=>?_;obtain⟨p,_,_,rfl⟩:=(k7 t).mp c;exact psi_id
 rw[e]at pt;unfold trD;rw[yX (kq t) b,HG (qP t) pt]
def vN(rows:List (List Int))(n:Nat):(nds rows n).length<=n+1:=by have :=M5.vR (qR rows n).1;unfold nds M5.fJ;simp;lia
def trs_len(rows:List (List Int))(n:Nat):(trs rows n).length<=n:=by have :=M5.vR (qR rows n).1;unfold trs;simp;lia
end M9
namespace K34
open PySem PySem.Spec PyProof.Rows L2 R Cp Lt Kc K21 K22 Lm M5 K32 K24
structure Tn(H:Hp)(t:Addr)(nf:Nat->Str)(n:Nat)(ys:List V)(rows:List (List Int)):Prop where
 et:H t=some (.lst ys)
 ln:rows.length=ys.length
 row:∀(i:Nat) y,ys[i]? =some y->∃b r,y=.ref b/\H b=some (.tup [.str (nf i),.ref r])/\H r=some (.tup ((rows.getD i []).map V.int))
 ok:∀i,iB (nf i)=true
 inj:∀i j,i<ys.length->j<ys.length->nf i=nf j->i=j
 len:ys.length<=40
 n10:n<=60
 rd:∀r∈rows,M6.Ok n r
 mis:∀i j,i<j->j<n->M6.Mis rows i j
section
variable {t:Addr}{nf:Nat->Str}{T:Tb}
def Tn.get(d:Tn H t nf n ys rows)(h:i<ys.length):rows.getD i []∈rows:=by rw[aa,ae (by rw[d.ln];exact h)];exact a9 _
def Tn.gr(d:Tn H t nf n ys rows)(g:Gr T H H')(a:Tab T H):Tn H' t nf n ys rows:=
 {d with et:=g.lst a d.et,row:=fun i y e=>let⟨b,r,h1,h2,h3⟩:=d.row i y e;⟨b,r,h1,g.mR a h2,g.mR a h3⟩}
def Tn.same(d:Tn H t nf n ys rows)(s:aQ H H'):Tn H' t nf n ys rows:=
 {d with et:=s _ _ d.et,row:=fun i y e=>let⟨b,r,h1,h2,h3⟩:=d.row i y e;⟨b,r,h1,s _ _ h2,s _ _ h3⟩}
def Tn.dr(d:Tn H t nf n ys rows):Dr H nf n ys:=fun i y e=>by obtain⟨b,r,a,c,f⟩:=d.row i y e;have o:=d.rd _ (d.get (aC.mp e).1);refine⟨b,r,_,a,c,f,by rw[ai];exact o.1,fun z h=>?_⟩;obtain⟨x,g,rfl⟩:=az.mp h;rcases o.2 x g with rfl|rfl<;>rfl
def Tn.tab(d:Tn H t nf n ys rows):Kn4 H (.ref t)/\dW H (.ref t)=true/\(∀y∈ys,dB H y=true)/\∀y∈ys,cF H y=n:=
 xO d.ok d.inj d.et d.dr (by have :=d.len;lia) (by have :=d.n10;lia)
theorem Tn.count(d:Tn H t nf n ys rows)(h:ys≠[]):Cp.count H (.ref t)=n:=by
 show(match eO (H t)with |some (y::_)=>cF H y|_=>0)=n;rw[d.et];cases ys with
 |nil=>exact absurd rfl h
 |cons y r=>exact d.tab.2.2.2 y (.head _)
def Tn.perm(d:Tn H t nf n ys rows):(rowsOf H (.ref t)).Perm (ys.map (cd H)):=by
 have nd:(ys.map (a6 H)).Nodup:=by obtain⟨a,i,e,b,f,g,c,h⟩:=eV d.tab.2.1;cases e;rw[show eO (H t)=some ys by rw[d.et];rfl]at b;cases b;exact c
 unfold rowsOf;rw[vE (show eO (H t)=some ys by rw[d.et];rfl)];exact(_root_.Q.gE V.non nd (by simp)).map (cd H)
def Tn.cds(d:Tn H t nf n ys rows)(x:Str×List V):x∈ys.map (cd H)↔∃i,i<ys.length/\x=(nf i,(rows.getD i []).map V.int):=by
 constructor;·intro h;obtain⟨y,g,rfl⟩:=az.mp h;obtain⟨i,e⟩:=bS.mp g;obtain⟨b,r,rfl,a,c⟩:=d.row i y e;exact⟨i,(aC.mp e).1,EA a c⟩
 ·rintro⟨i,hi,rfl⟩;have e:=ae hi;obtain⟨b,r,f,a,c⟩:=d.row i _ e;refine az.mpr ⟨ys[i],a9 hi,?_⟩;rw[f];exact EA a c
def C3(z:List Int):(z.map V.int).map intOf=z:=by
 rw[bp]
 conv =>rhs;rw[<-dQ z]
 rfl
def Tn.mem(d:Tn H t nf n ys rows)(r:List Int):r∈K32.rI (rowsOf H (.ref t))↔r∈rows:=by
 unfold K32.rI;rw[(d.perm.map _).mem_iff];constructor;·intro h;obtain⟨x,a,rfl⟩:=az.mp h;obtain⟨i,hi,rfl⟩:=(d.cds x).mp a;rw[C3];exact d.get hi
 ·intro h;obtain⟨i,hi,rfl⟩:=cL.mp h;refine az.mpr ⟨(nf i,(rows.getD i []).map V.int),(d.cds _).mpr ⟨i,by rw[<-d.ln];exact hi,rfl⟩,?_⟩;rw[C3,aa,ae hi];rfl
def Tn.tbl(d:Tn H t nf n ys rows)(h:ys≠[]):M7.Tbl rows n:=⟨d.rd,fun z=>h (aY.mp (by rw[<-d.ln,z];rfl)),d.mis⟩
def Gk{r:Str×List V}{z:List Int}(e:r.2=z.map V.int)(i:Nat)(h:i<z.length):Im i r=z.getD i 0:=by unfold Im;rw[e,aN,aa,av,aa,ae h];rfl
def Tn.noc(d:Tn H t nf n ys rows):NoC (rowsOf H (.ref t)) (Cp.count H (.ref t)):=fun a b j h=>by
 rw[gU];intro z;rw[K24.xF]at z;have mem:∀r∈rowsOf H (.ref t),∃q∈rows,r.2=q.map V.int:=fun r c=>by obtain⟨i,hi,rfl⟩:=(d.cds r).mp (d.perm.mem_iff.mp c);exact⟨_,d.get hi,rfl⟩
 have p:ys≠[]:=fun e=>by obtain⟨r,c,_⟩:=z 0 0 (.inl rfl) (.inl rfl);obtain⟨q,hq,_⟩:=mem r c;have :=d.ln;rw[e]at this;rw[aY.mp this]at hq;cases hq
 rw[d.count p]at h;obtain⟨u,v,l,m,k⟩:=d.mis a b j h;obtain⟨r,c,f,g⟩:=z u v l m;obtain⟨q,hq,e⟩:=mem r c;have o:=d.rd q hq;rw[Gk e a (by rw[o.1];lia)]at f;rw[Gk e b (by rw[o.1];lia)]at g;exact k q hq ⟨f,g⟩
def JW{Q:VK}{E:XS}(d:Tn H t nf n ys rows)(tb:Tab T H)(q:∀H' p,Gr T H H'->(∃xs,H' p=some (.tup xs))->Rep K H' (if ys=[]then .tup [.lst [],.lst []]else M9.trD rows n) (.ref p)->Q (.ref p) H')(s:L2.St):K83.mT T [.ref t] H Q (E s):=by
 refine⟨_,rfl,d.tab.1,tb,d.tab.2.1,d.noc,fun H' p gr w tk=>q H' p gr (by
  rcases tk with⟨_,a,b,g,_⟩ |⟨_,B,bl,A,bs,C,g,_⟩;·exact⟨_,g⟩
  ·exact⟨_,g⟩) ?_⟩
 have e:rowsOf H (.ref t)=[]↔ys=[]:=by have :=d.perm.length_eq;rw[ai]at this;rw[<-aY,this,aY]
 by_cases c:ys=[]
 ·rw[if_pos c];have :=K83.B3 (K:=K) (n:=0) (fun l f=>by rw[e.mpr c]at f;cases f) (fun h=>absurd (e.mpr c) h) tk;unfold K83.tD at this
  rwa [if_pos (e.mpr c)]at this
 ·rw[if_neg c];have m:=d.tbl c;have u:M7.Tbl (K32.rI (rowsOf H (.ref t))) n:=⟨fun r k=>m.ok r ((d.mem r).mp k),fun z=>?_,fun i j a b=>(m.mis i j a b).sub fun r k=>(d.mem r).mp k⟩
  ·have :=K83.B3 (K:=K) (n:=n) (fun l f=>?_) (fun _=>d.count c) tk;·unfold K83.tD at this;rw[if_neg (fun z=>c (e.mp z)),M8.gD_is u]at this;rw[<-M9.JX u m d.mem];exact this
   ·obtain⟨i,hi,rfl⟩:=(d.cds l).mp (d.perm.mem_iff.mp f);have o:=d.rd _ (d.get hi);refine⟨by rw[ai];exact o.1,fun y c=>?_⟩;obtain⟨x,v,rfl⟩:=az.mp c;rcases o.2 x v with rfl|rfl<;>rfl
  ·unfold K32.rI at z;exact c (e.mp (List.map_eq_nil_iff.mp z))
end
end K34
namespace K34
open PySem PySem.Spec PyProof.Rows L2 R Cp Lt Kc K21 K22 Lm M5 K32
theorem pr_mk{c d:Type}{F:c->d->Prop}:∀{l:List c}{m:List d},l.length=m.length->(∀(j:Nat) a b,l[j]? =some a->m[j]? =some b->F a b)->Paired F l m
 | [],[],_,_=>.nil
 |a::l,b::m,h,f=>.cons (f 0 a b rfl rfl) (pr_mk (i7 h) fun j x y e g=>f (j+1) x y (by simpa using e) (by simpa using g))
theorem zg:∀{ks:List Int}{ys:List V},eX K H (ks.map L2.D.int) ys->ys=ks.map V.int
 | [],ys,h=>h
 |k::ks,ys,h=>by obtain⟨x,r,rfl,a,b⟩:=h;obtain rfl:x=.int k:=a;rw[zg b];rfl
def AZ{k:List Int}{v:V}(h:Rep K H (K83.nd1 k) v):∃a,v=.ref a/\SqT K H a (k.map V.int):=by obtain⟨a,c,rfl,hq,b⟩:=h;rw[zg b]at hq;exact⟨a,rfl,hq⟩
end K34
namespace K75
open PySem R
abbrev AN:List Str:=["thing","count"]
abbrev sf:List Str:=["thing","count"]
abbrev oZ:CB:=
  (.cons (.ret (.call "is_reading" (.cons (.idx (.var 0) (.con (.int 1))) .nil)))
  .nil)
abbrev o4:CB:=
  (.cons (.iff (.or (.not (.call "is_whole" (.cons (.idx (.var 0) (.con (.int 0))) .nil))) (.not (.chain .LtE .Lt (.con (.int 0)) (.idx (.var 0) (.con (.int 0))) (.var 1))))
  (.cons (.ret (.con (.bool false)))
  .nil)
  .nil)
  oZ)
abbrev sS:CB:=
  (.cons (.iff (.or (.not (.bfn .isinstance (.cons (.var 0) (.cons (.ty .tuple) .nil)))) (.cmp .NotEq (.bfn .len (.cons (.var 0) .nil)) (.con (.int 2))))
  (.cons (.ret (.con (.bool false)))
  .nil)
  .nil)
  o4)
abbrev wQ:List Str:=["thing","count"]
abbrev oz:List Str:=["thing","count"]
abbrev mI:CB:=
  (.cons (.ret (.cmp .Eq (.bfn .len (.cons (.bfn .set (.cons (.comp ["place","elder"] [] (.tup (.cons (.name 0) (.cons (.name 1) .nil))) (.seq (.var 0)) .no (.var 0)) .nil)) .nil)) (.bfn .len (.cons (.var 0) .nil))))
  .nil)
abbrev mJ:CB:=
  (.cons (.iff (.not (.bfn .all (.cons (.comp ["part"] [1] (.name 0) (.seq (.var 0)) .no (.call "is_telling" (.cons (.var 0) (.cons (.var 1) .nil)))) .nil)))
  (.cons (.ret (.con (.bool false)))
  .nil)
  .nil)
  mI)
abbrev pf:CB:=
  (.cons (.iff (.not (.bfn .isinstance (.cons (.var 0) (.cons (.ty .list) .nil))))
  (.cons (.ret (.con (.bool false)))
  .nil)
  .nil)
  mJ)
abbrev vj:List Str:=["table","tellings"]
abbrev ny:List Str:=["table","tellings","count"]
abbrev lq:CB:=
  (.cons (.iff (.not (.call "are_tellings" (.cons (.var 1) (.cons (.var 2) .nil))))
  .hole
  .nil)
  .nil)
abbrev lr:CB:=
  (.cons (.iff (.cmp .Eq (.bfn .len (.cons (.var 0) .nil)) (.con (.int 0)))
  .hole
  .nil)
  lq)
abbrev nG:CB:=
  (.cons (.asg (.name 2) (.call "place_count" (.cons (.var 0) .nil)))
  lr)
abbrev Cj:List Str:=["nodes","tellings"]
abbrev uH:List Str:=["nodes","tellings"]
abbrev uU:CB:=
  (.cons (.ret (.comp ["node"] [1] (.name 0) (.seq (.var 0)) (.yes (.bfn .all (.cons (.comp ["place","elder"] [0] (.tup (.cons (.name 0) (.cons (.name 1) .nil))) (.seq (.var 1)) .no (.cmp .Eq (.idx (.var 2) (.var 0)) (.var 1))) .nil))) (.var 0)))
  .nil)
abbrev tQ:List Str:=["branches","nodes","tellings"]
abbrev lW:List Str:=["branches","nodes","tellings","told","found","one","other","places"]
abbrev kB:CB:=
  (.cons (.ret (.var 4))
  .nil)
abbrev kC:CB:=
  (.cons (.forr (.tup (.cons (.name 5) (.cons (.name 6) (.cons (.name 7) .nil)))) (.seq (.var 0))
  (.cons (.iff (.or (.cmp .In (.var 5) (.var 1)) (.cmp .In (.var 6) (.var 1)))
  (.cons (.expr (.meth1 .extend (.var 4) (.comp ["place"] [3] (.name 0) (.seq (.var 7)) (.yes (.cmp .NotIn (.var 0) (.var 1))) (.var 0))))
  .nil)
  .nil)
  .nil))
  kB)
abbrev kD:CB:=
  (.cons (.asg (.name 4) (.lst .nil))
  kC)
abbrev mf:CB:=
  (.cons (.asgc 3 (.comp ["place","elder"] [] (.tup (.cons (.name 0) (.cons (.name 1) .nil))) (.seq (.var 2)) .no (.var 0)))
  kD)
abbrev AQ:List Str:=["table","tellings"]
abbrev jP:List Str:=["table","tellings","whole","nodes","unknown"]
abbrev o9:CB:=
  (.cons (.ret (.bfn .tuple (.cons (.comp ["place","reading"] [4] (.tup (.cons (.name 0) (.cons (.name 1) .nil))) (.enumt (.idx (.var 3) (.con (.int 0)))) .no (.ite (.cmp .In (.var 0) (.var 2)) (.con .none) (.var 1))) .nil)))
  .nil)
abbrev pd:CB:=
  (.cons (.asg (.name 4) (.call "unknown_places" (.cons (.idx (.var 2) (.con (.int 1))) (.cons (.var 3) (.cons (.var 1) .nil)))))
  o9)
abbrev kJ:CB:=
  (.cons (.asg (.name 3) (.call "told_nodes" (.cons (.idx (.var 2) (.con (.int 0))) (.cons (.var 1) .nil))))
  pd)
abbrev kK:CB:=
  (.cons (.asg (.name 2) (.call "tree" (.cons (.var 0) .nil)))
  kJ)
abbrev iX:CB:=
  (.cons (.expr (.call "need_tellings" (.cons (.var 0) (.cons (.var 1) .nil))))
  kK)
end K75
namespace K75
open PySem PySem.Spec PyProof.Rows L2 R Cp Lt Kc K21 K22 Lm M5 K32 K34
def TgV(H:Hp)(z:V)(q:Nat×Int):Prop:=∃a,z=V.ref a/\H a=some (.tup [.int q.1,.int q.2])
structure Tls(H:Hp)(l:Addr)(zs:List V)(ts:List (Nat×Int)):Prop where
 hl:H l=some (.lst zs)
 pr:Paired (TgV H) zs ts
def Tls.same(d:Tls H l zs ts)(s:aQ H H'):Tls H' l zs ts:=⟨s _ _ d.hl,Paired.mZ d.pr fun _ _ ⟨a,e,h⟩=>⟨a,e,s _ _ h⟩⟩
def Tls.gr{T:Tb}(d:Tls H l zs ts)(g:Gr T H H')(b:Tab T H):Tls H' l zs ts:=⟨g.lst b d.hl,Paired.mZ d.pr fun _ _ ⟨a,e,h⟩=>⟨a,e,g.mR b h⟩⟩
structure Vt(n:Nat)(ts:List (Nat×Int)):Prop where
 ok:∀q∈ts,q.1<n/\(q.2=0\/q.2=1)
 nd:(ts.map (·.1)).Nodup
def Vt.len(v:Vt n ts):ts.length<=n:=by
 have :=L2.rX v.nd (m:=aH n) fun x a=>by obtain⟨q,hq,rfl⟩:=az.mp a;exact aW.mpr (v.ok q hq).1
 rw[ai,aR]at this;exact this
def gX{a b:Type}{P:a->b->Prop}{xs:List a}{ys:List b}(h:Paired P xs ys){x:a}(e:xs[i]? =some x):∃y,ys[i]? =some y/\P x y:=K83.pr_at h e
def spTg:Sp:=fun vs H Q _=>∃(a:Addr)(n p:Nat)(e:Int),vs=[.ref a,.int n]/\H a=some (.tup [.int p,.int e])/\p<n/\(e=0\/e=1)/\∀H',aQ H H'->Q (.bl true) H'
def wp_tg(d:G.fn "is_whole" 1=some (spB isWhole,[]))(f:G.fn "is_reading" 1=some (spB cO,[])):Sat G K spTg sS sf:=by rintro k H Q E ⟨a,n,p,e,rfl,b,hp,g,q⟩;unfold sS;change wpB G K _ _ _ [some (.ref a),some (.int n)] H;ext;refine isi (E1 b) .tuple ⟨_,rfl,?_⟩;rw[show tyName H (.ref a)="tuple" by show jR (H a)=_;rw[b];rfl,if_neg (by decide)];refine .inl ⟨a,_,rfl,.inr (SqT.of b),CH.mpr ⟨_,rfl,?_⟩⟩;rw[if_neg (by simp)];unfold o4;ext;refine⟨_,_,d,.inr (.inl ⟨a,_,0,_,rfl,rfl,SqT.of b,rfl,.int p,rfl,A4,fun i c=>⟨_,rfl,?_⟩⟩)⟩;rw[show(!isWhole (.int p))=false from rfl,if_neg (by decide)];refine .inr (.inl ⟨a,_,0,_,rfl,rfl,SqT.of (c _ _ b),rfl,?_⟩);ext;rw[if_pos (decide_eq_true (by lia:(0:Int)<=p)),if_neg (by rw[decide_eq_true (by lia:(p:Int)<n)];decide)];unfold oZ;ext;refine⟨_,_,f,.inr (.inl ⟨a,_,1,_,rfl,rfl,SqT.of (c _ _ b),rfl,.int e,rfl,A4,fun j h=>?_⟩)⟩;rw[show cO (.int e)=true by rcases g with rfl|rfl<;>rfl];exact q _ (c.trans h)
def A0{ks:List Key}(nd:ks.Nodup):(_root_.Q.met ks).length=ks.length:=by have a:=_root_.Q.ET ks;have b:=L2.rX nd (m:=_root_.Q.met ks) fun x c=>_root_.Q.lb.mpr c;lia
def spAt:Sp:=fun vs H Q _=>∃(l:Addr)(n:Nat)(zs:List V)(ts:List (Nat×Int)),vs=[.ref l,.int n]/\Tls H l zs ts/\Vt n ts/\n<=60/\∀H',aQ H H'->Q (.bl true) H'
def wp_at(N:G.fn "is_telling" 2=some (spTg,[])):Sat G K spAt pf oz:=by
 rintro r H a3 a2 ⟨l,n,j,f,rfl,d,v,a4,q⟩;have F:j.length=f.length:=K83.gF d.pr;have tl:=v.len;unfold pf;change wpB G K _ _ _ [some (.ref l),some (.int n)] H;ext;refine isi (LN d.hl) .list ⟨_,rfl,?_⟩;rw[show tyName H (.ref l)="list" by show jR (H l)=_;rw[d.hl];rfl,if_neg (by decide)];unfold mJ;ext;refine cN (cn rfl (SqL.of d.hl) (dN dc (dA (by lia)) (fun I y=>SqL.of (y _ _ d.hl)) (fun i v _=>v=.bl true) (fun _ _ _ _ _ h=>h) (fun m=>∃u,m=[u,some (.int n)]) ⟨none,rfl⟩ ?_ ?_));·rintro i a0 m L R hi ⟨u,rfl⟩ b x k;obtain⟨p,hq,a,rfl,t⟩:=gX d.pr x;obtain⟨Y,Z⟩:=v.ok p (aG hq);ext;exact⟨_,_,N,a,n,p.1,p.2,rfl,b _ _ t,Y,Z,fun s g=>k _ _ _ ⟨_,rfl⟩ g rfl⟩
 intro r J l2 W P s2 S;have e:r=((aH j.length).map fun _=>true).map V.bl:=by rw[<-W];exact bool_list rfl P
 subst e;refine⟨l2,_,rfl,SqL.of au,_,rfl,?_⟩;rw[show(((aH j.length).map fun _=>true).all id)=true by rw[pU];simp,if_neg (by decide)];have b:=s2.trans (aB (o:=.lst (((aH j.length).map fun _=>true).map V.bl)) S);generalize upd J l2 (.lst (((aH j.length).map fun _=>true).map V.bl))=L at b;unfold mI;ext;refine cN (cn rfl (SqL.of (b _ _ d.hl)) (dN dc (dA (by lia)) (fun I y=>SqL.of (y _ _ (b _ _ d.hl))) (fun i v _=>v=.int (((f.map (·.1)).getD i 0:Nat):Int)) (fun _ _ _ _ _ h=>h) (fun m=>∃u w,m=[u,w]) ⟨none,none,rfl⟩ ?_ ?_));·rintro i a0 m s R hi ⟨u,w,rfl⟩ g x k;obtain⟨p,hq,a,rfl,t⟩:=gX d.pr x;refine⟨a,_,rfl,SqT.of ((b.trans g) _ _ t),rfl,_,_,rfl,_,_,rfl,rfl,_,rfl,k _ _ _ ⟨_,_,rfl⟩ (aQ.refl _) ?_⟩;rw[aa,av,hq];rfl
 intro r s D X Q g T;have M:r=(f.map fun q=>(dY (q.1:Int):Key)).map kV:=by
  rw[bp];apply bR;·rw[X,ai,F]
  ·intro i O B;rw[Q i _ (ae O),bD,aa,av,ae (by rw[ai]at B;exact B)];rfl
 subst M;refine⟨D,_,rfl,SqL.of au,by rw[ai];lia,fun c C=>?_⟩;have E:=b.trans (g.trans (aB (o:=.lst ((f.map fun q=>(dY (q.1:Int):Key)).map kV)) T));generalize upd s D (.lst ((f.map fun q=>(dY (q.1:Int):Key)).map kV))=H5 at E C;refine .inr (.inr ⟨c,_,rfl,au,?_⟩);have z:=E.trans (aB (o:=_root_.Q.Ex c (_root_.Q.met (f.map fun q=>(dY (q.1:Int):Key))).length) C);have U:=z _ _ d.hl;refine .inl ⟨l,_,rfl,.inl (SqL.of U),ll.mpr ?_⟩;have A:=A0 (ks:=f.map fun q=>(dY (q.1:Int):Key)) (by have :=v.nd;rw[BV,de]at this⊢;exact this.imp fun h a1=>h (Int.ofNat.inj (dY.inj a1)))
 rw[ai]at A;rw[A]at z⊢;rw[F,decide_eq_true rfl];exact q _ z
def Kd(K:ah):Sp:=fun vs H Q _=>∃(t l:Addr)(nf:Nat->Str)(n:Nat)(ys zs:List V)(rows:List (List Int))(ts:List (Nat×Int)),vs=[.ref t,.ref l]/\Tn H t nf n ys rows/\ys≠[]/\Tls H l zs ts/\Vt n ts/\∀H',aQ H H'->Q .non H'
def wp_nt(b:G.fn "place_count" 1=some (vF C,[]))(c:G.fn "are_tellings" 2=some (spAt,[])):Sat G K (Kd K) nG ny:=by rintro p H Q E ⟨t,l,m,n,r,h,o,g,rfl,d,ne,f,v,q⟩;have k:=d.n10;unfold nG;change wpB G K _ _ _ [some (.ref t),some (.ref l),none] H;ext;refine⟨_,_,b,.ref t,rfl,d.tab.1,fun _ i a=>?_,fun z=>by(rw[d.tab.2.1]at z;cases z)⟩;rw[d.count ne];unfold lr;ext;refine .inl ⟨t,_,rfl,.inl (SqL.of (a _ _ d.et)),ll.mpr ⟨_,rfl,?_⟩⟩;rw[if_neg (by simpa using fun z=>ne (aY.mp z))];unfold lq;ext;refine⟨_,_,c,l,n,h,g,rfl,f.same a,v,by lia,fun j e=>⟨_,rfl,?_⟩⟩;rw[if_neg (by decide)];exact q _ (a.trans e)
def NdV(K:ah)(H:Hp)(v:V)(k:List Int):Prop:=∃b,v=V.ref b/\SqT K H b (k.map V.int)
def NdV.same{v:V}{k:List Int}(h:NdV K H v k)(s:aQ H H'):NdV K H' v k:=let⟨b,e,q⟩:=h;⟨b,e,s.tup q⟩
abbrev rdT(ts:List (Nat×Int))(v:List Int):Bool:=ts.all fun q=>decide (v.getD q.1 0=q.2)
theorem vA{a:Type}{P:V->a->Prop}(t:a->Bool):∀{xs:List V}{ds:List a},Paired P xs ds->Paired P (((xs.zip ds).filter fun p=>t p.2).map fun p=>p.1) (ds.filter t)
 |_,_,.nil=>.nil
 |x::xs,d::ds,.cons h r=>by
  have b:=vA t r;rw[vb,yq,yq];cases c:t d with
  |true=>exact .cons h b
  |false=>exact b
def rO(K:ah):Sp:=fun vs H Q _=>∃(a l:Addr)(n:Nat)(us zs:List V)(ns:List (List Int))(ts:List (Nat×Int)),vs=[.ref a,.ref l]/\SqL K H a us/\Paired (NdV K H) us ns/\(∀v∈ns,v.length=n)/\ns.length<=61/\n<=60/\Tls H l zs ts/\(∀q∈ts,q.1<n/\(q.2=0\/q.2=1))/\ts.length<=60/\
 ∀H' b ws,aQ H H'->H b=none->H' b=some (.lst ws)->Paired (NdV K H') ws (ns.filter (rdT ts))->Q (.ref b) H'
def wp_thr:Sat G K (rO K) uU uH:=by
 rintro vs H a1 a0 ⟨a,l,a4,F,s,B,f,rfl,t,m,R,a5,a6,d,v,tl,q⟩;have ul:F.length=B.length:=K83.gF m;have zl:s.length=f.length:=K83.gF d.pr;unfold uU;change wpB G K _ _ _ [some (.ref a),some (.ref l)] H;ext;refine cN (cn rfl t (sE ul dc (dA (by lia)) (fun I n=>n.seq t) (rdT f) (fun x _=>x) (fun j=>∃u,j=[u,some (.ref l)]) ⟨none,rfl⟩ ?_ ?_))
 ·rintro i x k j H3 Rt Rf S y ⟨u,rfl⟩ g X kf;obtain⟨k',z,b,rfl,N⟩:=gX m S;rw[y]at z;cases z;have W:=R k (aG y);ext;refine cN (cn rfl (SqL.of (g _ _ d.hl)) (dN dc (dA (by lia)) (fun I n=>SqL.of (n _ _ (g _ _ d.hl))) (fun i v _=>v=.bl (decide (k.getD (f.getD i (0,0)).1 0=(f.getD i (0,0)).2))) (fun _ _ _ _ _ h=>h) (fun j=>∃u w,j=[u,w,some (.ref b)]) ⟨none,none,rfl⟩ ?_ ?_));·rintro a3 a7 j J a2 hj ⟨u',w,rfl⟩ r T U;obtain⟨q',hq,c,rfl,P⟩:=gX d.pr T;obtain⟨Z,o2⟩:=v q' (aG hq);have D:=g.trans r;refine⟨c,_,rfl,SqT.of (D _ _ P),rfl,_,_,rfl,_,_,rfl,rfl,?_⟩;ext;refine .inr (.inl ⟨b,_,_,_,rfl,rfl,D.tup N,cf (iv (by rw[W];exact Z)),ll.mpr (U _ _ _ ⟨_,_,rfl⟩ (aQ.refl _) ?_)⟩);rw[getD_some hq]
  ·intro bs J Y O M r Q;have e:=bool_list O M;subst e;refine⟨Y,_,rfl,SqL.of au,_,rfl,?_⟩;have L:(((aH s.length).map fun i=>decide (k.getD (f.getD i (0,0)).1 0=(f.getD i (0,0)).2)).all id)=rdT f k:=by unfold rdT;rw[zl,<-sZ f (0,0) fun q:Nat×Int=>decide (k.getD q.1 0=q.2)]
   rw[L];have E:=r.trans (aB (o:=.lst (((aH s.length).map fun i=>decide (k.getD (f.getD i (0,0)).1 0=(f.getD i (0,0)).2)).map V.bl)) Q);cases c:rdT f k with
   |true=>rw[if_pos rfl];exact X _ _ ⟨_,rfl⟩ E c
   |false=>rw[if_neg (by decide)];exact kf _ _ ⟨_,rfl⟩ E c
 ·intro H2 l2 C A;have g:=C.trans (aB (o:=.lst (((F.zip B).filter fun p=>rdT f p.2).map fun p=>p.1)) A);exact q _ l2 _ g (C.free A) au (vA (rdT f) (Paired.mZ m fun _ _ h=>h.same g))
def spTn(K:ah):Sp:=fun vs H Q _=>∃(a l:Addr)(n:Nat)(us zs:List V)(ns:List (List Int))(ts:List (Nat×Int)),vs=[.ref a,.ref l]/\SqL K H a us/\Paired (NdV K H) us ns/\(∀v∈ns,v.length=n)/\ns.length<=61/\n<=60/\Tls H l zs ts/\Vt n ts/\ns.filter (rdT ts)≠[]/\
 ∀H' b ws,aQ H H'->H b=none->H' b=some (.lst ws)->Paired (NdV K H') ws (ns.filter (rdT ts))->Q (.ref b) H'
theorem zE:∀u v:List Int,oH (u.map L2.D.int) (v.map .int)=decide (u=v)
 | [],[]=>rfl
 | [],_::_=>rfl
 |_::_,[]=>rfl
 |a::u,b::v=>by
  show(eqD (.int a) (.int b)&&oH (u.map L2.D.int) (v.map .int))=_;rw[zE u v];have e:eqD (.int a) (.int b)=decide (a=b):=by show(a==b)=_;rw[cw,beq_iff_eq,decide_eq_true_eq]
  rw[e,cw,aF,decide_eq_true_eq,decide_eq_true_eq,decide_eq_true_eq,JH]
def Fe(u v:List Int):eqD (K83.nd1 u) (K83.nd1 v)=decide (u=v):=zE u v
theorem rY:∀{us:List V}{ns:List (List Int)},Paired (NdV K H) us ns->eX K H (ns.map K83.nd1) us
 |_,_,.nil=>rfl
 |_,_,.cons ⟨b,e,h⟩ r=>by subst e;exact⟨_,_,rfl,⟨b,_,rfl,h,eX.ints _⟩,rY r⟩
theorem sr:∀ns:List (List Int),fw (ns.map K83.nd1)<=1
 | []=>aV _
 |v::ns=>by
  have :=sr ns;have a:hgt (K83.nd1 v)=1:=by show fw (v.map L2.D.int)+1=1;rw[l7]
  show max (hgt (K83.nd1 v)) (fw (ns.map K83.nd1))<=1;lia
def MS(a:List (List Int))(v:List Int):((a.map K83.nd1).any fun d=>eqD d (K83.nd1 v))=decide (v∈a):=by
 rw[v9,cw,b8,decide_eq_true_eq];constructor
 ·rintro⟨x,b,e⟩;have :x=v:=by have e:eqD (K83.nd1 x) (K83.nd1 v)=true:=e;rw[Fe]at e;exact of_decide_eq_true e
  exact this▸b
 ·intro h;refine⟨v,h,?_⟩;show eqD (K83.nd1 v) (K83.nd1 v)=true;rw[Fe,decide_eq_true rfl]
def L6{p:Addr}{us:List V}{a:List (List Int)}{x:V}{Q:VK}(c:SqL K H p us)(d:Paired (NdV K H) us a)(e:NdV K H x v)(q:Q (.bl (decide (v∈a))) H):fM K .In x (.ref p) H Q:=by obtain⟨b,rfl,f⟩:=e;refine .inl (.inr ⟨p,us,_,K83.nd1 v,rfl,c,⟨b,_,rfl,f,eX.ints _⟩,rY d,aL (sr a) (by decide),?_⟩);rw[if_neg ak,MS];exact q
def TrV(K:ah)(H:Hp)(v:V)(x:M8.Tri):Prop:=∃c p q r,v=V.ref c/\SqT K H c [.ref p,.ref q,.ref r]/\SqT K H p (x.1.map V.int)/\SqT K H q (x.2.1.map V.int)/\SqT K H r (x.2.2.map V.int)
def FQ{vs:List V}(d:vs.length=m)(e:m=ts.length)(c:∀(i:Nat)(v:V),vs[i]? =some v->v=V.int (((ts.map (·.1)).getD i 0:Nat):Int)):vs=(ts.map fun q=>(q.1:Int)).map V.int:=by
 rw[bp];apply bR;·rw[d,ai,e]
 ·intro i b a;rw[c i _ (ae b),bD,aa,av,ae (by rw[ai]at a;exact a)];rfl
def IM(t:Int->Bool):(((qs.map V.int).zip qs).filter fun p=>t p.2).map (fun p=>V.int p.2)=(qs.filter t).map V.int:=by
 conv =>rhs;rw[<-n6 (l₁:=qs.map V.int) (l₂:=qs) (by rw[ai];exact aw _),kO,bp]
 rfl
abbrev unB(ns:List (List Int))(ts:List (Nat×Int))(x:M8.Tri):List Int:=if x.1∈ns\/x.2.1∈ns then x.2.2.filter fun p=>decide (p∉ts.map fun q=>(q.1:Int))else[]
def Ka(K:ah):Sp:=fun vs H Q _=>∃(b a l:Addr)(bs us zs:List V)(xs:List M8.Tri)(ns:List (List Int))(ts:List (Nat×Int)),vs=[.ref b,.ref a,.ref l]/\SqL K H b bs/\Paired (TrV K H) bs xs/\xs.length<=60/\(∀x∈xs,x.2.2.length<=60)/\SqL K H a us/\Paired (NdV K H) us ns/\Tls H l zs ts/\ts.length<=60/\
 ∀H' f,aQ H H'->H f=none->H' f=some (.lst ((xs.flatMap (unB ns ts)).map V.int))->Q (.ref f) H'
theorem Dj{a:Type}{g:a->List Int}:∀{xs:List a},(∀x∈xs,(g x).length<=m)->(xs.flatMap g).length<=xs.length*m
 | [],_=>aV _
 |x::xs,h=>by have c:=h x aM;have d:=Dj (xs:=xs) fun y b=>h y (aK _ b);rw[nj,bj,bC,Jz];lia
def FL(a:List (List Int))(b:List (Nat×Int))(x:M8.Tri):(unB a b x).length<=x.2.2.length:=by
 unfold unB;split;·exact dZ _ _
 ·exact aV _
def wp_up:Sat G K (Ka K) mf lW:=by
 rintro vs H a9 a8 ⟨b,a,l,bs,us,zs,xs,e,j,rfl,W,pb,b6,a0,U,pn,d,b5,q⟩;have zl:zs.length=j.length:=K83.gF d.pr;have bl:bs.length=xs.length:=K83.gF pb;unfold mf;change wpB G K _ _ _ [some (.ref b),some (.ref a),some (.ref l),none,none,none,none,none] H;ext;refine cN (cn rfl (SqL.of d.hl) (dN dc (dA (by lia)) (fun s F=>SqL.of (F _ _ d.hl)) (fun i v _=>v=.int (((j.map (·.1)).getD i 0:Nat):Int)) (fun _ _ _ _ _ h=>h) (fun I=>∃u w,I=[u,w]) ⟨none,none,rfl⟩ ?_ ?_));·rintro i x I J b0 hi ⟨u,w,rfl⟩ k N a6;obtain⟨E,hq,c,rfl,Q⟩:=gX d.pr N;refine⟨c,_,rfl,SqT.of (k _ _ Q),rfl,_,_,rfl,_,_,rfl,rfl,_,rfl,a6 _ _ _ ⟨_,_,rfl⟩ (aQ.refl _) ?_⟩;rw[aa,av,hq];rfl
 intro vs s A a5 hF F a4;have e4:=FQ a5 zl hF;subst e4;generalize hX:upd s A _=H2;obtain⟨t,et⟩:=cU hX a4;clear hX
 replace t:=F.trans (t)
 unfold kD;ext;refine⟨aV _,fun f hf=>?_⟩;have s3:=aB (o:=.lst []) hf;have n0:H f=none:=t.free hf;unfold kC;ext;refine gH (cn rfl ((t.trans s3).seq W) (fN dc (fun i O P=>aQ H2 P/\P f=some (.lst (((xs.take i).flatMap (unB e j)).map V.int))/\∃u v w,O=[some (.ref b),some (.ref a),some (.ref l),some (.ref A),some (.ref f),u,v,w])
  ⟨s3,au,_,_,_,rfl⟩ (fun i O P _ a7=>(t.trans a7.1).seq W) ?_ ?_))
 ·rintro i y O H3 J R hi ⟨k,L,u,v,w,rfl⟩ B C T _;obtain⟨x,N,c,p,E,r,rfl,Q,hp,hq,Y⟩:=gX pb B;have b3:=a0 x (aG N);have n:=t.trans (k.trans C);have M:=C _ _ L;have S:xs.take (i+1)=xs.take i++[x]:=by rw[dM,N];rfl
  refine⟨c,_,rfl,n.tup Q,rfl,_,_,rfl,_,_,rfl,_,_,rfl,rfl,?_⟩;have a1:=Paired.mZ pn fun _ _ h=>h.same n;have no:¬(x.1∈e\/x.2.1∈e)->R.nx [some (.ref b),some (.ref a),some (.ref l),some (.ref A),some (.ref f),some (.ref p),some (.ref E),some (.ref r)] J:=fun z=>by refine T _ _ ⟨k.trans C,?_,_,_,_,rfl⟩;rw[S,kY,nj,yp,ff,show unB e j x=[]from if_neg z,ff];exact M
  have a2:x.1∈e\/x.2.1∈e->tyV K "list" (V.ref f) J/\wo (E9 K (rM 7)) (nC 0) (yU (tOp (fM K .NotIn) (rM 0) (rM 1))) (rM 0) (mV ["place"] [3]) [some (.ref b),some (.ref a),some (.ref l),some (.ref A),some (.ref f),some (.ref p),some (.ref E),some (.ref r)] J fun x s=>rMm .extend (.ref f) [x] s fun x s=>R.nx [some (.ref b),some (.ref a),some (.ref l),some (.ref A),some (.ref f),some (.ref p),some (.ref E),some (.ref r)] s:=fun z=>by
   refine⟨.inl ⟨rfl,_,SqL.of M⟩,?_⟩;refine cN (u9 rfl (n.tup Y) (sE (ds:=x.2.2) (by rw[ai]) Aw (dA (by rw[ai];lia)) (fun s F=>F.tup (n.tup Y)) (fun m=>decide (m∉j.map fun q=>(q.1:Int))) (fun _ m=>.int m) (fun I=>∃u,I=[u,some (.ref A)]) ⟨none,rfl⟩ ?_ ?_))
   ·rintro b4 y m I H5 Rt Rf B hm ⟨u',rfl⟩ D kt kf;rw[av,hm]at B;cases B;ext;refine .inr ⟨A,_,rfl,.inl (SqL.of (D _ _ ((k.trans C) _ _ et))),rfl,tZ _,_,rfl,?_⟩;rw[if_pos rfl,A8];by_cases c:m∈j.map fun q=>(q.1:Int);·rw[if_neg (by rw[decide_eq_true c];decide)];exact kf _ _ ⟨_,rfl⟩ (aQ.refl _) (by simpa using c)
    ·rw[if_pos (by rw[decide_eq_false c];rfl)];exact kt _ _ ⟨_,rfl⟩ (aQ.refl _) (by simpa using c)
   ·intro H5 Z D X;have e5:(((x.2.2.map V.int).zip x.2.2).filter fun p=>decide (p.2∉j.map fun q=>(q.1:Int))).map (fun p=>V.int p.2)=(unB e j x).map V.int:=by unfold unB;rw[if_pos z];exact IM fun p=>decide (p∉j.map fun q=>(q.1:Int))
    have a3:f≠Z:=bL (D _ _ M) X;have b1:((xs.take i).flatMap (unB e j)).length<=3600:=by have :=Dj (m:=60) (g:=unB e j) (xs:=xs.take i) fun y B=>aL (FL e j y) (a0 y (JG B));rw[dz]at this;have :min i xs.length*60<=60*60:=Nat.mul_le_mul (by lia) (aw _);lia
    have b2:=FL e j x;rw[e5];refine⟨f,Z,_,_,rfl,rfl,by rw[ba a3];exact D _ _ M,au,?_,?_⟩;·rw[ai,ai];exact aL (by lia:_<=4000) (by decide)
    ·refine T _ _ ⟨eH (eH ((k.trans C).trans D) (((k.trans C).trans D).free X)) hf,?_,_,_,_,rfl⟩;rw[au,S,kY,nj,yp,ff,cQ]
  ext;refine L6 (n.seq U) a1 ⟨p,rfl,n.tup hp⟩ ⟨_,rfl,?_⟩;by_cases c1:x.1∈e;·rw[if_pos (decide_eq_true c1),if_pos trivial];exact a2 (.inl c1)
  ·rw[if_neg (by simpa using c1)];refine L6 (n.seq U) a1 ⟨E,rfl,n.tup hq⟩ ⟨_,rfl,?_⟩;by_cases c2:x.2.1∈e;·rw[if_pos (decide_eq_true c2)];exact a2 (.inr c2)
   ·rw[if_neg (by simpa using c2)];exact no fun z=>z.elim c1 c2
 ·rintro O H3 ⟨k,L,u,v,w,rfl⟩;unfold kB;ext;rw[bl,fS]at L;exact q _ _ (t.trans k) n0 L
abbrev stn(rows:List (List Int))(n:Nat)(ts:List (Nat×Int)):List (List Int):=(M8.nW (M8.nds rows n)).filter (rdT ts)
abbrev unk(rows:List (List Int))(n:Nat)(ts:List (Nat×Int)):List Int:=(M8.wz (M8.trs rows n)).flatMap (unB (stn rows n ts) ts)
abbrev knw(rows:List (List Int))(n:Nat)(ts:List (Nat×Int)):List V:=(aH n).map fun p:Nat=>if(p:Int)∈unk rows n ts then .non else .int (((stn rows n ts).headD []).getD p 0)
theorem wJ:∀{ns:List (List Int)}{us:List V},eX K H (ns.map K83.nd1) us->Paired (NdV K H) us ns
 | [],us,h=>by obtain rfl:us=[]:=h;exact .nil
 |v::ns,us,h=>by obtain⟨x,r,rfl,a,b⟩:=h;exact .cons (AZ a) (wJ b)
theorem wI:∀{xs:List M8.Tri}{us:List V},eX K H (xs.map M8.triD) us->Paired (TrV K H) us xs
 | [],us,h=>by obtain rfl:us=[]:=h;exact .nil
 |v::xs,us,h=>by obtain⟨x,r,rfl,⟨c,j,rfl,f,_,_,rfl,a,_,_,rfl,b,_,_,rfl,d,rfl⟩,e⟩:=h;obtain⟨p,rfl,hp⟩:=AZ a;obtain⟨q,rfl,hq⟩:=AZ b;obtain⟨i,rfl,g⟩:=AZ d;exact .cons ⟨c,p,q,i,rfl,f,hp,hq,g⟩ (wI e)
def plc_len(n:Nat)(P:Nat->Bool):(M5.plc n P).length<=n:=by unfold M5.plc;rw[ai];exact aL (dZ _ _) (by rw[aR];exact aw _)
def stn_len(t:M7.Tbl rows n)(h:v∈stn rows n ts):M7.Fits rows n v/\rdT ts v=true:=by obtain⟨a,b⟩:=bw.mp h;exact⟨(M8.fU t).mp ((M9.lT (M8.kq t)).mem_iff.mp a),b⟩
def spFr(K:ah)(T:Tb):Sp:=fun vs H Q _=>∃(t l:Addr)(nf:Nat->Str)(n:Nat)(ys zs:List V)(rows:List (List Int))(ts:List (Nat×Int)),vs=[.ref t,.ref l]/\Tn H t nf n ys rows/\ys≠[]/\Tab T H/\Tls H l zs ts/\Vt n ts/\stn rows n ts≠[]/\
 ∀H' p,Gr T H H'->H' p=some (.tup (knw rows n ts))->Q (.ref p) H'
def wp_frX{T:Tb}{U W sp:Sp}(g1:G.fn "need_tellings" 2=some (U,[]))(g2:G.fn "tree" 1=some (W,[]))(i2:∀vs H Q E,K83.mT T vs H Q E->W vs H Q E)(g3:G.fn "told_nodes" 2=some (sp,[]))(i3:∀vs H Q E,spTn K vs H Q E->sp vs H Q E)(g4:G.fn "unknown_places" 3=some (Ka K,[])):
  ∀vs H Q E,spFr K T vs H Q E->(∀N,(∀H',aQ H H'->N .non H')->U vs H N E)->wpB G K (fun _=>E) iX {nx:=fun _ H'=>Q .non H',rt:=Q} (L2.start jP vs) H:=by
 rintro vs H Q E ⟨t,l,nf,n,ys,zs,b,g,rfl,d,ne,tb,tl,v,C,q⟩ i1;have b7:=d.n10;have tbl:=d.tbl ne;unfold iX;change wpB G K _ _ _ [some (.ref t),some (.ref l),none,none,none] H;ext;refine⟨_,_,g1,i1 _ fun H1 y=>?_⟩;have d1:=d.same y;have X:=(Gr.of (T:=T) y).tab tb;have b4:=tl.same y;unfold kK;ext;refine⟨_,_,g2,i2 _ _ _ _ (JW (K:=K) (E:=fun _=>E) d1 X (fun H2 p gr _ F=>?_) [])⟩;rw[if_neg ne]at F;unfold M9.trD at F;obtain⟨_,_,e,hp,_,_,rfl,⟨nl,b3,rfl,a8,rn⟩,_,_,rfl,⟨bl,a1,rfl,a5,rb⟩,rfl⟩:=F;cases e;have pn:=wJ rn;have pb:=wI rb;have R:=M9.lT (M8.kq tbl);have S:=M9.rN (M8.qP tbl);have b8:(M8.nW (M8.nds b n)).length<=61:=by have :=M9.vN b n;rw[R.length_eq];lia
 have b9:(M8.wz (M8.trs b n)).length<=60:=by have :=M9.trs_len b n;rw[S.length_eq];lia
 have Y:=b4.gr gr X;unfold kJ;ext;refine⟨_,_,g3,.inr (.inl ⟨p,_,0,_,rfl,rfl,hp,rfl,i3 _ _ _ _ ⟨nl,l,n,b3,zs,_,g,rfl,a8,pn,(fun u hu=>((M8.fU tbl).mp (R.mem_iff.mp hu)).1.1),by lia,by lia,Y,v,C,fun H3 l1 J h n1 x D=>?_⟩⟩)⟩;have vl:=v.len;unfold pd;ext;refine⟨_,_,g4,.inr (.inl ⟨p,_,1,_,rfl,rfl,h.tup hp,rfl,bl,l1,l,a1,J,zs,_,_,g,rfl,h.seq a5,(Paired.mZ pb fun _ _ ⟨c,p,q,r,e,x,h2,h3,m⟩=>⟨c,p,q,r,e,h.tup x,h.tup h2,h.tup h3,h.tup m⟩),by lia,(fun b5 hx=>?_),SqL.of x,D,Y.same h,by lia,fun L f A n4 m=>?_⟩)⟩;·obtain⟨j,_,_,rfl⟩:=(M8.k7 tbl).mp (S.mem_iff.mp hx);exact aL (plc_len _ _) (by lia)
 have m:L f=some (.lst ((unk b n g).map V.int)):=m;have a2:Gr T H L:=(Gr.of (T:=T) y).trans (gr.trans (Gr.of (h.trans A)));have a4:=A _ _ x;obtain⟨I,o⟩:∃I,(stn b n g)[0]? =some I:=by
  cases c:stn b n g with
  |nil=>exact absurd c C
  |cons a r=>exact⟨a,rfl⟩
 have Z:0<J.length:=by rw[K83.gF D];exact(aC.mp o).1
 obtain⟨B,b2,b0,eb,O⟩:=gX D (ae Z);have ev:B=I:=bo (b2.symm.trans o);subst ev;have lv:B.length=n:=(stn_len tbl (aG o)).1.1.1;have a6:(stn b n g).headD []=B:=by
  cases c:stn b n g with
  |nil=>exact absurd c C
  |cons a r=>rw[c]at o;cases o;rfl
 unfold o9;ext;refine cN ?_;simp only[E8];ext;refine .inl ⟨l1,_,0,_,rfl,rfl,SqL.of a4,(cf (j:=0) (by rw[ae Z,eb]):atI J ((0:Nat):Int)=_),?_⟩;refine⟨b0,rfl,⟨_,A.tup O⟩,?_⟩;refine dN zf (dA (by rw[ai];lia)) (fun M s=>s.tup (A.tup O)) (fun i w _=>w=if(i:Int)∈unk b n g then .non else .int (B.getD i 0)) (fun _ _ _ _ _ a3=>a3) (fun τ=>∃u w,τ=[u,w,some (.ref f)]) ⟨none,none,rfl⟩ ?_ ?_
 ·rintro i b5 τ M b6 hi ⟨u,w,rfl⟩ s ⟨c,a0,rfl,hc,P⟩ k;rw[ai]at hi;rw[iv hi]at P;cases P;refine⟨c,_,rfl,SqT.of hc,rfl,_,_,rfl,_,_,rfl,rfl,?_⟩;ext;refine .inr ⟨f,_,rfl,.inl (SqL.of (s _ _ m)),rfl,tZ _,_,rfl,?_⟩;rw[if_neg ak,A8];by_cases z:(i:Int)∈unk b n g;·rw[if_pos (decide_eq_true z)];exact k _ _ _ ⟨_,_,rfl⟩ (aQ.refl _) (if_pos z).symm
  ·rw[if_neg (by exact fun a0=>z (of_decide_eq_true a0))];exact k _ _ _ ⟨_,_,rfl⟩ (aQ.refl _) (if_neg z).symm
 ·intro us M l5 b1 hF s a7;have e:us=knw b n g:=by unfold knw;rw[a6];exact K83.vals_eq (by rw[b1,ai,lv]) hF
  subst e;refine⟨l5,_,rfl,.inl ⟨SqL.of au,fun p5 a9=>?_⟩⟩;exact q _ p5 (a2.trans (Gr.of ((s.trans (aB a7)).trans (aB a9)))) au
def wp_fr{T:Tb}{sp:Sp}(a:G.fn "need_tellings" 2=some (Kd K,[]))(b:G.fn "tree" 1=some (K83.mT T,[]))(c:G.fn "told_nodes" 2=some (sp,[]))(f:∀vs H Q E,spTn K vs H Q E->sp vs H Q E)(e:G.fn "unknown_places" 3=some (Ka K,[])):
  ∀vs H Q E,spFr K T vs H Q E->wpB G K (fun _=>E) iX {nx:=fun _ H'=>Q .non H',rt:=Q} (L2.start jP vs) H:=fun vs H Q E h=>
 wp_frX a b (fun _ _ _ _ h=>h) c f e vs H Q E h (by obtain⟨t,l,g,n,o,p,j,m,rfl,d,ne,tb,k,v,s,q⟩:=h;exact fun r i=>⟨t,l,g,n,o,p,j,m,rfl,d,ne,k,v,i⟩)
section
def mY(t:M7.Tbl rows n):v∈stn rows n ts↔M7.Fits rows n v/\rdT ts v=true:=by unfold stn;rw[bw,(M9.lT (M8.kq t)).mem_iff,M8.fU t]
def FJ(t:M7.Tbl rows n)(hp:p<n):(p:Int)∈unk rows n ts->p∉ts.map (·.1):=by
 intro h z;unfold unk at h;obtain⟨x,_,a⟩:=eP.mp h;unfold unB at a;split at a;·obtain⟨_,b⟩:=bw.mp a;obtain⟨q,hq,e⟩:=az.mp z;exact of_decide_eq_true b (az.mpr ⟨q,hq,by rw[e]⟩)
 ·cases a
def unk_of(t:M7.Tbl rows n)(hp:p<n)(hz:grp rows p≠0)(b:M7.below rows n p∈stn rows n ts)(f:p∉ts.map (·.1)):(p:Int)∈unk rows n ts:=by
 unfold unk;have g:M8.tri rows n p∈M8.wz (M8.trs rows n):=(M9.rN (M8.qP t)).mem_iff.mpr ((M8.k7 t).mpr ⟨p,hp,hz,rfl⟩);refine eP.mpr ⟨_,g,?_⟩;have d:(M8.tri rows n p).1∈stn rows n ts\/(M8.tri rows n p).2.1∈stn rows n ts:=by
  have ne:=M7.sC t hp;have a:=_root_.Q.jk ne;unfold M8.tri M4.lo M4.hi;dsimp only;cases c:_root_.Q.llt (M7.below rows n p) (M7.hJ rows n p)with
  |true=>rw[if_pos rfl];exact .inl b
  |false=>rw[c]at a;have a:_root_.Q.llt (M7.hJ rows n p) (M7.below rows n p)=true:=a;rw[a,if_neg (by decide),if_pos rfl];exact .inr b
 unfold unB;rw[if_pos d];refine bw.mpr ⟨?_,decide_eq_true fun z=>?_⟩;·exact(M5.la hp).mpr (by unfold M5.own;simp)
 ·obtain⟨q,hq,e⟩:=az.mp z;exact f (az.mpr ⟨q,hq,by lia⟩)
def xx(h:p<n):(knw rows n ts).getD p .non=if(p:Int)∈unk rows n ts then .non else .int (((stn rows n ts).headD []).getD p 0):=by unfold knw;rw[aa,av,bN h];rfl
end
end K75
namespace K61
open K75
section
variable {a b c:List Int}
abbrev maj(n:Nat)(a b c:List Int):List Int:=(aH n).map fun p=>if a.getD p 0=b.getD p 0 then a.getD p 0 else c.getD p 0
def EW(hp:p<n):(maj n a b c).getD p 0=if a.getD p 0=b.getD p 0 then a.getD p 0 else c.getD p 0:=by unfold maj;rw[aa,av,bN hp];rfl
def jQ{e:Int}(hp:p<n)(h:a.getD p 0=e/\b.getD p 0=e\/a.getD p 0=e/\c.getD p 0=e\/b.getD p 0=e/\c.getD p 0=e):(maj n a b c).getD p 0=e:=by
 rw[EW hp];split
 ·rcases h with h|h|h;·exact h.1
  ·exact h.1
  ·rename_i z;rw[z,h.1]
 ·rename_i z;rcases h with h|h|h;·exact absurd (h.1.trans h.2.symm) z
  ·exact h.2
  ·exact h.2
def Lz(f:M7.Fits rows n a)(g:M7.Fits rows n b)(l:M7.Fits rows n c):M7.Fits rows n (maj n a b c):=by
 refine⟨⟨by simp[maj],fun x m=>?_⟩,fun i j hi e=>?_⟩
 ·unfold maj at m;obtain⟨q,_,rfl⟩:=az.mp m;split;·exact f.1.at q
  ·exact l.1.at q
 ·have pick:∀{w:List Int},M7.Fits rows n w->w.getD i 0=(maj n a b c).getD i 0->w.getD j 0=(maj n a b c).getD j 0->∃r∈rows,r.getD i 0=(maj n a b c).getD i 0/\r.getD j 0=(maj n a b c).getD j 0:=fun A p s=>by obtain⟨r,v,t,u⟩:=A.2 i j hi e;exact⟨r,v,t.trans p,u.trans s⟩
  have two:∀{k:Nat},a.getD k 0≠b.getD k 0->c.getD k 0=a.getD k 0\/c.getD k 0=b.getD k 0:=fun{k} h=>by rcases f.1.at k with x|x<;>rcases g.1.at k with y|y<;>rcases l.1.at k with z|z<;>rw[x,y]at h<;>rw[x,y,z]<;>first |exact .inl rfl|exact .inr rfl|exact absurd rfl h
  by_cases ei:a.getD i 0=b.getD i 0
  ·have d:=jQ (c:=c) hi (.inl ⟨rfl,ei.symm⟩);by_cases ej:a.getD j 0=b.getD j 0;·exact pick f d.symm (jQ e (.inl ⟨rfl,ej.symm⟩)).symm
   ·rcases two ej with z|z;·exact pick f d.symm (jQ e (.inr (.inl ⟨rfl,z⟩))).symm
    ·exact pick g (ei.symm.trans d.symm) (jQ e (.inr (.inr ⟨rfl,z⟩))).symm
  ·have d:(maj n a b c).getD i 0=c.getD i 0:=by rw[EW hi,if_neg ei]
   by_cases ej:a.getD j 0=b.getD j 0
   ·have o:=jQ (c:=c) e (.inl ⟨rfl,ej.symm⟩);rcases two ei with z|z;·exact pick f (z.symm.trans d.symm) o.symm
    ·exact pick g (z.symm.trans d.symm) (ej.symm.trans o.symm)
   ·exact pick l d.symm (by rw[EW e,if_neg ej])
def Rd(ts:List (Nat×Int))(v:List Int):Prop:=∀q∈ts,v.getD q.1 0=q.2
def AE:rdT ts v=true↔Rd ts v:=by unfold rdT Rd;rw[bg];exact⟨fun h q hq=>of_decide_eq_true (h q hq),fun h q hq=>decide_eq_true (h q hq)⟩
theorem helly:∀(ts U:List (Nat×Int)),(∀q∈U,q.1<n)->(∀q∈ts,q.1<n)->(∃v,M7.Fits rows n v/\Rd U v)->(∀q∈ts,∀r∈ts,∃v,M7.Fits rows n v/\Rd U v/\v.getD q.1 0=q.2/\v.getD r.1 0=r.2)->∃v,M7.Fits rows n v/\Rd U v/\Rd ts v
 | [],U,_,_,⟨v,g,d⟩,_=>⟨v,g,d,fun _ h=>nomatch h⟩
 |t::ts,U,hU,ht,_,h=>by
  obtain⟨v,g,d,y⟩:=helly ts (t::U) (fun q hq=>by
   rcases aI.mp hq with rfl|hq;·exact ht _ (.head _)
   ·exact hU q hq) (fun q hq=>ht q (.tail _ hq)) (by
   obtain⟨v,f,u,e,_⟩:=h t (.head _) t (.head _);refine⟨v,f,fun q hq=>?_⟩;rcases aI.mp hq with rfl|hq;·exact e
   ·exact u q hq) (fun q hq r i=>by
   obtain⟨a,p,z,at_,j⟩:=h t (.head _) q (.tail _ hq);obtain⟨b,s,A,k,l⟩:=h q (.tail _ hq) r (.tail _ i);obtain⟨c,w,B,o,m⟩:=h t (.head _) r (.tail _ i);refine⟨maj n a b c,Lz p s w,fun x hx=>?_,jQ (ht q (.tail _ hq)) (.inl ⟨j,k⟩),jQ (ht r (.tail _ i)) (.inr (.inr ⟨l,m⟩))⟩;rcases aI.mp hx with rfl|hx;·exact jQ (ht _ (.head _)) (.inr (.inl ⟨at_,o⟩))
   ·exact jQ (hU x hx) (.inl ⟨z x hx,A x hx⟩))
  refine⟨v,g,fun q hq=>d q (.tail _ hq),fun q hq=>?_⟩;rcases aI.mp hq with rfl|hq;·exact d _ (.head _)
  ·exact y q hq
end
abbrev tw(ts:List (Nat×Int))(i j:Nat):List (Nat×Int):=[ts.getD i (0,0),ts.getD j (0,0)]
structure Fp(ns:List (List Int))(ts:List (Nat×Int))(i j:Nat):Prop where
 ij:i<=j
 jl:j<ts.length
 no:ns.filter (rdT (tw ts i j))=[]
 ft:∀i' j',i'<=j'->j'<ts.length->i'<i\/i'=i/\j'<j->ns.filter (rdT (tw ts i' j'))≠[]
def Fp.one{c:List (List Int)}{l:Nat}(a:Fp c ts i j)(b:Fp c ts k l):i=k/\j=l:=by have d:¬(i<k\/i=k/\j<l):=fun z=>b.ft i j a.ij a.jl z a.no;have e:¬(k<i\/k=i/\l<j):=fun z=>a.ft k l b.ij b.jl z b.no;lia
def eS(t:M7.Tbl rows n)(x:Vt n ts)(h:stn rows n ts=[]):∃i j,i<=j/\j<ts.length/\(M8.nW (M8.nds rows n)).filter (rdT (tw ts i j))=[]:=by
 apply aJ
 intro w;have g:∀i j,i<=j->j<ts.length->∃v,M7.Fits rows n v/\Rd (tw ts i j) v:=fun i j m a=>by have ne:stn rows n (tw ts i j)≠[]:=fun z=>w ⟨i,j,m,a,z⟩;obtain⟨v,p⟩:=DW _ ne;obtain⟨b,k⟩:=(mY t).mp p;exact⟨v,b,AE.mp k⟩
 obtain⟨v,b,_,l⟩:=helly (rows:=rows) (n:=n) ts [] (fun _ z=>nomatch z) (fun q hq=>(x.ok q hq).1) ⟨_,M7.xH t,fun _ z=>nomatch z⟩ fun q hq r o=>by
  obtain⟨i,hi⟩:=bS.mp hq;obtain⟨j,a⟩:=bS.mp o;have s:=(aC.mp hi).1;have u:=(aC.mp a).1;have c:ts.getD i (0,0)=q:=by rw[aa,hi];rfl
  have d:ts.getD j (0,0)=r:=by rw[aa,a];rfl
  rcases Nat.le_total i j with z|z;·obtain⟨v,f,e⟩:=g i j z u;unfold tw at e;rw[c,d]at e;exact⟨v,f,fun _ z=>(nomatch z),e _ (.head _),e _ (.tail _ (.head _))⟩
  ·obtain⟨v,f,e⟩:=g j i z s;unfold tw at e;rw[c,d]at e;exact⟨v,f,fun _ z=>(nomatch z),e _ (.tail _ (.head _)),e _ (.head _)⟩
 have :v∈stn rows n ts:=(mY t).mpr ⟨b,AE.mpr l⟩;rw[h]at this;cases this
end K61
namespace K76
open PySem PySem.Spec PyProof.Rows L2 R Cp Lt Kc K21 K22 Lm M5 K32 K34 K75
section
variable {ts':List (Nat×Int)}
def Ga{w:List Int}(h:rdT ts w=true){q:Nat×Int}(hq:q∈ts):w.getD q.1 0=q.2:=of_decide_eq_true (bg.mp h q hq)
theorem agree(t:M7.Tbl rows n)(P:Vt n ts)(hp:p<n){u:List Int}(W:u∈stn rows n ts)(X:v∈stn rows n ts)(h:(p:Int)∉unk rows n ts):u.getD p 0=v.getD p 0:=by
 obtain⟨l,M⟩:=(mY t).mp W;obtain⟨m,N⟩:=(mY t).mp X;apply aJ;intro a;obtain⟨Z,U,Q,_⟩:=l.2 p p hp hp;obtain⟨r2,V,R,_⟩:=m.2 p p hp hp;have g:grp rows p≠0:=(M9.rL t).mpr ⟨Z,U,r2,V,by rw[Q,R];exact a⟩;refine h (unk_of t hp g ((mY t).mpr ⟨M7.qY t g,bg.mpr fun q hq=>decide_eq_true ?_⟩) fun a3=>?_)
 ·have f:=(P.ok q hq).1;have u1:=Ga M hq;have O:=Ga N hq;obtain⟨K,H,o,z⟩:=l.2 p q.1 hp f;obtain⟨L,I,A,B⟩:=m.2 p q.1 hp f;have c:¬M7.Cls rows p q.1:=fun c=>a (by rw[<-o,<-A];exact(c K H L I).mpr (by rw[z,B,u1,O]));obtain⟨r,G,s,J,d,D,E⟩:=M7.xN t g c;have S:(M7.below rows n p).getD q.1 0=if M4.sub (grp rows) (grp rows p) q.1=true then 1-fr rows q.1 else fr rows q.1:=M7.ip f
  rw[<-S]at D E;obtain⟨a4,b,F,T,k⟩:=t.mis' (i:=p) (j:=q.1) (fun e=>c (by rw[<-e];exact fun _ _ _ _=>Iff.rfl)) hp f;apply aJ;intro hw;by_cases e:b=q.2
  ·rcases M7.two (l.1.at p) (m.1.at p) F a with e'|e';·exact k K H ⟨by rw[o,e'],by rw[z,u1,e]⟩
   ·exact k L I ⟨by rw[A,e'],by rw[B,O,e]⟩
  ·have C:(M7.below rows n p).getD q.1 0=b:=by have a0:=(M7.qY t g).1.at q.1;have Y:=(P.ok q hq).2;rcases a0 with w|w<;>rcases Y with x|x<;>rcases T with y|y<;>lia
   rcases M7.two ((t.ok r G).at p) ((t.ok s J).at p) F d with e'|e';·exact k r G ⟨e',by rw[D,C]⟩
   ·exact k s J ⟨e',by rw[E,C]⟩
 ·obtain⟨q,hq,e⟩:=az.mp a3;have e:q.1=p:=e;exact a (by rw[<-e,Ga M hq,Ga N hq])
def vD(s:∀q∈ts,q∈ts')(h:v∈stn rows n ts'):v∈stn rows n ts:=by obtain⟨a,b⟩:=bw.mp h;exact bw.mpr ⟨a,bg.mpr fun q hq=>bg.mp b q (s q hq)⟩
def unk_sub(s:∀q∈ts,q∈ts'){x:Int}(h:x∈unk rows n ts'):x∈unk rows n ts:=by
 obtain⟨y,f,a⟩:=eP.mp h;refine eP.mpr ⟨y,f,?_⟩;unfold unB at a⊢;split at a;·rename_i c;rw[if_pos (c.imp (vD s) (vD s))];obtain⟨b,d⟩:=bw.mp a;refine bw.mpr ⟨b,decide_eq_true fun z=>of_decide_eq_true d ?_⟩;obtain⟨q,hq,e⟩:=az.mp z;exact az.mpr ⟨q,s q hq,e⟩
 ·cases a
def head_mem{b:Type}{d:b}{l:List b}(h:l≠[]):l.headD d∈l:=by
 cases l with
 |nil=>exact absurd rfl h
 |cons a r=>exact aM
def LK(t:M7.Tbl rows n)(a:Vt n ts)(s:∀q∈ts,q∈ts')(ne:stn rows n ts'≠[])(hp:p<n):(knw rows n ts).getD p .non=.non\/(knw rows n ts').getD p .non=(knw rows n ts).getD p .non:=by
 rw[xx hp,xx hp];by_cases h:(p:Int)∈unk rows n ts;·rw[if_pos h];exact .inl rfl
 ·rw[if_neg h,if_neg fun z=>h (unk_sub s z)];have m:=vD s (head_mem (d:=[]) ne);exact .inr (by rw[agree t a hp m (head_mem (d:=[]) fun z=>by rw[z]at m;cases m) h])
def Vt.snoc(d:Vt n ts){q:Nat×Int}(h:q.1<n)(f:q.2=0\/q.2=1)(j:q.1∉ts.map (·.1)):Vt n (ts++[q]):=by
 refine⟨fun x i=>?_,?_⟩
 ·rcases cX.mp i with a|a;·exact d.ok x a
  ·rw[aT.mp a];exact⟨h,f⟩
 ·rw[cQ,eG];refine⟨d.nd,by simp,fun a g b c e=>?_⟩;rw[List.map_singleton,aT]at c;exact j (by rw[<-c,<-e];exact g)
end
end K76
namespace K74
open PySem PySem.Spec PyProof.Rows L2 R Cp Lt Kc K21 K22 Lm M5 K32 K34 K75 K76
section
variable {left:List (List Int)}
def lo_hi{a b:List Int}:(M4.lo a b=a\/M4.lo a b=b)/\(M4.hi a b=a\/M4.hi a b=b):=by unfold M4.lo M4.hi;constructor<;>split <;>first |exact .inl rfl|exact .inr rfl
def Ac(t:M7.Tbl rows n)(hp:p<n):(p:Int)∈unk rows n ts↔p∉ts.map (·.1)/\grp rows p≠0/\∃x∈K75.stn rows n ts,M7.End rows n p x:=by
 constructor
 ·intro h;refine⟨FJ t hp h,?_⟩;unfold unk at h;obtain⟨x,l,k⟩:=eP.mp h;obtain⟨j,y,d,rfl⟩:=(M8.k7 t).mp ((M9.rN (M8.qP t)).mem_iff.mp l);unfold unB at k;split at k
  ·rename_i c;obtain⟨s,_⟩:=bw.mp k;have e:grp rows p=grp rows j:=of_decide_eq_true ((M5.la hp).mp s);have r:M8.tri rows n j=M8.tri rows n p:=by rw[<-M8.FP,<-M8.FP,e]
   rw[r]at c;have d:grp rows p≠0:=by rw[e];exact d
   have ends:∀v,v=M7.hJ rows n p\/v=M7.below rows n p->M7.End rows n p v:=fun v h=>by
    rcases h with rfl|rfl;·exact M7.oJ t hp d
    ·exact M7.j9 t hp d
   refine⟨d,?_⟩;rcases c with c|c;·exact⟨_,c,ends _ lo_hi.1⟩
   ·exact⟨_,c,ends _ lo_hi.2⟩
  ·cases k
 ·rintro⟨w,d,x,l,m⟩;unfold unk;have k:M8.tri rows n p∈M8.wz (M8.trs rows n):=(M9.rN (M8.qP t)).mem_iff.mpr ((M8.k7 t).mpr ⟨p,hp,d,rfl⟩);refine eP.mpr ⟨_,k,?_⟩;have o:x=M7.hJ rows n p\/x=M7.below rows n p:=by
   have a:=M7.BC (rows:=rows) hp;have b:=M7.vT (rows:=rows) hp;have f:=t.f01 p;rcases m.ok.at p with z|z<;>rcases f with g|g;·exact .inl (M7.End.one t hp m (M7.oJ t hp d) (by rw[z,a,g]))
   ·exact .inr (M7.End.one t hp m (M7.j9 t hp d) (by rw[z,b,g];rfl))
   ·exact .inr (M7.End.one t hp m (M7.j9 t hp d) (by rw[z,b,g];rfl))
   ·exact .inl (M7.End.one t hp m (M7.oJ t hp d) (by rw[z,a,g]))
  have u:(M8.tri rows n p).1∈K75.stn rows n ts\/(M8.tri rows n p).2.1∈K75.stn rows n ts:=by
   have i:=_root_.Q.jk (M7.sC t hp);unfold M8.tri M4.lo M4.hi;dsimp only;cases c:_root_.Q.llt (M7.below rows n p) (M7.hJ rows n p)with
   |true=>
    rw[c]at i;have i:_root_.Q.llt (M7.hJ rows n p) (M7.below rows n p)=false:=i;rw[i,if_pos rfl,if_neg (by decide)];rcases o with e|e;·exact .inr (e▸l)
    ·exact .inl (e▸l)
   |false=>
    rw[c]at i;have i:_root_.Q.llt (M7.hJ rows n p) (M7.below rows n p)=true:=i;rw[i,if_neg (by decide),if_pos rfl];rcases o with e|e;·exact .inl (e▸l)
    ·exact .inr (e▸l)
  unfold unB;rw[if_pos u];refine bw.mpr ⟨(M5.la hp).mpr (by unfold M5.own;simp),decide_eq_true fun z=>?_⟩;obtain⟨q,hq,e⟩:=az.mp z;exact w (az.mpr ⟨q,hq,by lia⟩)
end
end K74
namespace K65
open K75 K61 K76
section
variable {e:Int}
def KG{q:Nat×Int}:rdT (ts++[q]) v=(rdT ts v&&decide (v.getD q.1 0=q.2)):=by unfold rdT;rw[List.all_append,j6,Ht,uC]
def wy{q:Nat×Int}:stn rows n (ts++[q])=(stn rows n ts).filter (rdT [q]):=by unfold stn;rw[List.filter_filter];refine nq fun v _=>?_;rw[KG,Bool.and_comm];congr 1;show _=(([q]:List (Nat×Int)).all _);rw[j6,Ht,uC]
def rd1{q:Nat×Int}:rdT [q] v=decide (v.getD q.1 0=q.2):=by show([q]:List (Nat×Int)).all _=_;rw[j6,Ht,uC]
def wx(h:∀v∈stn rows n ts,v.getD p 0=e):stn rows n (ts++[(p,e)])=stn rows n ts:=by rw[wy];exact Nj.mpr fun v a=>by rw[rd1];exact decide_eq_true (h v a)
def J9(h:∀v∈stn rows n ts,v.getD p 0=e):stn rows n (ts++[(p,1-e)])=[]:=by rw[wy];exact gy.mpr fun v a=>by rw[rd1,h v a];exact fun z=>by have :=of_decide_eq_true z;lia
def LL(t:M7.Tbl rows n)(d:(p:Int)∉unk rows n ts)(h:∀v∈stn rows n ts,v.getD p 0=e):knw rows n (ts++[(p,e)])=knw rows n ts:=by
 unfold knw;refine cG fun k a=>?_;have a:=aW.mp a;have b:(k:Int)∈unk rows n (ts++[(p,e)])↔(k:Int)∈unk rows n ts:=by
  by_cases c:k=p;·subst c;refine⟨fun z=>absurd ?_ ((K74.Ac t a).mp z).1,fun z=>absurd z d⟩;rw[cQ];exact a7 _ (.head _)
  ·rw[K74.Ac t a,K74.Ac t a,wx h,cQ,cX];refine and_congr_left' (not_congr ⟨fun z=>z.elim id fun z=>absurd (aT.mp z) c,.inl⟩)
 rw[wx h];by_cases c:(k:Int)∈unk rows n ts;·rw[if_pos c,if_pos (b.mpr c)]
 ·rw[if_neg c,if_neg fun z=>c (b.mp z)]
def Dd{q:Nat×Int}(h:i<ts.length):(ts++[q]).getD i (0,0)=ts.getD i (0,0):=by rw[aa,cq h,<-aa]
def Dc{q:Nat×Int}:(ts++[q]).getD ts.length (0,0)=q:=by rw[aa,bO (aw _),Nat.sub_self];rfl
def C1{q:Nat×Int}(f:Fp (M8.nW (M8.nds rows n)) (ts++[q]) i j)(ne:stn rows n ts≠[]):j=ts.length:=by
 have l:=f.jl;rw[bj,dj]at l;apply aJ;intro c;have a:j<ts.length:=by lia
 have hi:i<ts.length:=by have :=f.ij;lia
 obtain⟨v,h⟩:=DW _ ne;obtain⟨e,g⟩:=bw.mp h;have d:=f.no;rw[gy]at d;refine d v e (AE.mpr fun x hx=>?_);unfold tw at hx;rw[Dd hi,Dd a]at hx;have m:∀{k:Nat},k<ts.length->ts.getD k (0,0)∈ts:=fun{k} b=>by rw[aa,ae b];exact a9 b
 refine AE.mp g x ?_;rcases aI.mp hx with rfl|hx;·exact m hi
 ·rw[aT.mp hx];exact m a
end
end K65
namespace Mt
open Q M4
abbrev onp(par:Nat->Nat)(e:Nat):Nat->Nat->Bool
 | 0,_=>false
 |f+1,v=>if v=0 then false else decide (v=e)||onp par e f (par v)
abbrev on(par:Nat->Nat)(e v:Nat):Bool:=onp par e v v
section
variable {par:Nat->Nat}{e f:Nat}{N:Nat}(hp:∀v,1<=v->v<N->par v<v)
include hp
theorem wW:∀(k v:Nat),v<N->v<=k->onp par e k v=onp par e v v
 | 0,v,_,h=>by
  obtain rfl:v=0:=by lia
  rfl
 |k+1,v,hv,h=>by
  by_cases h0:v=0;·subst h0;rfl
  ·obtain⟨u,rfl⟩:∃u,v=u+1:=⟨v-1,by lia⟩;have a:=hp (u+1) (by lia) hv;show(if u+1=0 then false else decide (u+1=e)||onp par e k (par (u+1)))=(if u+1=0 then false else decide (u+1=e)||onp par e u (par (u+1)));rw[wW k (par (u+1)) (by lia) (by lia),wW u (par (u+1)) (by lia) (by lia)]
theorem jK{v:Nat}(b:1<=v)(a:v<N):on par e v=(decide (v=e)||on par e (par v)):=by obtain⟨u,rfl⟩:∃u,v=u+1:=⟨v-1,by lia⟩;have c:=hp (u+1) (by lia) a;show(if u+1=0 then false else decide (u+1=e)||onp par e u (par (u+1)))=_;rw[if_neg (by lia),wW hp u (par (u+1)) (by lia) (by lia)];rfl
theorem qb:∀(v:Nat),v<N->on par e v=true->e<=v/\1<=e:=fun v=>by
 induction v using kX with
 |ind v ih=>
  intro a h;by_cases h0:v=0;·subst h0;cases h
  ·rw[jK hp (by lia) a,cu,decide_eq_true_eq]at h;rcases h with h|h;·lia
   ·have b:=hp v (by lia) a;have :=ih (par v) b (by lia) h;lia
theorem jj{v:Nat}(a:1<=v)(b:v<N):on par v v=true:=by rw[jK hp a b];simp
theorem wY:∀(v:Nat),v<N->on par e v=true->on par f v=true->f<=e->on par f e=true:=fun v=>by
 induction v using kX with
 |ind v ih=>
  intro c d b h;by_cases h0:v=0;·subst h0;cases d
  ·by_cases he:v=e;·rw[<-he];exact b
   ·have g:=hp v (by lia) c;have a:=d;rw[jK hp (by lia) c,decide_eq_false he,bV]at a;have :=qb hp (par v) (by lia) a;rw[jK hp (by lia) c,decide_eq_false (by lia:¬v=f),bV]at b;exact ih (par v) g (by lia) a b h
theorem wX:∀(v:Nat),v<N->on par e v=true->on par f e=true->on par f v=true:=fun v=>by
 induction v using kX with
 |ind v ih=>
  intro b a c;by_cases h0:v=0;·subst h0;cases a
  ·by_cases he:v=e;·rw[he];exact c
   ·have d:=hp v (by lia) b;rw[jK hp (by lia) b,decide_eq_false he,bV]at a;rw[jK hp (by lia) b,ih (par v) d (by lia) a c,pV]
theorem Li{a b c d:Nat}(k:a<N)(l:b<N)(m:c<N)(g:on par e a=true/\on par f a=true)(j:on par e b=true/\on par f b=false)(i:on par e c=false/\on par f c=true):False:=by
 by_cases h:f<=e;·have :=wX hp b l j.1 (wY hp a k g.1 g.2 h);rw[j.2]at this;cases this
 ·have :=wX hp c m i.2 (wY hp a k g.2 g.1 (by lia));rw[i.1]at this;cases this
end
abbrev rdv(f:Nat->Int)(own par:Nat->Nat)(v p:Nat):Int:=if on par (own p) v=true then 1-f p else f p
abbrev nd(f:Nat->Int)(own par:Nat->Nat)(n v:Nat):List Int:=(aH n).map (rdv f own par v)
def xi{f:Nat->Int}{own par:Nat->Nat}{v:Nat}:(nd f own par n v).length=n:=by simp[nd]
def eF{f:Nat->Int}{own par:Nat->Nat}{v:Nat}(h:p<n):(nd f own par n v).getD p 0=rdv f own par v p:=by unfold nd;rw[aa,av,bN h];rfl
def rdv_bit{f:Nat->Int}{own par:Nat->Nat}{v:Nat}(hf:f p=0\/f p=1):rdv f own par v p=0\/rdv f own par v p=1:=by unfold rdv;split <;>lia
def KD{f:Nat->Int}{own par:Nat->Nat}:rdv f own par 0 p=f p:=by unfold rdv;rw[if_neg (by intro h;cases h)]
section
variable {f:Nat->Int}{own par:Nat->Nat}{N:Nat}(hp:∀v,1<=v->v<N->par v<v)(hf:∀p,p<n->f p=0\/f p=1)
include hp hf
theorem KE{v:Nat}(a:1<=v)(b:v<N)(c:p<n):(rdv f own par (par v) p+(if own p=v then 1 else 0))%2=rdv f own par v p:=by
 have d:=hp v a b;unfold rdv;rw[jK hp a b];have e:=hf p c;by_cases h:v=own p
 ·have :on par (own p) (par v)=false:=by
   cases q:on par (own p) (par v)with
   |false=>rfl
   |true=>have :=qb hp (par v) (by lia) q;lia
  rw[this,decide_eq_true h,if_pos h.symm];simp only[Bool.true_or,if_true,aZ,if_false];lia
 ·rw[decide_eq_false h,if_neg (bI h),bV];split <;>lia
theorem AD{v:Nat}(a:p<n):on par (own p) v=decide (rdv f own par v p≠f p):=by
 have b:=hf p a;unfold rdv;cases on par (own p) v with
 |true=>simp;lia
 |false=>simp
theorem Gs(hi:i<j)(d:j<N)(g:∃p,p<n/\own p=j):nd f own par n j≠nd f own par n i:=fun h=>by
 obtain⟨p,c,e⟩:=g;have q:rdv f own par j p=rdv f own par i p:=by rw[<-eF (n:=n) c,h,eF c]
 have a:=AD (own:=own) (v:=j) hp hf c;have b:=AD (own:=own) (v:=i) hp hf c;rw[q,<-b,e,jj hp (by lia) d]at a;have :=qb hp i (by lia) a.symm;lia
end
end Mt
namespace Bt
open PySem R
abbrev Cm:List Str:=["_law_cell","_law_k"]
abbrev uJ:List Str:=["_law_cell","_law_k"]
abbrev uW:CB:=
  (.cons (.ret (.bin .Mod (.bin .Mult (.bin .Add (.bin .Mod (.bin .FloorDiv (.var 0) (.con (.int 7))) (.bin .Pow (.con (.int 10)) (.con (.int 30)))) (.con (.int 1))) (.bin .Add (.con (.int 48271)) (.bin .Mult (.bin .Mult (.con (.int 7919)) (.var 1)) (.var 1)))) (.con (.int 2147483629))))
  .nil)
abbrev AL:List Str:=["_law_many","_law_seed","_law_left","_law_free"]
abbrev r9:List Str:=["_law_many","_law_seed","_law_left","_law_free","_law_some","_law_edge","_law_rows","_law_place","_law_rank","_law_owners_here","_law_at"]
abbrev kE:CB:=
  (.cons (.ret (.tup (.cons (.var 9) (.cons (.var 2) .nil))))
  .nil)
abbrev jd:CB:=
  (.cons (.expr (.meth1 .append (.var 9) (.meth1 .pop (.var 4) (.var 10))))
  .nil)
abbrev kF:CB:=
  (.cons (.asg (.name 2) (.bin .FloorDiv (.var 2) (.bfn .len (.cons (.var 4) .nil))))
  .nil)
abbrev my:CB:=
  (.cons (.iff (.cmp .GtE (.var 2) (.bfn .len (.cons (.var 4) .nil)))
  (.cons (.asg (.name 10) (.bin .Mod (.var 2) (.bfn .len (.cons (.var 4) .nil))))
  kF)
  .nil)
  jd)
abbrev mz:CB:=
  (.cons (.asg (.name 10) (.bin .Mod (.bin .FloorDiv (.var 1) (.con (.int 16))) (.bfn .len (.cons (.var 4) .nil))))
  my)
abbrev oP:CB:=
  (.cons (.whl (.cmp .NotEq (.var 4) (.lst .nil))
  (.cons (.asg (.name 1) (.bin .Mod (.bin .Add (.bin .Mult (.var 1) (.con (.int 48271))) (.con (.int 11))) (.con (.int 2147483647))))
  mz))
  kE)
abbrev kG:CB:=
  (.cons (.asg (.name 9) (.lst .nil))
  oP)
abbrev oQ:CB:=
  (.cons (.iff (.not (.var 3))
  (.cons (.ret (.tup (.cons (.comp ["_law_row"] [] (.name 0) (.lseq (.bfn .sortl (.cons (.var 6) .nil))) .no (.idx (.var 0) (.con (.int 2)))) (.cons (.var 2) .nil))))
  .nil)
  .nil)
  kG)
abbrev mB:CB:=
  (.cons (.expr (.meth1 .append (.var 6) (.tup (.cons (.var 8) (.cons (.var 7) (.cons (.idx (.var 4) (.var 7)) .nil))))))
  .nil)
abbrev oR:CB:=
  (.cons (.forr (.name 7) (.range1 (.bfn .len (.cons (.var 4) .nil)))
  (.cons (.asg (.name 8) (.bin .Mod (.bin .Mult (.bin .Add (.var 1) (.con (.int 1))) (.bin .Add (.bin .Add (.bin .Mult (.bin .Mult (.con (.int 31)) (.var 7)) (.var 7)) (.bin .Mult (.con (.int 17)) (.var 7))) (.con (.int 7)))) (.con (.int 10007))))
  mB))
  oQ)
abbrev oS:CB:=
  (.cons (.asg (.name 6) (.lst .nil))
  oR)
abbrev oU:CB:=
  (.cons (.forr (.name 5) (.range1 (.bfn .len (.cons (.var 0) .nil)))
  (.cons (.asg (.name 4) (.bin .Add (.var 4) (.bin .Mult (.lst (.cons (.var 5) .nil)) (.idx (.var 0) (.var 5)))))
  .nil))
  oS)
abbrev sO:CB:=
  (.cons (.asg (.name 4) (.lst .nil))
  oU)
abbrev Co:List Str:=["_law_script","_law_start"]
abbrev uL:List Str:=["_law_script","_law_start","_law_parents","_law_many","_law_cells","_law_room","_law_k","_law_drawn","_law_more"]
abbrev qA:CB:=
  (.cons (.ret (.tup (.cons (.var 2) (.cons (.var 3) .nil))))
  .nil)
abbrev nN:CB:=
  (.cons (.expr (.meth1 .append (.var 3) (.bin .Add (.con (.int 1)) (.var 8))))
  .nil)
abbrev nO:CB:=
  (.cons (.asg (.name 5) (.bin .Sub (.var 5) (.var 8)))
  nN)
abbrev nP:CB:=
  (.cons (.asg (.name 8) (.bfn .min (.cons (.var 5) (.cons (.idx (.lst (.cons (.con (.int 0)) (.cons (.con (.int 0)) (.cons (.con (.int 1)) (.cons (.con (.int 2)) .nil))))) (.bin .Mod (.bin .FloorDiv (.var 7) (.con (.int 31))) (.con (.int 4)))) .nil))))
  nO)
abbrev nQ:CB:=
  (.cons (.expr (.meth1 .append (.var 2) (.bin .Mod (.var 7) (.bfn .len (.cons (.var 2) .nil)))))
  nP)
abbrev qB:CB:=
  (.cons (.forr (.name 6) (.range1 (.bfn .len (.cons (.var 4) .nil)))
  (.cons (.asg (.name 7) (.call "_law_mixed" (.cons (.idx (.var 4) (.var 6)) (.cons (.bin .Add (.var 6) (.var 1)) .nil))))
  nQ))
  qA)
abbrev qC:CB:=
  (.cons (.asg (.name 5) (.bin .Sub (.con (.int 54)) (.bfn .len (.cons (.var 4) .nil))))
  qB)
abbrev qD:CB:=
  (.cons (.asg (.name 4) (.cut (.var 0) (.yes (.var 1)) (.yes (.bin .Add (.var 1) (.con (.int 30))))))
  qC)
abbrev qE:CB:=
  (.cons (.asg (.name 3) (.lst (.cons (.bin .Mod (.bin .FloorDiv (.call "_law_cell_at" (.cons (.var 0) (.cons (.con (.int 0)) .nil))) (.con (.int 7))) (.con (.int 7))) .nil)))
  qD)
abbrev uY:CB:=
  (.cons (.asg (.name 2) (.lst (.cons (.con (.int 0)) .nil)))
  qE)
end Bt
namespace Bt
open PySem PySem.Spec PyProof.Rows L2 R Cp Lt Kc
abbrev mx(c k:Int):Int:=(c/7%10^Int.toNat 30+1)*(48271+7919*k*k)%2147483629
def mx_nn(c k:Int):0<=mx c k:=cz _ (by decide)
def yZ:Sp:=fun vs H Q _=>∃c k:Int,vs=[.int c,.int k]/\0<=k/\k<=100/\Q (.int (mx c k)) H
def wp_mix:Sat G K yZ uW uJ:=by
 rintro g H Q E ⟨c,k,rfl,a,b,q⟩;unfold uW;change wpB G K _ _ _ [some (.int c),some (.int k)] H;ext;have f:0<=7919*k*k/\7919*k*k<=79190000:=by have d:0<=k*k:=Int.mul_nonneg a a;have e:k*k<=100*100:=Int.mul_le_mul b b a (by decide);rw[Int.mul_assoc];lia
 exact⟨⟨by decide,by decide⟩,⟨by decide,by decide,by decide⟩,by decide,G5 (by decide) (by decide),xR a (by lia),xR (by lia) (by lia),by decide,q⟩
abbrev iN(ks:List Nat):List V:=ks.map fun k:Nat=>V.int (k:Int)
def sk{ks:List Nat}(h:i<ks.length):(iN ks)[i]? =some (.int (ks.getD i 0:Nat)):=by unfold iN;rw[av,ae h,aa,ae h];rfl
def cV{ks:List Nat}:(iN ks).length=ks.length:=by simp[iN]
def vQ{ks:List Nat}:iN (ks++[k])=iN ks++[V.int (k:Int)]:=by simp[iN]
structure Gp(ps ms:List Nat):Prop where
 len:ms.length=ps.length
 n31:ps.length<=31
 one:1<=ps.length
 par:∀v,1<=v->v<ps.length->ps.getD v 0<v
 m0:∀v,1<=v->v<ms.length->1<=ms.getD v 0/\ms.getD v 0<=3
 sum:ms.sum<=60
def wC(K:ah):Sp:=fun vs H Q _=>∃(a:Addr)(ns:List Int)(st:Nat),vs=[.ref a,.int st]/\SqL K H a (ns.map V.int)/\ns.length<=63/\st<=10/\
 ∀(H':Hp)(p c pm:Addr)(ps b:List Nat),aQ H H'->H' p=some (.tup [.ref c,.ref pm])->H' c=some (.lst (iN ps))->H' pm=some (.lst (iN b))->Gp ps b->Q (.ref p) H'
def getD_snoc{ks:List Nat}:(ks++[k]).getD i 0=if i<ks.length then ks.getD i 0 else if i=ks.length then k else 0:=by
 rw[aa,aa];by_cases h:i<ks.length;·rw[if_pos h,cq h]
 ·rw[if_neg h,bO (by lia)];by_cases h2:i=ks.length;·rw[if_pos h2,h2];simp
  ·rw[if_neg h2,bT (by simp;lia)];rfl
structure Gb(H:Hp)(pa pm:Addr)(k L room:Nat)(ps ms:List Nat)(H':Hp):Prop where
 s:aQ H H'
 ea:H' pa=some (.lst (iN ps))
 em:H' pm=some (.lst (iN ms))
 pl:ps.length=k+1
 ml:ms.length=k+1
 par:∀v,1<=v->v<ps.length->ps.getD v 0<v
 m0:∀v,1<=v->v<ms.length->1<=ms.getD v 0/\ms.getD v 0<=3
 sum:ms.sum+room+(L-k)<=60
def Hz(g0:G.fn "_law_cell_at" 2=some (wF K,[]))(g1:G.fn "_law_mixed" 2=some (yZ,[])):
  Sat G K (wC K) uY uL:=by
 rintro vs H b4 b3 ⟨a,F,n,rfl,X,hn,b9,b2⟩;unfold uY;change wpB G K _ _ _ [some (.ref a),some (.int n),none,none,none,none,none,none,none] H;ext;refine⟨short (by simp),fun e Z=>?_⟩;have s:aQ H (upd H e (.lst [.int 0])):=aB Z;have C:upd H e (.lst [.int 0]) e=some (.lst (iN [0])):=au;generalize upd H e (.lst [.int 0])=H1 at s C⊢;unfold qE;ext;refine⟨_,_,g0,a,F,0,rfl,s.seq X,?_⟩;generalize F.getD 0 0=c;refine div_ii.mpr ⟨⟨by decide,by decide⟩,iC.mpr ⟨by decide,short (by show 1<=40;decide),fun i E=>?_⟩⟩;obtain⟨q,a6⟩:=bU (cz (c/7) (by decide:(7:Int)≠0));have b7:q<=6:=by have :=bX (c/7) (by decide:(0:Int)<7);lia
 rw[a6];have t:aQ H1 (upd H1 i (.lst [.int q])):=aB E;have M:upd H1 i (.lst [.int q]) i=some (.lst (iN [q])):=au;have a1:e≠i:=fun z=>by rw[<-z,C]at E;cases E
 have a4:H i=none:=s.free E;generalize upd H1 i (.lst [.int q])=H2 at t M⊢;unfold qD;ext;obtain⟨f,S⟩:=K21.Ds F (some (n:Int)) (some ((n:Int)+30));refine .inl ⟨a,_,rfl,(s.trans t).seq X,fun l p=>?_⟩;rw[S];have b5:f.length<=30:=by
  have a2:(pX (F.map V.int) (some (n:Int)) (some ((n:Int)+30))).length=f.length:=by rw[S,ai]
  rw[<-a2];unfold pX;rw[dz,show(some ((n:Int)+30))=some ((n+30:Nat):Int) by simp,HT.pB,HT.pB];lia
 have I:aQ H2 (upd H2 l (.lst (f.map V.int))):=aB p;have D:upd H2 l (.lst (f.map V.int)) l=some (.lst (f.map V.int)):=au;have a9:e≠l:=fun z=>by rw[<-z,t _ _ C]at p;cases p
 have b0:i≠l:=fun z=>by rw[<-z,M]at p;cases p
 have fl:H l=none:=(s.trans t).free p;generalize upd H2 l (.lst (f.map V.int))=H3 at I D⊢;unfold qC;ext;refine Or.inl ⟨l,_,rfl,.inl (SqL.of D),?_⟩;rw[ai];ext;unfold qB;ext;refine gH ?_;ext;refine Or.inl ⟨l,_,rfl,.inl (SqL.of D),_,rfl,by rw[ai];lia,by rw[ai];lia,?_⟩;rw[ai,aN];refine fN dD (fun k O P=>∃(j:Nat)(h r:List Nat),Gb H e i k f.length j h r P/\P l=some (.lst (f.map V.int))/\∃u v w,O=[some (.ref a),some (.int n),some (.ref e),some (.ref i),some (.ref l),some (.int j),u,v,w])
  ⟨54-f.length,[0],[q],⟨s.trans (t.trans I),I _ _ (t _ _ C),I _ _ M,rfl,rfl,fun v B o=>by simp at o;lia,fun v B o=>by simp at o;lia,by simp;lia⟩,D,none,none,none,by rw[show((54-f.length:Nat):Int)=54-(f.length:Int) by lia]⟩ (fun _ _ _ _ _=>trivial) ?_ ?_
 ·rintro k c2 O H4 A D2 hk ⟨j,h,r,g,T,u,v,w,rfl⟩ rfl J hD _;have U:=J _ _ T;have L:=J _ _ g.ea;have a3:=J _ _ g.em;have sH:=g.s.trans J;ext;simp only[fB];have a5:(f.map V.int)[k]? =some (.int (f.getD k 0)):=K32.iv hk;refine⟨_,_,g1,.inl ⟨l,_,k,_,rfl,rfl,SqL.of U,cf a5,?_⟩⟩;ext;refine⟨_,_,rfl,by lia,by lia,?_⟩;generalize f.getD k 0=cc;have hd:=mx_nn cc ((k:Int)+(n:Int));generalize mx cc ((k:Int)+(n:Int))=d at hd;have a0:=g.pl;have Y:=g.ml;unfold nQ;ext;refine⟨.inl ⟨rfl,_,SqL.of L⟩,Or.inl ⟨e,_,rfl,.inl (SqL.of L),?_⟩⟩;rw[cV];refine iC.mpr ⟨by lia,?_⟩;obtain⟨z,hz⟩:=bU (cz d (by lia:(h.length:Int)≠0));have c1:z<h.length:=by have :=bX d (by lia:(0:Int)<(h.length:Int));lia
  rw[hz];refine⟨e,_,_,rfl,rfl,L,K32.xq (by rw[cV];lia),?_⟩;rw[<-vQ];have Q:upd A e (.lst (iN (h++[z]))) e=some (.lst (iN (h++[z]))):=au;have N:upd A e (.lst (iN (h++[z]))) i=some (.lst (iN r)):=by rw[ba (bI a1)];exact a3
  have W:upd A e (.lst (iN (h++[z]))) l=some (.lst (f.map V.int)):=by rw[ba (bI a9)];exact U
  have s6:aQ H (upd A e (.lst (iN (h++[z])))):=eH sH Z;generalize upd A e (.lst (iN (h++[z])))=H6 at Q N W s6⊢;unfold nP;ext;refine⟨short (by show 4<=40;decide),fun b hb=>?_⟩;have x:aQ H6 (upd H6 b (.lst [.int 0,.int 0,.int 1,.int 2])):=aB hb;have R:upd H6 b (.lst [.int 0,.int 0,.int 1,.int 2]) b=some (.lst (iN [0,0,1,2])):=au;generalize upd H6 b (.lst [.int 0,.int 0,.int 1,.int 2])=H7 at x R⊢;obtain⟨y,hy⟩:=bU (cz (d/31) (by decide:(4:Int)≠0));have c0:y<4:=by have :=bX (d/31) (by decide:(0:Int)<4);lia
  refine⟨⟨by decide,by decide⟩,by decide,?_⟩;rw[hy];refine .inl ⟨b,_,y,_,rfl,rfl,SqL.of R,cf (sk (by simp;lia)),?_⟩;have hw:[0,0,1,2].getD y 0<=2:=by
   have :y=0\/y=1\/y=2\/y=3:=by lia
   rcases this with rfl|rfl|rfl|rfl<;>decide
  generalize[0,0,1,2].getD y 0=more at hw;refine⟨_,_,rfl,?_⟩;obtain⟨m,a7,b8,b6⟩:∃m:Nat,(if(more:Int)<(j:Int)then(more:Int)else(j:Int))=(m:Int)/\m<=j/\m<=2:=by
   split;·exact⟨more,rfl,by lia,hw⟩
   ·exact⟨j,rfl,aw _,by lia⟩
  rw[a7];unfold nO;ext;unfold nN;ext;refine⟨.inl ⟨rfl,_,SqL.of (x _ _ N)⟩,i,_,_,rfl,rfl,x _ _ N,K32.xq (by rw[cV];lia),?_⟩;rw[show(1:Int)+(m:Int)=((1+m:Nat):Int) by lia,<-vQ,show(j:Int)-(m:Int)=((j-m:Nat):Int) by lia];have a8:=g.sum;refine hD _ _ ⟨j-m,h++[z],r++[1+m],⟨eH (s6.trans x) a4,?_,au,by simp[a0],by simp[Y],fun v B o=>?_,fun v B o=>?_,?_⟩,?_,_,_,_,rfl⟩;·rw[ba a1];exact x _ _ Q
  ·rw[getD_snoc];split;·exact g.par v B (by assumption)
   ·split;·lia
    ·lia
  ·rw[getD_snoc];split;·exact g.m0 v B (by assumption)
   ·rw[bj,dj]at o;rw[if_pos (by lia)];lia
  ·rw[List.sum_append];simp;lia
  ·rw[ba (bI b0)];exact x _ _ W
 ·rintro O H4 ⟨j,h,r,g,T,u,v,w,rfl⟩;unfold qA;ext;have a0:=g.pl;have Y:=g.ml;have a8:=g.sum;refine⟨short (by simp),fun b1 hp=>b2 _ b1 e i h r (g.s.trans (aB hp)) au (aB hp _ _ g.ea) (aB hp _ _ g.em) ⟨by lia,by lia,by lia,g.par,g.m0,by lia⟩⟩
abbrev gZ(a:List Nat)(k:Nat):List Nat:=(aH k).flatMap fun e=>bz (a.getD e 0) e
def oG(a:List Nat)(k:Nat):gZ a (k+1)=gZ a k++bz (a.getD k 0) k:=by unfold gZ;rw[kN,kY];simp
theorem qX(a:List Nat):∀k,k<=a.length->(gZ a k).length=(a.take k).sum
 | 0,_=>rfl
 |k+1,h=>by rw[oG,bj,qX a k (by lia),jJ,dM,List.sum_append,aa];cases a[k]? <;>simp
theorem og:∀(a:List Nat)(k:Nat),(a.take k).sum<=a.sum
 | [],k=>by simp
 |m::a,0=>by simp
 |m::a,k+1=>by rw[List.take_succ_cons,List.sum_cons,List.sum_cons];have :=og a k;lia
def rep_iN(e m:Nat):(bz m [V.int (e:Int)]).flatten=iN (bz m e):=by
 unfold iN;rw[List.map_replicate]
 induction m with
 |zero=>rfl
 |succ m ih=>rw[dP,jr,ih,dP];rfl
def iN_app(a b:List Nat):iN (a++b)=iN a++iN b:=by simp[iN]
def iN_ints(ks:List Nat):iN ks=(ks.map fun k:Nat=>(k:Int)).map V.int:=by unfold iN;rw[bp];rfl
def nil_iN{t p:Addr}{fs:List Nat}(b:H t=some (.lst (iN fs)))(c:H p=some (.lst [])):∃d a,Rep K H d (.ref t)/\Rep K H a (.ref p)/\hgt d<=30/\eqD d a=decide (fs=[]):=by rw[iN_ints]at b;obtain⟨d,a,e,f,g,h⟩:=K22.CF (K:=K) (SqL.of b) c;refine⟨d,a,e,f,g,?_⟩;rw[h];exact decide_eq_decide.mpr (by simp)
theorem uR:∀(l:List Nat)(z:Nat)(h:z<l.length),(l[z]::l.eraseIdx z).Perm l
 | [],_,h=>absurd h (du _)
 |a::l,0,_=>d7 _
 |a::l,z+1,h=>by
  have b:z<l.length:=by simpa using h
  exact(ym a l[z] (l.eraseIdx z)).trans ((uR l z b).cons a)
def wA:Sp:=fun vs H Q _=>∃(pm:Addr)(b left:Int)(free:Bool)(a:List Nat),vs=[.ref pm,.int b,.int left,.bl free]/\H pm=some (.lst (iN a))/\a.length<=31/\a.sum<=60/\0<=b/\b<=10007/\
 ∀(H':Hp)(p l:Addr)(os:List Nat)(c:Int),aQ H H'->H' p=some (.tup [.ref l,.int c])->H l=none->H' l=some (.lst (iN os))->os.Perm (gZ a a.length)->Q (.ref p) H'
section
variable {G:Gam}{E:XS}{D:Ends}
def JI{Q:VK}(hr:D.rt=Q){t h:Addr}{F:List Nat}{k j:Int}{s:List Nat}{a b r c e f:Option V}(T:aQ H H1)(a0:H h=none)(i:H1 h=some (.lst (iN s)))(hl:s.length<=60)
  (q:∀(H':Hp)(p l:Addr)(os:List Nat)(a2:Int),aQ H H'->H' p=some (.tup [.ref l,.int a2])->H l=none->H' l=some (.lst (iN os))->os.Perm s->Q (.ref p) H'):
  wpB G K E kG D [some (.ref t),some (.int k),some (.int j),a,some (.ref h),b,r,c,e,f,none] H1:=by
 unfold kG;ext;refine⟨short (by simp),fun l y=>?_⟩;have I:aQ H1 (upd H1 l (.lst [])):=aB y;have o:upd H1 l (.lst []) l=some (.lst (iN [])):=au;have S:h≠l:=fun z=>by rw[<-z,i]at y;cases y
 have O:H l=none:=T.free y;have i:=I _ _ i;generalize upd H1 l (.lst [])=H2 at I o i⊢;unfold oP;ext;refine⟨fun m U H'=>∃(g os:List Nat)(k j:Int)(u:Option V),m=g.length/\aQ H H'/\H' h=some (.lst (iN g))/\H' l=some (.lst (iN os))/\(os++g).Perm s/\U=[some (.ref t),some (.int k),some (.int j),a,some (.ref h),b,r,c,e,some (.ref l),u],
  ⟨_,s,[],k,j,none,rfl,T.trans I,i,o,d7 _,rfl⟩,?_⟩
 rintro m U x ⟨g,os,k,j,u,rfl,s3,i,o,C,rfl⟩;have a3:os.length+g.length=s.length:=by have :=C.length_eq;simpa using this
 ext;refine⟨short (by simp),fun B a1=>?_⟩;have J:aQ x (upd x B (.lst [])):=aB a1;have M:upd x B (.lst []) B=some (.lst []):=au;have i:=J _ _ i;have o:=J _ _ o;have L:=s3.trans J;generalize upd x B (.lst [])=H4 at M i o L⊢;obtain⟨d,W,r1,r2,r3,r4⟩:=nil_iN (K:=K) i M;refine⟨d,W,r1,r2,r3,_,rfl,?_⟩;rw[r4];by_cases hz:g=[];·rw[decide_eq_true hz,if_neg (by simp)];unfold kE;ext;refine⟨short (by simp),fun p hp=>?_⟩;rw[hr];rw[hz,ff]at C;exact q _ p l os j (L.trans (aB hp)) au O (aB hp _ _ o) C
 ·rw[decide_eq_false hz,if_pos (by simp)];have a4:0<g.length:=fR.mpr hz;have w:(0:Int)<(g.length:Int):=by lia
  refine⟨fun v H'=>∃(n os:List Nat)(k j:Int)(u:Option V),n.length<g.length/\aQ H H'/\H' h=some (.lst (iN n))/\H' l=some (.lst (iN os))/\(os++n).Perm s/\v=[some (.ref t),some (.int k),some (.int j),a,some (.ref h),b,r,c,e,some (.ref l),u],
   fun v H' ⟨n,os,k,j,u,P,h2,h3,h4,h5,h6⟩=>⟨_,P,n,os,k,j,u,rfl,h2,h3,h4,h5,h6⟩,?_⟩
  refine⟨xR (by decide) (by decide),by decide,?_⟩;generalize(k*48271+11)%2147483647=sd
  --the drawn place,whichever way
  have N:∀(at_ R:Int),0<=at_->at_<(g.length:Int)->wpB G K E jd {nx:=fun v H'=>∃(n os:List Nat)(k j:Int)(u:Option V),n.length<g.length/\aQ H H'/\H' h=some (.lst (iN n))/\H' l=some (.lst (iN os))/\(os++n).Perm s/\v=[some (.ref t),some (.int k),some (.int j),a,some (.ref h),b,r,c,e,some (.ref l),u],rt:=D.rt,bk:=wpB G K E kE D,ct:=fun v H'=>∃(n os:List Nat)(k j:Int)(u:Option V),n.length<g.length/\aQ H H'/\H' h=some (.lst (iN n))/\H' l=some (.lst (iN os))/\(os++n).Perm s/\v=[some (.ref t),some (.int k),some (.int j),a,some (.ref h),b,r,c,e,some (.ref l),u]}
    [some (.ref t),some (.int sd),some (.int R),a,some (.ref h),b,r,c,e,some (.ref l),some (.int at_)] H4:=by
   intro at_ R h0 P;obtain⟨z,rfl⟩:=bU h0;have A:z<g.length:=by lia
   unfold jd;ext;refine⟨.inl ⟨rfl,_,SqL.of o⟩,.inl ⟨rfl,_,SqL.of i⟩,.inr ⟨h,_,z,z,_,rfl,rfl,i,by lia,by lia,?_,sk A,?_⟩⟩;·rw[cV,D1 (by lia) (by lia)];simp
   have X:(iN g).eraseIdx z=iN (g.eraseIdx z):=by unfold iN;rw[yl,yl,cQ,List.map_take,List.map_drop]
   rw[X];have Y:upd H4 h (.lst (iN (g.eraseIdx z))) l=some (.lst (iN os)):=by rw[ba (bI S)];exact o
   refine⟨l,iN os,_,rfl,rfl,Y,K32.xq (by rw[cV];lia),?_⟩;have Z:g.getD z 0=g[z]:=by rw[aa,ae A];rfl
   rw[Z,<-vQ];refine⟨g.eraseIdx z,os++[g[z]],_,_,_,?_,eH (eH L a0) O,?_,au,?_,rfl⟩;·rw[lO A];lia
   ·rw[ba S];exact au
   ·rw[nr];exact((uR g z A).append_left os).trans C
  unfold mz;ext;refine⟨⟨by decide,by decide⟩,Or.inl ⟨h,_,rfl,.inl (SqL.of i),?_⟩⟩;rw[cV];refine iC.mpr ⟨w,?_⟩;unfold my;ext;refine Or.inl ⟨h,_,rfl,.inl (SqL.of i),?_⟩;rw[cV];refine Mg.mpr ⟨_,rfl,?_⟩;by_cases hge:(g.length:Int)<=j;·rw[decide_eq_true hge,if_pos rfl];refine Or.inl ⟨h,_,rfl,.inl (SqL.of i),?_⟩;rw[cV];refine iC.mpr ⟨w,?_⟩;unfold kF;ext;refine Or.inl ⟨h,_,rfl,.inl (SqL.of i),?_⟩;rw[cV];refine div_ii.mpr ⟨⟨w,by lia⟩,?_⟩;exact N _ _ (cz _ (by lia)) (bX _ w)
  ·rw[decide_eq_false hge,if_neg ak];exact N _ _ (cz _ (by lia)) (bX _ w)
abbrev jC(a:Nat->Int)(b:List Nat)(k:Nat):List (List Int):=(aH k).map fun j:Nat=>[a j,(j:Int),(b.getD j 0:Nat)]
def F5(d:Nat->Int)(f:List Nat)(k:Nat):(jC d f k).Nodup:=by
 unfold jC;refine de.mpr (yo.imp ?_);intro a b c e;injection e with _ e
 injection e with e _;exact c (by lia)
def HY(a:Nat->Int)(b:List Nat)(k:Nat):jC a b (k+1)=jC a b k++[[a k,(k:Int),(b.getD k 0:Nat)]]:=by unfold jC;rw[kN,cQ];rfl
abbrev rank(a:Int)(j:Nat):Int:=(a+1)*(31*(j:Int)*(j:Int)+17*(j:Int)+7)%10007
def HI{c:Nat->Int}{b:List Nat}(h:_root_.Q.IntKeys H ys (jC c b b.length)):∃os:List Nat,os.Perm b/\os.length=b.length/\(_root_.Q.cB V.non (jC c b b.length) ys).length=os.length/\∀(i:Nat) v,(_root_.Q.cB V.non (jC c b b.length) ys)[i]? =some v->∃a x y,v=.ref a/\H a=some (.tup [x,y,.int (os.getD i 0:Nat)]):=by
 have s:=K32.eZ h;have q:(jC c b b.length).length=b.length:=by simp[jC]
 have k:=_root_.Q.lV (F5 c b b.length);rw[q]at k;refine⟨(_root_.Q.wU (jC c b b.length)).map fun i=>b.getD i 0,?_,by rw[ai,k.length_eq,aR],by unfold _root_.Q.cB;rw[ai,ai],fun i v e=>?_⟩;·have h:=k.map fun i=>b.getD i 0;rw[_root_.Q.range_getD]at h;exact h
 ·unfold _root_.Q.cB at e;rw[av]at e;obtain⟨j,m,rfl⟩:=ja.mp e;have d:j<b.length:=aW.mp (k.mem_iff.mp (aG m));have at_:∀{ys:List V}{g:List (List Int)},_root_.Q.IntKeys H ys g->∀j,j<g.length->∃a,ys.getD j .non=V.ref a/\H a=some (.tup ((g.getD j []).map V.int)):=by
   intro ys g h
   induction h with
   |nil=>intro j d;exact absurd d (du _)
   |cons r t ih=>
    intro j d;cases j with
    |zero=>obtain⟨a,e,f⟩:=r;exact⟨a,e,f⟩
    |succ j=>exact ih j (by simpa using d)
  obtain⟨a,n,l⟩:=at_ h j (by lia);have o:(jC c b b.length).getD j []=[c j,(j:Int),(b.getD j 0:Nat)]:=by unfold jC;rw[aa,av,bN d];rfl
  rw[o]at l;have p:((_root_.Q.wU (jC c b b.length)).map fun i=>b.getD i 0).getD i 0=b.getD j 0:=by rw[aa,av,m];rfl
  rw[p];exact⟨a,_,_,n,l⟩
def Hx:Sat G K wA sO r9:=by
 rintro S H b6 b5 ⟨D,f,L,free,l,rfl,W,c0,b0,c2,c3,q⟩;unfold sO;change wpB G K _ _ _ [some (.ref D),some (.int f),some (.int L),some (.bl free),none,none,none,none,none,none,none] H;ext;refine⟨short (by simp),fun C a1=>?_⟩;unfold oU;ext;refine gH ?_;ext;have R:aQ H (upd H C (.lst [])):=aB a1;have U:upd H C (.lst []) C=some (.lst (iN [])):=au;generalize upd H C (.lst [])=H0 at R U⊢;refine Or.inl ⟨D,_,rfl,.inl (SqL.of (R _ _ W)),_,rfl,by rw[cV];lia,by rw[cV];lia,?_⟩;rw[cV,aN];have a2:∀k,k<=l.length->(gZ l k).length<=60:=fun k s=>by rw[qX l k s];exact aL (og l k) b0
 refine fN dD (fun k y w=>aQ H w/\∃h u,H h=none/\w h=some (.lst (iN (gZ l k)))/\y=[some (.ref D),some (.int f),some (.int L),some (.bl free),some (.ref h),u,none,none,none,none,none])
  ⟨R,C,none,a1,U,rfl⟩ (fun _ _ _ _ _=>trivial) ?_ ?_
 ·rintro k x y z T D2 s ⟨m,h,u,Y,a,rfl⟩ rfl E O _;have a:=E _ _ a;have m:=m.trans E;ext;simp only[fB];refine⟨short (by simp),fun b hb=>?_⟩;generalize hX:upd T b _=A;obtain⟨n,eb⟩:=cU hX hb;clear hX;refine .inl ⟨D,_,k,_,rfl,rfl,SqL.of (n _ _ (m _ _ W)),cf (sk s),?_⟩;have b9:(gZ l k).length+l.getD k 0<=60:=by have :=a2 (k+1) s;rw[oG,bj,jJ]at this;exact this
  refine .inr (.inl ⟨b,_,_,rfl,rfl,eb,by lia,by lia,K32.dA (by rw[aN,dj,Nat.one_mul];lia),fun c hc=>?_⟩);rw[aN,rep_iN];generalize hX:upd A c _=N;obtain⟨e,ec⟩:=cU hX hc;clear hX;refine .inr (.inr (.inl ⟨h,c,_,_,rfl,rfl,e _ _ (n _ _ a),ec,K32.dA (by rw[cV,cV,jJ];lia),fun a5 hd=>?_⟩));rw[<-iN_app,<-oG];have d:=m.trans (n.trans e);exact O _ _ ⟨d.trans (aB hd),a5,_,d.free hd,au,rfl⟩
 rintro y z ⟨m,h,u,Y,a,rfl⟩;have Z:=a2 l.length (aw _);generalize gZ l l.length=ss at q a Z;unfold oS;ext;refine⟨short (by simp),fun g J=>?_⟩;have E:aQ z (upd z g (.lst [])):=aB J;have r:upd z g (.lst []) g=some (.lst []):=au;have b2:h≠g:=fun b4=>by rw[<-b4,a]at J;cases J
 have a6:H g=none:=m.free J;have a:=E _ _ a;have m:=m.trans E;generalize upd z g (.lst [])=T at r a m⊢;unfold oR;ext;refine gH ?_;ext;refine Or.inl ⟨h,_,rfl,.inl (SqL.of a),_,rfl,by rw[cV];lia,by rw[cV];lia,?_⟩;rw[cV,aN];refine fN dD (fun k y w=>aQ H w/\w h=some (.lst (iN ss))/\∃j x a3,w g=some (.lst j)/\_root_.Q.IntKeys w j (jC (rank f) ss k)/\y=[some (.ref D),some (.int f),some (.int L),some (.bl free),some (.ref h),u,some (.ref g),x,a3,none,none])
  ⟨m,a,[],none,none,r,.nil,rfl⟩ (fun _ _ _ _ _=>trivial) ?_ ?_
 ·rintro k x y A N D2 s ⟨n,a,j,x',y',r,t,rfl⟩ rfl e O _;have a:=e _ _ a;have r:=e _ _ r;have t:=K32.eB (K32.Tk.of e) t;have n:=n.trans e;have P:=K32.eZ t;rw[show(jC (rank f) ss k).length=k by simp[jC]]at P;ext;simp only[fB];have b8:0<=31*(k:Int)*(k:Int)/\31*(k:Int)*(k:Int)<=111600:=by have h1:0<=(k:Int)*(k:Int):=Int.mul_nonneg (by lia) (by lia);have h2:(k:Int)*(k:Int)<=60*60:=Int.mul_le_mul (by lia) (by lia) (by lia) (by decide);rw[Int.mul_assoc];lia
  refine⟨G5 (by decide) (by decide),xR (by lia) (by lia),G5 (by decide) (by decide),G5 (by lia) (by lia),by decide,?_⟩;rw[show(f+1)*(31*(k:Int)*(k:Int)+17*(k:Int)+7)%10007=rank f k from rfl];unfold mB;ext;refine⟨.inl ⟨rfl,_,SqL.of r⟩,.inl ⟨h,_,k,_,rfl,rfl,SqL.of a,cf (sk s),short (by simp),fun p hp=>?_⟩⟩;generalize hX:upd N p _=B;obtain⟨d,ep⟩:=cU hX hp;clear hX;have X:=d _ _ r;refine⟨g,j,_,rfl,rfl,X,K32.xq (by lia),?_⟩;have tk:K32.Tk B (upd B g (.lst (j++[.ref p]))):=K32.tM X;refine O _ _ ⟨eH (n.trans d) a6,?_,_,_,_,au,?_,rfl⟩;·rw[ba b2];exact d _ _ a
  ·rw[HY];exact K32.Paired.snoc ⟨p,rfl,tk _ _ ep⟩ (K32.eB tk (K32.eB (K32.Tk.of d) t))
 rintro y A ⟨n,a,j,x',y',r,t,rfl⟩;have P:=K32.eZ t;rw[show(jC (rank f) ss ss.length).length=ss.length by simp[jC]]at P;unfold oQ;ext;refine⟨free,rfl,?_⟩;cases free with
 |true=>rw[if_neg (by simp)];exact JI (F:=ss) rfl n Y a Z q
 |false=>
  rw[if_pos (by simp)];refine cN ?_;ext;refine⟨g,j,_,3,rfl,SqL.of r,by simp[jC];lia,F5 _ _ _,fun k s=>?_,t,fun M a9=>?_⟩;·unfold jC at s;obtain⟨c5,_,rfl⟩:=az.mp s;rfl
  obtain⟨Q,b3,c1,a8,a0⟩:=HI t;have e:=aB (o:=.lst (_root_.Q.cB V.non (jC (rank f) ss ss.length) j)) a9;have I:upd A M (.lst (_root_.Q.cB V.non (jC (rank f) ss ss.length) j)) M=some (.lst (_root_.Q.cB V.non (jC (rank f) ss ss.length) j)):=au;generalize _root_.Q.cB V.non (jC (rank f) ss ss.length) j=zs at e I a8 a0⊢;generalize upd A M (.lst zs)=N at e I⊢;refine⟨M,rfl,⟨_,SqL.of I⟩,dN (dc (xs:=zs)) (K32.dA (by lia)) (fun B d=>d.seq (SqL.of I)) (fun i v _=>v=.int (Q.getD i 0:Nat)) (fun _ _ _ _ _ a7=>a7) (fun τ=>∃u,τ=[u]) ⟨none,rfl⟩ ?_ ?_⟩;·rintro i v τ B b7 hi ⟨u,rfl⟩ d hv kk;obtain⟨a4,x,a3,rfl,ea⟩:=a0 i v hv;ext;exact .inr (.inl ⟨a4,_,2,_,rfl,rfl,SqT.of (d _ _ (e _ _ ea)),rfl,kk _ _ _ ⟨_,rfl⟩ (aQ.refl _) rfl⟩)
  ·intro S B b1 c4 hF d hl;have ev:S=iN Q:=by
    unfold iN;apply gT;intro i;rw[av];by_cases hi:i<S.length;·rw[ae hi,hF i _ (ae hi),ae (by lia),aa,ae (by lia)];rfl
    ·rw[bT (by lia),bT (by lia)];rfl
   rw[ev];refine⟨short (by simp),fun p hp=>?_⟩;have s6:=n.trans (e.trans d);exact q _ p b1 Q L (s6.trans ((aB hl).trans (aB hp))) au (s6.free hl) (aB hp _ _ au) b3
end
end Bt
namespace Bt
open PySem R
abbrev Ck:List Str:=["_law_parents","_law_owners_here","_law_seed","_law_bits","_law_free"]
abbrev uI:List Str:=["_law_parents","_law_owners_here","_law_seed","_law_bits","_law_free","_law_first","_law_place","_law_nodes_here","_law_edge","_law_above"]
abbrev qr:CB:=
  (.cons (.ret (.var 7))
  .nil)
abbrev nL:CB:=
  (.cons (.expr (.meth1 .append (.var 7) (.bfn .tuple (.cons (.comp ["_law_k"] [9,8,1] (.name 0) (.range1 (.bfn .len (.cons (.var 1) .nil))) .no (.bin .Mod (.bin .Add (.idx (.var 1) (.var 0)) (.bfn .int (.cons (.cmp .Eq (.idx (.var 3) (.var 0)) (.var 2)) .nil))) (.con (.int 2)))) .nil))))
  .nil)
abbrev qt:CB:=
  (.cons (.forr (.name 8) (.range2 (.con (.int 1)) (.bfn .len (.cons (.var 0) .nil)))
  (.cons (.asg (.name 9) (.idx (.var 7) (.idx (.var 0) (.var 8))))
  nL))
  qr)
abbrev qu:CB:=
  (.cons (.asg (.name 7) (.lst (.cons (.bfn .tuple (.cons (.var 5) .nil)) .nil)))
  qt)
abbrev ix:CB:=
  (.cons (.asg (.name 3) (.bin .FloorDiv (.var 3) (.con (.int 2))))
  .nil)
abbrev qv:CB:=
  (.cons (.forr (.name 6) (.range1 (.bfn .len (.cons (.var 1) .nil)))
  (.cons (.expr (.meth1 .append (.var 5) (.bin .Mod (.idx (.lst (.cons (.bin .FloorDiv (.var 2) (.bin .Add (.var 6) (.con (.int 1)))) (.cons (.var 3) .nil))) (.bfn .int (.cons (.and (.var 4) (.cmp .Gt (.var 3) (.con (.int 1)))) .nil))) (.con (.int 2)))))
  ix))
  qu)
abbrev uV:CB:=
  (.cons (.asg (.name 5) (.lst .nil))
  qv)
abbrev EH:List Str:=["_law_k","_law_seed"]
abbrev xk:List Str:=["_law_k","_law_seed","_law_place","_law_word"]
abbrev sP:CB:=
  (.cons (.ret (.bin .Add (.bin .Add (.var 3) (.idx (.con (.str "xy")) (.bin .FloorDiv (.var 0) (.con (.int 25))))) (.cut (.con (.str "mmm")) (.yes (.var 2)) .no)))
  .nil)
abbrev sQ:CB:=
  (.cons (.asg (.name 3) (.bin .Add (.cut (.con (.str "mmm")) .no (.yes (.var 2))) (.idx (.con (.str "abcdefghijklnopqrstuvwxyz")) (.bin .Mod (.bin .Add (.bin .Mult (.var 0) (.con (.int 7))) (.var 1)) (.con (.int 25))))))
  sP)
abbrev xZ:CB:=
  (.cons (.asg (.name 2) (.bin .Mod (.var 1) (.con (.int 4))))
  sQ)
end Bt
namespace Bt
open PySem PySem.Spec PyProof.Rows L2 R Cp Lt Kc
abbrev LB:Str:="abcdefghijklnopqrstuvwxyz"
abbrev nmT(pl a b:Nat):Str:=((xP "mmm" none (some (pl:Int))++(⟨#[LB.cps.toList.getD a 0]⟩:Str))++(⟨#[(bu "xy").cps.toList.getD b 0]⟩:Str))++xP "mmm" (some (pl:Int)) none
def nmT_ok:∀(pl:Fin 4)(a:Fin 25)(b:Fin 2),iB (nmT pl a b)=true:=by decide+kernel
def nmT_inj:∀(pl:Fin 4)(a:Fin 25)(b:Fin 2)(c:Fin 25)(d:Fin 2),nmT pl a b=nmT pl c d->a=c/\b=d:=by decide+kernel
abbrev nmB(a:Int)(k:Nat):Str:=nmT (a%4).toNat (((k:Int)*7+a)%25).toNat (k/25)
def mX{m:Int}(n:Nat)(h:0<n):∃z:Nat,m%(n:Int)=(z:Int)/\z<n:=by obtain⟨z,a⟩:=bU (cz m (by lia:(n:Int)≠0));have :=bX m (by lia:(0:Int)<(n:Int));exact⟨z,a,by lia⟩
def nmB_ok{b:Int}(h:k<50):iB (nmB b k)=true:=by obtain⟨p,hp,e⟩:=mX (m:=b) 4 (by decide);obtain⟨a,c,d⟩:=mX (m:=(k:Int)*7+b) 25 (by decide);unfold nmB;rw[show(4:Int)=((4:Nat):Int)from rfl,show(25:Int)=((25:Nat):Int)from rfl,hp,c];exact nmT_ok ⟨p,e⟩ ⟨a,d⟩ ⟨k/25,by lia⟩
def nmB_inj{c:Int}(hi:i<50)(r:j<50)(h:nmB c i=nmB c j):i=j:=by obtain⟨p,hp,n⟩:=mX (m:=c) 4 (by decide);obtain⟨a,f,k⟩:=mX (m:=(i:Int)*7+c) 25 (by decide);obtain⟨b,g,l⟩:=mX (m:=(j:Int)*7+c) 25 (by decide);unfold nmB at h;rw[show(4:Int)=((4:Nat):Int)from rfl,show(25:Int)=((25:Nat):Int)from rfl,hp,f,g]at h;obtain⟨d,e⟩:=nmT_inj ⟨p,n⟩ ⟨a,k⟩ ⟨i/25,by lia⟩ ⟨b,l⟩ ⟨j/25,by lia⟩ h;have d:a=b:=congrArg Fin.val d;have e:i/25=j/25:=congrArg Fin.val e;have o:((i:Int)*7+c)%25=(a:Int):=f;have q:((j:Int)*7+c)%25=(b:Int):=g;lia
def spNm:Sp:=fun vs H Q _=>∃(k:Nat)(a:Int),vs=[.int k,.int a]/\k<50/\Q (.str (nmB a k)) H
def lb_len:LB.cps.toList.length=25:=by decide+kernel
def lb_len':LB.length<=sizeLine:=by decide+kernel
def cut3:∀pl:Fin 4,(xP "mmm" none (some (pl.val:Int))).length<=3/\(xP "mmm" (some (pl.val:Int)) none).length<=3:=by decide+kernel
theorem Cv(c:Nat):(⟨#[c]⟩:Str).length=1:=rfl
def wp_nm:Sat G K spNm xZ xk:=by
 rintro o H Q E ⟨k,b,rfl,n,q⟩;unfold xZ;change wpB G K _ _ _ [some (.int k),some (.int b),none,none] H;ext;refine⟨by decide,?_⟩;obtain⟨p,hp,i⟩:=mX (m:=b) 4 (by decide);obtain⟨a,c,l⟩:=mX (m:=(k:Int)*7+b) 25 (by decide);have hp:b%4=(p:Int):=hp;have c:((k:Int)*7+b)%25=(a:Int):=c;unfold nmB at q;rw[hp,c,aN,aN]at q;rw[hp];obtain⟨d,e⟩:=cut3 ⟨p,i⟩;have d:(xP (bu "mmm") none (some (p:Int))).length<=3:=d;have e:(xP (bu "mmm") (some (p:Int)) none).length<=3:=e;unfold sQ;ext;refine⟨by decide+kernel,xR (by decide) (by decide),by decide,?_⟩;rw[c];have g:LB.cps.toList[a]? =some (LB.cps.toList.getD a 0):=by rw[aa,ae (by rw[lb_len];lia)];rfl
 refine⟨_,lb_len',cf g,?_⟩;refine⟨short (by rw[Cv];lia),?_⟩;unfold sP;ext;refine⟨⟨by decide,by decide⟩,?_⟩;have h:(k:Int)/25=((k/25:Nat):Int):=by lia
 have j:(bu "xy").cps.toList[k/25]? =some ((bu "xy").cps.toList.getD (k/25) 0):=by
  have f:(bu "xy").cps.toList.length=2:=by decide+kernel
  rw[aa,ae (by rw[f];lia)];rfl
 rw[h];refine⟨_,by decide+kernel,cf j,short (by rw[qT,Cv,Cv];lia),by decide+kernel,short (by rw[qT,qT,Cv,Cv];lia),?_⟩;exact q
end Bt
namespace Bt
open PySem PySem.Spec PyProof.Rows L2 R Cp Lt Kc Mt
noncomputable abbrev fn(ks:List Nat):Nat->Nat:=fun i=>ks.getD i 0
def Ah:Sp:=fun vs H Q _=>∃(a lo:Addr)(c b:Int)(free:Bool)(ps os:List Nat),vs=[.ref a,.ref lo,.int c,.int b,.bl free]/\H a=some (.lst (iN ps))/\H lo=some (.lst (iN os))/\1<=ps.length/\ps.length<=31/\os.length<=60/\(∀v,1<=v->v<ps.length->ps.getD v 0<v)/\
 ∀(H':Hp)(nl:Addr)(ys:List V)(f:Nat->Int),aQ H H'->H nl=none->H' nl=some (.lst ys)->(∀p,p<os.length->f p=0\/f p=1)->_root_.Q.IntKeys H' ys ((aH ps.length).map (nd f (fn os) (fn ps) os.length))->Q (.ref nl) H'
section
variable {G:Gam}
def nd_zero{fs:List Int}{own par:Nat->Nat}:nd (fun p=>fs.getD p 0) own par fs.length 0=fs:=by
 unfold nd;apply bR;·simp
 ·intro i b a;rw[bD,i8,KD,aa,ae a];rfl
theorem JJ:Sat G K Ah uV uI:=by
 rintro vs H c1 a4 ⟨E,lo,O,y,free,d,c,rfl,ea,X,c4,c5,c3,b1,b9⟩;unfold uV;change wpB G K _ _ _ [some (.ref E),some (.ref lo),some (.int O),some (.int y),some (.bl free),none,none,none,none,none] H;ext;refine⟨short (by simp),fun g b0=>?_⟩;have s1:aQ H (upd H g (.lst [])):=aB b0;have A:upd H g (.lst []) g=some (.lst (([]:List Int).map V.int)):=au;generalize upd H g (.lst [])=B at s1 A⊢;unfold qv;ext;refine gH ?_;ext;refine Or.inl ⟨lo,_,rfl,.inl (SqL.of (s1 _ _ X)),_,rfl,by rw[cV];lia,by rw[cV];lia,?_⟩;rw[cV,aN];refine fN dD (fun k F I=>aQ H I/\∃(fs:List Int)(y:Int)(u:Option V),I g=some (.lst (fs.map V.int))/\fs.length=k/\(∀x∈fs,x=0\/x=1)/\F=[some (.ref E),some (.ref lo),some (.int O),some (.int y),some (.bl free),some (.ref g),u,none,none,none])
  ⟨s1,[],y,none,A,rfl,(fun x hx=>by cases hx),rfl⟩ (fun _ _ _ _ _=>trivial) ?_ ?_
 ·rintro k x F C H3 T hk ⟨J,fs,y,u,A,a0,Z,rfl⟩ rfl Q Y _;have A:=Q _ _ A;have J:=J.trans Q;ext;simp only[fB];refine⟨.inl ⟨rfl,_,SqL.of A⟩,⟨by lia,by lia⟩,short (by simp),fun b hb=>?_⟩;generalize hX:upd H3 b _=M;obtain⟨L,eb⟩:=cU hX hb;clear hX;have w:=J.trans L;have b5:=L _ _ A;have b4:∀z:Int,rMm .append (V.ref g) [V.int (z%2)] M fun _ B=>wpB G K (fun _=>a4) ix T [some (.ref E),some (.ref lo),some (.int O),some (.int y),some (.bl free),some (.ref g),some (.int k),none,none,none] B:=fun z=>by
   refine⟨g,_,_,rfl,rfl,b5,K32.xq (by rw[ai];lia),?_⟩;rw[show fs.map V.int++[V.int (z%2)]=(fs++[z%2]).map V.int by simp];unfold ix;ext;refine⟨⟨by decide,by decide⟩,Y _ _ ⟨eH w b0,fs++[z%2],_,_,au,by simp[a0],fun x hx=>?_,rfl⟩⟩;rcases cX.mp hx with hx|hx;·exact Z x hx
   ·rw[aT.mp hx];lia
  have key:∀W:Bool,rBf K .int [V.bl W] M (fun a3 C=>rIx K (V.ref b) a3 C fun x B=>rS K Operator.Mod x (V.int 2) B fun x B=>rMm .append (V.ref g) [x] B fun _ B=>wpB G K (fun _=>a4) ix T [some (.ref E),some (.ref lo),some (.int O),some (.int y),some (.bl free),some (.ref g),some (.int k),none,none,none] B):=fun W=>by
   cases W with
   |true=>exact .inr ⟨true,rfl,.inl ⟨b,_,1,_,rfl,rfl,SqL.of eb,rfl,iC.mpr ⟨by decide,b4 _⟩⟩⟩
   |false=>exact .inr ⟨false,rfl,.inl ⟨b,_,0,_,rfl,rfl,SqL.of eb,rfl,iC.mpr ⟨by decide,b4 _⟩⟩⟩
  split;·exact key _
  ·exact key _
 rintro F C ⟨J,fs,y,u,A,a0,Z,rfl⟩;have hf:∀p,p<c.length->fs.getD p 0=0\/fs.getD p 0=1:=fun p hp=>by rw[aa,ae (by lia)];exact Z _ (a9 _)
 unfold qu;ext;refine⟨g,_,rfl,.inl ⟨SqL.of A,fun l b2=>⟨short (by simp),fun i a1=>?_⟩⟩⟩;have Q:aQ C (upd (upd C l (.tup (fs.map V.int))) i (.lst [.ref l])):=(aB b2).trans (aB a1);have a6:upd (upd C l (.tup (fs.map V.int))) i (.lst [.ref l]) l=some (.tup (fs.map V.int)):=aB a1 _ _ au;have s:upd (upd C l (.tup (fs.map V.int))) i (.lst [.ref l]) i=some (.lst [.ref l]):=au;have a8:H i=none:=(J.trans (aB b2)).free a1;have L:=J.trans Q;generalize upd (upd C l (.tup (fs.map V.int))) i (.lst [.ref l])=H3 at a6 s L⊢;have hz:nd (fun p=>fs.getD p 0) (fn c) (fn d) c.length 0=fs:=by rw[<-a0];exact nd_zero
 unfold qt;ext;refine gH ?_;ext;refine Or.inl ⟨E,_,rfl,.inl (SqL.of (L _ _ ea)),?_⟩;rw[cV];refine⟨_,_,rfl,⟨by lia,by lia,by lia,by lia⟩,?_⟩;refine fN dD (fun m F I=>aQ H I/\∃(q:List V)(x a3:Option V),I i=some (.lst q)/\_root_.Q.IntKeys I q ((aH (m+1)).map (nd (fun p=>fs.getD p 0) (fn c) (fn d) c.length))/\F=[some (.ref E),some (.ref lo),some (.int O),some (.int y),some (.bl free),some (.ref g),u,some (.ref i),x,a3])
  ⟨L,[.ref l],none,none,s,.cons ⟨l,rfl,by rw[hz];exact a6⟩ .nil,rfl⟩ (fun _ _ _ _ _=>trivial) ?_ ?_
 ·rintro m x F M H5 T hm ⟨w,q,x',y',s,D,rfl⟩ rfl s6 Y _;have s:=s6 _ _ s;have D:=K32.eB (K32.Tk.of s6) D;have w:=w.trans s6;have b8:=K32.eZ D;rw[ai,aR]at b8;have hv:m+1<d.length:=by lia
  have ev:(1:Int)+(m:Int)=((m+1:Nat):Int):=by lia
  rw[ev];generalize hvv:m+1=v at *;have b7:=b1 v (by lia) hv;ext;refine .inl ⟨E,_,v,_,rfl,rfl,SqL.of (w _ _ ea),cf (sk hv),?_⟩
  --the parent's readings
  have at_:∀{q:List V}{P:List (List Int)},_root_.Q.IntKeys H5 q P->∀j,j<P.length->∃a,q[j]? =some (V.ref a)/\H5 a=some (.tup ((P.getD j []).map V.int)):=by
   intro q P h
   induction h with
   |nil=>intro j hj;exact absurd hj (du _)
   |cons r t ih=>
    intro j hj;cases j with
    |zero=>obtain⟨a,rfl,f⟩:=r;exact⟨a,rfl,f⟩
    |succ j=>exact ih j (by simpa using hj)
  obtain⟨ra,b6,a7⟩:=at_ D (d.getD v 0) (by rw[ai,aR];lia);have ek:((aH v).map (nd (fun p=>fs.getD p 0) (fn c) (fn d) c.length)).getD (d.getD v 0) []=nd (fun p=>fs.getD p 0) (fn c) (fn d) c.length (d.getD v 0):=by rw[aa,av,bN b7];rfl
  rw[ek]at a7;refine .inl ⟨i,_,d.getD v 0,_,rfl,rfl,SqL.of s,cf b6,?_⟩;unfold nL;ext;refine⟨.inl ⟨rfl,_,SqL.of s⟩,?_⟩;refine cN ?_;ext;refine Or.inl ⟨lo,_,rfl,.inl (SqL.of (w _ _ X)),_,rfl,by rw[cV];lia,by rw[cV];lia,?_⟩;rw[cV,aN];refine dN dD (K32.dA (by lia)) (fun _ _=>trivial) (fun p c0 _=>c0=.int (rdv (fun p=>fs.getD p 0) (fn c) (fn d) v p)) (fun _ _ _ _ _ h=>h) (fun τ=>∃u,τ=[u,some (.ref ra),some (.int v),some (.ref lo)]) ⟨none,rfl⟩ ?_ ?_
  ·rintro p x τ U c2 hp ⟨u,rfl⟩ R rfl kk;ext;simp only[fB];refine .inr (.inl ⟨ra,_,p,_,rfl,rfl,SqT.of (R _ _ a7),cf (K32.iv (by rw[xi];exact hp)),?_⟩);rw[eF hp];refine .inl ⟨lo,_,p,_,rfl,rfl,SqL.of (R _ _ (w _ _ X)),cf (sk hp),?_⟩;refine ll.mpr (.inr ⟨_,rfl,?_⟩);refine ye.mpr (iC.mpr ⟨by decide,kk _ _ _ ⟨_,rfl⟩ (aQ.refl _) ?_⟩);have e:=KE (f:=fun p=>fs.getD p 0) (own:=fn c) (par:=fn d) (n:=c.length) (N:=d.length) b1 hf (v:=v) (p:=p) (by lia) hv hp;rw[<-e];by_cases h:c.getD p 0=v;·rw[decide_eq_true (by lia:((c.getD p 0:Nat):Int)=(v:Int)),if_pos rfl,if_pos h]
   ·rw[decide_eq_false (by lia:¬((c.getD p 0:Nat):Int)=(v:Int)),if_neg ak,if_neg h]
  ·intro vs U a2 c6 hF R hl;have e:vs=(nd (fun p=>fs.getD p 0) (fn c) (fn d) c.length v).map V.int:=by
    unfold nd;apply gT;intro b3;rw[av,av];by_cases hi:b3<vs.length;·rw[ae hi,bN (by lia),hF b3 _ (ae hi)];rfl
    ·rw[bT (by lia),bT (by rw[aR];lia)];rfl
   rw[e];refine⟨a2,_,rfl,.inl ⟨SqL.of au,fun r hr=>?_⟩⟩;have S:=R.trans ((aB (o:=.lst ((nd (fun p=>fs.getD p 0) (fn c) (fn d) c.length v).map V.int)) hl).trans (aB (o:=.tup ((nd (fun p=>fs.getD p 0) (fn c) (fn d) c.length v).map V.int)) hr));have er:upd (upd U a2 (.lst ((nd (fun p=>fs.getD p 0) (fn c) (fn d) c.length v).map V.int))) r (.tup ((nd (fun p=>fs.getD p 0) (fn c) (fn d) c.length v).map V.int)) r=some (.tup ((nd (fun p=>fs.getD p 0) (fn c) (fn d) c.length v).map V.int)):=au;generalize upd (upd U a2 (.lst ((nd (fun p=>fs.getD p 0) (fn c) (fn d) c.length v).map V.int))) r (.tup ((nd (fun p=>fs.getD p 0) (fn c) (fn d) c.length v).map V.int))=H7 at S er⊢;have a5:=S _ _ s;refine⟨i,q,_,rfl,rfl,a5,K32.xq (by lia),?_⟩;have tk:K32.Tk H7 (upd H7 i (.lst (q++[.ref r]))):=K32.tM a5;refine Y _ _ ⟨eH (w.trans S) a8,_,_,_,au,?_,rfl⟩;rw[kN,cQ];exact K32.Paired.snoc ⟨r,rfl,tk _ _ er⟩ (K32.eB tk (K32.eB (K32.Tk.of S) D))
 rintro F M ⟨w,q,x',y',s,D,rfl⟩;unfold qr;ext;refine b9 M i q (fun p=>fs.getD p 0) w a8 s hf ?_;have e:((d.length:Int)-1).toNat+1=d.length:=by lia
 rw[e]at D;exact D
end
end Bt
namespace Bm
open Mt
section
variable {par:Nat->Nat}{N:Nat}(hp:∀v,1<=v->v<N->par v<v)
abbrev kids(par:Nat->Nat)(N v:Nat):List Nat:=(aH N).filter fun u=>decide (1<=u/\par u=v)
theorem eI{v u:Nat}:u∈kids par N v↔u<N/\1<=u/\par u=v:=by unfold kids;rw[bw,aW,decide_eq_true_eq]
theorem vO{v:Nat}:(kids par N v).Nodup:=yo.sublist kZ
theorem other{l:List Nat}(nd:l.Nodup)(h:2<=l.length)(x:Nat):∃u∈l,u≠x:=by
 match l,nd,h with
 |a::b::r,nd,_=>
  by_cases e:a=x;·refine⟨b,by simp,fun z=>?_⟩;rw[bW]at nd;exact nd.1 (by rw[e,<-z];simp)
  ·exact⟨a,by simp,e⟩
theorem third{l:List Nat}(nd:l.Nodup)(h:3<=l.length)(x y:Nat):∃u∈l,u≠x/\u≠y:=by
 match l,nd,h with
 |a::b::c::r,nd,_=>
  simp only[bW,aI,not_or]at nd;obtain⟨⟨i,j,_⟩,⟨m,_⟩,_⟩:=nd;apply aJ;intro f;have d:∀u∈a::b::c::r,u=x\/u=y:=fun u g=>by
   apply aJ
   intro k;exact f ⟨u,g,fun e=>k (.inl e),fun e=>k (.inr e)⟩
  have n:=d a (by simp);have o:=d b (by simp);have p:=d c (by simp);lia
abbrev near(par:Nat->Nat)(N v:Nat):Nat:=(kids par N v).length+if v=0 then 0 else 1
include hp
theorem mW{u e:Nat}(b:u<N)(a:1<=u):on par e u=(decide (u=e)||on par e (par u)):=jK hp a b
def Und(par:Nat->Nat)(c g:Nat):Prop:=(c=0/\1<=g)\/(on par c g=true/\g≠c)
theorem FK{c u g:Nat}(d:u<N)(b:1<=u)(e:par u=c)(a:g<N)(h:on par u g=true):Und par c g:=by
 by_cases c0:c=0;·exact .inl ⟨c0,by have :=qb hp g a h;lia⟩
 ·have i:=hp u b d;rw[e]at i;have f:on par c u=true:=by rw[mW hp d b,e,jj hp (by lia) (by lia),pV]
  have :=qb hp g a h;exact .inr ⟨wX hp g a h f,by lia⟩
theorem down{cp:Nat->Prop}(w:∀v,v<N->¬cp v->3<=near par N v){e g:Nat}(i:g<N):∀(k c:Nat),N-c<=k->c<N->¬Und par c g->∃d,d<N/\cp d/\on par e d=on par e c/\on par g d=on par g c:=by
 intro k
 induction k with
 |zero=>intro c h f;lia
 |succ k ih=>
  intro c h f l;by_cases hcp:cp c;·exact⟨c,f,hcp,rfl,rfl⟩
  ·have j:=w c f hcp;have q:2<=(kids par N c).length:=by unfold near at j;split at j<;>lia
   obtain⟨u,s,r⟩:=other vO q e;obtain⟨u1,a,b⟩:=eI.mp s;have x:=hp u a u1;have t:u≠g:=fun z=>l (FK hp u1 a b i (by rw[<-z];exact jj hp a u1));obtain⟨d,m,n,o,p⟩:=ih u (by lia) u1 fun z=>by
    rcases z with⟨z,_⟩ |⟨z,_⟩;·lia
    ·exact l (FK hp u1 a b i z)
   refine⟨d,m,n,?_,?_⟩;·rw[o,mW hp u1 a,decide_eq_false r,bV,b]
   ·rw[p,mW hp u1 a,decide_eq_false t,bV,b]
theorem toward{v e:Nat}(a:e<N)(l:v<N):Und par v e->∃u,u∈kids par N v/\on par u e=true:=by
 induction e using kX with
 |ind e ih=>
  intro h;have b:1<=e:=by
   rcases h with⟨_,h⟩ |⟨h,_⟩;·exact h
   ·have :=qb hp e a h;lia
  have g:=hp e b a;by_cases c:par e=v;·exact⟨e,eI.mpr ⟨a,b,c⟩,jj hp b a⟩
  ·have d:Und par v (par e):=by
    rcases h with⟨f,_⟩ |⟨h,i⟩;·exact .inl ⟨f,by lia⟩
    ·rw[jK hp b a,decide_eq_false i,bV]at h;exact .inr ⟨h,c⟩
   obtain⟨u,k,j⟩:=ih (par e) g (by lia) d;exact⟨u,k,by rw[jK hp b a,j,pV]⟩
theorem pI{v u w e:Nat}(p:e<N)(r:u∈kids par N v)(s:w∈kids par N v)(i:on par u e=true)(j:on par w e=true):u=w:=by
 obtain⟨a,b,c⟩:=eI.mp r;obtain⟨d,f,g⟩:=eI.mp s;have key:∀{x y:Nat},x<N->1<=x->par x=v->y<N->1<=y->par y=v->on par x e=true->on par y e=true->x<=y->x=y:=fun{x y} k l C m n o t A B=>by
  apply aJ
  intro q;have :=wY hp e p A t B;rw[jK hp n m,decide_eq_false (fun z=>q z.symm),bV,o]at this;have D:=hp x l k;have :=qb hp v (by lia) this;lia
 rcases Nat.le_total u w with h|h;·exact key a b c d f g i j h
 ·exact(key d f g a b c j i h).symm
theorem there{cp:Nat->Prop}(p:∀v,v<N->¬cp v->3<=near par N v){v e g:Nat}(b:v<N)(s:e<N)(n:g<N):∃d,d<N/\cp d/\on par e d=on par e v/\on par g d=on par g v:=by
 by_cases hcp:cp v;·exact⟨v,b,hcp,rfl,rfl⟩
 have D:=p v b hcp;refine(tE (Und par v g)).elim (fun Q=>?_) (fun Q=>down hp p n _ v (aw _) b Q);refine(tE (Und par v e)).elim (fun P=>?_) (fun P=>let⟨d,j,k,l,m⟩:=down hp p (e:=g) s _ v (aw _) b P;⟨d,j,k,m,l⟩);obtain⟨f,o,M⟩:=toward hp s b P;obtain⟨i,w,O⟩:=toward hp n b Q;obtain⟨G,H,a3⟩:=eI.mp o;obtain⟨r,B,I⟩:=eI.mp w;have step:∀u,u∈kids par N v->u≠e->u≠g->¬Und par u g->∃d,d<N/\cp d/\on par e d=on par e v/\on par g d=on par g v:=fun u a L F h=>by
  obtain⟨u1,y,A⟩:=eI.mp a;obtain⟨d,j,k,l,m⟩:=down hp p n _ u (aw _) u1 h;refine⟨d,j,k,?_,?_⟩;·rw[l,mW hp u1 y,decide_eq_false L,bV,A]
  ·rw[m,mW hp u1 y,decide_eq_false F,bV,A]
 have W:∀{u},u∈kids par N v->u≠i->¬Und par u g:=fun{u} a t z=>by
  rcases z with⟨z,_⟩ |⟨z,_⟩;·have :=(eI.mp a).2.1;lia
  ·exact t (pI hp n a w z O)
 have nk:∀{u x},u∈kids par N v->x<N->(∀c,c∈kids par N v->on par c x=true->u≠c)->u≠x:=fun{u x} a hx h z=>h u a (by rw[<-z];exact jj hp (eI.mp a).2.1 (eI.mp a).1) rfl;by_cases t3:∃u∈kids par N v,u≠f/\u≠i;·obtain⟨u,a,L,F⟩:=t3;exact step u a (fun z=>L (pI hp s a o (by rw[<-z];exact jj hp (eI.mp a).2.1 (eI.mp a).1) M)) (fun z=>F (pI hp n a w (by rw[<-z];exact jj hp (eI.mp a).2.1 (eI.mp a).1) O)) (W a F)
 have a4:(kids par N v).length<=2:=fY fun h=>t3 (third vO h f i);have v0:v≠0:=fun z=>by unfold near at D;rw[if_pos z]at D;lia
 have a0:2<=(kids par N v).length:=by unfold near at D;rw[if_neg v0]at D;lia
 have C:f≠i:=fun z=>by obtain⟨u,a,t⟩:=other vO a0 f;exact t3 ⟨u,a,t,z▸t⟩
 refine(tE (f=e)).elim (fun J=>?_) (fun J=>?_)
 rotate_left
 ·exact step f o J (fun z=>C (pI hp n o w (by rw[<-z];exact jj hp H G) O)) (W o C)
 refine(tE (i=g)).elim (fun K=>?_) (fun K=>?_)
 rotate_left
 ·obtain⟨d,j,k,l,m⟩:=down hp p (e:=g) s _ i (aw _) r (fun z=>by
   rcases z with⟨z,_⟩ |⟨z,_⟩;·lia
   ·exact C (pI hp s o w M z))
  refine⟨d,j,k,?_,?_⟩;·rw[m,mW hp r B,decide_eq_false (fun z=>C (pI hp s o w M (by rw[<-z];exact jj hp B r))),bV,I]
  ·rw[l,mW hp r B,decide_eq_false K,bV,I]
 have E:1<=v:=by lia
 have hw:=hp v E b;have h1:=hp f H G;have h2:=hp i B r;have Y:on par e v=on par e (par v):=by rw[jK hp E b,decide_eq_false (by lia),bV]
 have Z:on par g v=on par g (par v):=by rw[jK hp E b,decide_eq_false (by lia),bV]
 by_cases hcw:cp (par v);·exact⟨par v,by lia,hcw,Y.symm,Z.symm⟩
 have U:=p (par v) (by lia) hcw;have kw:2<=(kids par N (par v)).length:=by unfold near at U;split at U<;>lia
 obtain⟨u,a,t⟩:=other vO kw v;obtain⟨u1,y,A⟩:=eI.mp a;have h3:=hp u y u1;have X:∀{x},x<N->1<=x->par x=v->on par u x=false/\u≠x:=fun{x} x1 x2 x3=>by
  have V:u≠x:=fun z=>by rw[<-z,A]at x3;lia
  refine⟨?_,V⟩;rw[jK hp x2 x1,decide_eq_false (fun z=>V z.symm),bV,x3,jK hp E b,decide_eq_false (fun z=>t z.symm),bV];cases q:on par u (par v)with
  |false=>rfl
  |true=>have :=qb hp _ (by lia) q;lia
 obtain⟨f1,R⟩:=X G H a3;obtain⟨S,T⟩:=X r B I;rw[J]at f1 R;rw[K]at S T;obtain⟨d,j,k,l,m⟩:=down hp p (e:=e) n _ u (aw _) u1 (fun z=>by
  rcases z with⟨z,_⟩ |⟨z,_⟩;·lia
  ·rw[S]at z;cases z)
 refine⟨d,j,k,?_,?_⟩;·rw[l,mW hp u1 y,decide_eq_false R,bV,A,Y]
 ·rw[m,mW hp u1 y,decide_eq_false T,bV,A,Z]
end
end Bm
namespace Bt
open PySem R
abbrev AM:List Str:=["_law_parents","_law_nodes_here","_law_seed","_law_left","_law_free"]
abbrev se:List Str:=["_law_parents","_law_nodes_here","_law_seed","_law_left","_law_free","_law_table","_law_number","_law_lost","_law_like","_law_near"]
abbrev oV:CB:=
  (.cons (.ret (.var 5))
  .nil)
abbrev mC:CB:=
  (.cons (.expr (.meth1 .append (.var 5) (.tup (.cons (.call "_law_name" (.cons (.bfn .len (.cons (.var 5) .nil)) (.cons (.var 2) .nil))) (.cons (.idx (.var 1) (.var 6)) .nil)))))
  .nil)
abbrev mD:CB:=
  (.cons (.iff (.and (.cmp .Eq (.var 8) (.con (.int 0))) (.cmp .Lt (.bfn .len (.cons (.var 5) .nil)) (.bin .Add (.bin .Sub (.con (.int 40)) (.bfn .len (.cons (.var 1) .nil))) (.var 6))))
  mC
  .nil)
  .nil)
abbrev je:CB:=
  (.cons (.expr (.meth1 .append (.var 5) (.tup (.cons (.call "_law_name" (.cons (.bfn .len (.cons (.var 5) .nil)) (.cons (.var 2) .nil))) (.cons (.idx (.var 1) (.var 6)) .nil)))))
  mD)
abbrev mE:CB:=
  (.cons (.iff (.and (.cmp .Gt (.var 9) (.con (.int 2))) (.cmp .Eq (.var 7) (.con (.int 0))))
  (.cons (.cont)
  .nil)
  .nil)
  je)
abbrev gO:CB:=
  (.cons (.asg (.name 9) (.bin .Add (.bfn .len (.cons (.comp ["_law_one"] [6] (.name 0) (.seq (.cut (.var 0) (.yes (.con (.int 1))) .no)) (.yes (.cmp .Eq (.var 0) (.var 1))) (.var 0)) .nil)) (.bfn .int (.cons (.cmp .Gt (.var 6) (.con (.int 0))) .nil))))
  mE)
abbrev kH:CB:=
  (.cons (.asg (.name 3) (.bin .FloorDiv (.var 3) (.con (.int 10))))
  .nil)
abbrev iE:CB:=
  (.cons (.asg (.name 8) (.bin .Mod (.bin .FloorDiv (.var 3) (.con (.int 2))) (.con (.int 5))))
  kH)
abbrev mF:CB:=
  (.cons (.iff (.and (.var 4) (.cmp .GtE (.var 3) (.con (.int 10))))
  (.cons (.asg (.name 7) (.bin .Mod (.var 3) (.con (.int 2))))
  iE)
  .nil)
  gO)
abbrev mG:CB:=
  (.cons (.asg (.name 8) (.bin .Mod (.bin .FloorDiv (.var 2) (.bin .Add (.var 6) (.con (.int 5)))) (.con (.int 5))))
  mF)
abbrev oW:CB:=
  (.cons (.forr (.name 6) (.range1 (.bfn .len (.cons (.var 1) .nil)))
  (.cons (.asg (.name 7) (.bin .Mod (.bin .FloorDiv (.var 2) (.bin .Add (.var 6) (.con (.int 3)))) (.con (.int 2))))
  mG))
  oV)
abbrev sR:CB:=
  (.cons (.asg (.name 5) (.lst .nil))
  oW)
abbrev Cq:List Str:=["_law_script","_law_start"]
abbrev uM:List Str:=["_law_script","_law_start","_law_parents","_law_many","_law_free","_law_seed","_law_owners_here","_law_left","_law_cell","_law_nodes_here","_law_branches","_law_edge","_law_pair","_law_places","_law_table","_law_at"]
abbrev oX:CB:=
  (.cons (.ret (.tup (.cons (.bin .Add (.cut (.var 14) (.yes (.var 15)) .no) (.cut (.var 14) .no (.yes (.var 15)))) (.cons (.bfn .sortl (.cons (.var 9) .nil)) (.cons (.bfn .sortt (.cons (.var 10) .nil)) .nil)))))
  .nil)
abbrev oY:CB:=
  (.cons (.asg (.name 15) (.bin .Mod (.bin .FloorDiv (.var 5) (.con (.int 11))) (.bfn .len (.cons (.var 14) .nil))))
  oX)
abbrev qG:CB:=
  (.cons (.asg (.name 14) (.call "_law_copies" (.cons (.var 2) (.cons (.var 9) (.cons (.var 5) (.cons (.var 7) (.cons (.var 4) .nil)))))))
  oY)
abbrev nR:CB:=
  (.cons (.expr (.meth1 .append (.var 10) (.tup (.cons (.idx (.var 12) (.con (.int 0))) (.cons (.idx (.var 12) (.con (.int 1))) (.cons (.bfn .tuple (.cons (.var 13) .nil)) .nil))))))
  .nil)
abbrev nS:CB:=
  (.cons (.asgc 13 (.comp ["_law_place"] [11,6] (.name 0) (.range1 (.bfn .len (.cons (.var 6) .nil))) (.yes (.cmp .Eq (.idx (.var 2) (.var 0)) (.var 1))) (.var 0)))
  nR)
abbrev qH:CB:=
  (.cons (.forr (.name 11) (.range2 (.con (.int 1)) (.bfn .len (.cons (.var 2) .nil)))
  (.cons (.asg (.name 12) (.bfn .sortl (.cons (.lst (.cons (.idx (.var 9) (.var 11)) (.cons (.idx (.var 9) (.idx (.var 2) (.var 11))) .nil))) .nil)))
  nS))
  qG)
abbrev qI:CB:=
  (.cons (.asg (.name 10) (.lst .nil))
  qH)
abbrev qJ:CB:=
  (.cons (.asg (.name 9) (.call "_law_nodes" (.cons (.var 2) (.cons (.var 6) (.cons (.call "_law_mixed" (.cons (.var 8) (.cons (.con (.int 2)) .nil))) (.cons (.bin .FloorDiv (.var 8) (.con (.int 7))) (.cons (.var 4) .nil)))))))
  qI)
abbrev qK:CB:=
  (.cons (.asg (.name 8) (.call "_law_cell_at" (.cons (.var 0) (.cons (.con (.int 1)) .nil))))
  qJ)
abbrev qL:CB:=
  (.cons (.asg (.tup (.cons (.name 6) (.cons (.name 7) .nil))) (.call "_law_owners" (.cons (.var 3) (.cons (.bin .Mod (.var 5) (.con (.int 10007))) (.cons (.bin .FloorDiv (.call "_law_cell_at" (.cons (.var 0) (.cons (.con (.int 0)) .nil))) (.con (.int 98))) (.cons (.var 4) .nil))))))
  qK)
abbrev qM:CB:=
  (.cons (.asg (.name 5) (.call "_law_mixed" (.cons (.call "_law_cell_at" (.cons (.var 0) (.cons (.con (.int 0)) .nil))) (.cons (.con (.int 1)) .nil))))
  qL)
abbrev qN:CB:=
  (.cons (.asg (.name 4) (.cmp .Eq (.bin .Mod (.call "_law_cell_at" (.cons (.var 0) (.cons (.con (.int 0)) .nil))) (.con (.int 2))) (.con (.int 1))))
  qM)
abbrev uZ:CB:=
  (.cons (.asg (.tup (.cons (.name 2) (.cons (.name 3) .nil))) (.call "_law_grown" (.cons (.var 0) (.cons (.var 1) .nil))))
  qN)
end Bt
namespace Bt
open PySem PySem.Spec PyProof.Rows L2 R Cp Lt Kc Mt
structure Cb(H:Hp)(seed:Int)(ys:List V)(N:Nat)(vv:List Nat)(cs:List V):Prop where
 len:cs.length=vv.length
 at_:∀(i:Nat) c,cs[i]? =some c->∃b,c=.ref b/\H b=some (.tup [.str (nmB seed i),ys.getD (vv.getD i 0) .non])
 lt:∀v∈vv,v<N
def Cb.tk{a:Int}{N:Nat}{vv:List Nat}(d:Cb H a ys N vv cs)(t:K32.Tk H H'):Cb H' a ys N vv cs:=
 {d with at_:=fun i c e=>let⟨b,h1,h2⟩:=d.at_ i c e;⟨b,h1,t _ _ h2⟩}
def Cb.snoc{a:Int}{N:Nat}{vv:List Nat}{v:Nat}(d:Cb H a ys N vv cs)(f:H b=some (.tup [.str (nmB a cs.length),ys.getD v .non]))(h:v<N):Cb H a ys N (vv++[v]) (cs++[.ref b]):=by
 refine⟨by simp[d.len],fun i c e=>?_,fun w hw=>?_⟩
 ·rw[getD_snoc];by_cases hi:i<cs.length;·rw[cq hi]at e;rw[if_pos (by rw[<-d.len];exact hi)];exact d.at_ i c e
  ·rw[bO (by lia)]at e;have g:i=cs.length:=by have :=(aC.mp e).1;simp at this;lia
   subst g;rw[d.len,if_neg (dJ _),if_pos rfl];simp at e;subst e;rw[<-d.len];exact⟨b,rfl,f⟩
 ·rcases cX.mp hw with hw|hw;·exact d.lt w hw
  ·rw[aT.mp hw];exact h
def wD:Sp:=fun vs H Q _=>∃(a nl:Addr)(b left:Int)(free:Bool)(ps:List Nat)(ys:List V),vs=[.ref a,.ref nl,.int b,.int left,.bl free]/\H a=some (.lst (iN ps))/\H nl=some (.lst ys)/\ys.length=ps.length/\1<=ps.length/\ps.length<=31/\(∀v,1<=v->v<ps.length->ps.getD v 0<v)/\
 ∀(H':Hp)(t:Addr)(cs:List V)(c:List Nat),aQ H H'->H t=none->H' t=some (.lst cs)->cs.length<=40->cs≠[]->Cb H' b ys ps.length c cs->(∀v,v<ps.length->Bm.near (fn ps) ps.length v<=2->v∈c)->Q (.ref t) H'
noncomputable abbrev putE:CE:=.meth1 .append (.var 5) (.tup (.cons (.call "_law_name" (.cons (.bfn .len (.cons (.var 5) .nil)) (.cons (.var 2) .nil))) (.cons (.idx (.var 1) (.var 6)) .nil)))
section
variable {G:Gam}{E:XS}
def KR(g:G.fn "_law_name" 2=some (spNm,[])){t:Addr}{h:Int}{vv:List Nat}{N:Nat}{a d e f x y:Option V}{Q:VK}(o:H t=none)(s:aQ H H1)(j:H1 t=some (.lst cs))(k:H1 nl=some (.lst ys))(hi:i<ys.length)(v:ys.length=N)(w:cs.length<40)(m:Cb H1 h ys N vv cs)
  (q:∀H2 b,aQ H H2->H2 t=some (.lst (cs++[.ref b]))->H2 nl=some (.lst ys)->Cb H2 h ys N (vv++[i]) (cs++[.ref b])->Q .non H2)(u:t≠nl):
  wpE G K E putE [a,some (.ref nl),some (.int h),d,e,some (.ref t),some (.int i),f,x,y] H1 Q:=by
 ext;refine⟨.inl ⟨rfl,_,SqL.of j⟩,_,_,g,Or.inl ⟨t,cs,rfl,.inl (SqL.of j),?_⟩⟩;refine⟨cs.length,h,rfl,by lia,?_⟩;have r:ys[i]? =some (ys.getD i .non):=by rw[aa,ae hi];rfl
 refine .inl ⟨nl,ys,i,_,rfl,rfl,SqL.of k,cf r,short (by simp),fun b p=>?_⟩;generalize hX:upd H1 b _=H2;obtain⟨c,n⟩:=cU hX p;clear hX;have l:=c _ _ j;refine⟨t,cs,_,rfl,rfl,l,K32.xq (by lia),?_⟩;have tk:K32.Tk H2 (upd H2 t (.lst (cs++[.ref b]))):=K32.tM l;refine q _ b (eH (s.trans c) o) au ?_ ((m.tk (K32.Tk.of c)).tk tk |>.snoc (tk _ _ n) (by lia));rw[ba (bI u)];exact c _ _ k
def LR{ps:List Nat}(e:1<=ps.length):((iN (ps.drop 1)).filter fun v=>match v with |.int j=>decide (j=(i:Int)) |_=>false).length=(Bm.kids (fn ps) ps.length i).length:=by
 have c:iN (ps.drop 1)=(aH (ps.length-1)).map fun m=>V.int ((ps.getD (m+1) 0:Nat):Int):=by
  unfold iN;apply bR;·simp
  ·intro j a b;simp only[ai,cR]at a;simp only[bD,List.getElem_drop,i8];rw[aa,ae (by lia)];congr 2;simp only[Option.getD_some];congr 1;lia
 have d:aH ps.length=0::(aH (ps.length-1)).map Nat.succ:=by
  conv =>lhs;rw[show ps.length=(ps.length-1)+1 by lia]
  exact Hq
 unfold Bm.kids;rw[c,d,yq,if_neg (by simp),kO,kO,ai,ai];congr 1;refine nq fun m _=>?_;show decide (((ps.getD (m+1) 0:Nat):Int)=(i:Int))=decide (1<=m.succ/\fn ps m.succ=i);rw[cw,decide_eq_true_eq,decide_eq_true_eq];constructor;·intro h;exact⟨by lia,by show ps.getD (m+1) 0=i;lia⟩
 ·rintro⟨_,h⟩;have h:ps.getD (m+1) 0=i:=h;lia
def HA(g:G.fn "_law_name" 2=some (spNm,[])):Sat G K wD sR se:=by
 rintro vs H c0 E ⟨r,f,p,n,free,c,L,rfl,ea,C,T,b7,c5,b8,b9⟩;unfold sR;change wpB G K _ _ _ [some (.ref r),some (.ref f),some (.int p),some (.int n),some (.bl free),none,none,none,none,none] H;ext;refine⟨short (by simp),fun t w=>?_⟩;have W:aQ H (upd H t (.lst [])):=aB w;have l:upd H t (.lst []) t=some (.lst []):=au;have a5:t≠f:=fun z=>by rw[z,C]at w;cases w
 generalize upd H t (.lst [])=H1 at W l⊢;unfold oW;ext;refine gH ?_;ext;refine Or.inl ⟨f,_,rfl,.inl (SqL.of (W _ _ C)),_,rfl,by lia,by lia,?_⟩;rw[T,aN];refine K32.De dD (fun i σ M=>aQ H M/\∃(cs:List V)(vv:List Nat)(n:Int)(u a7 a8 z:Option V),M t=some (.lst cs)/\Cb M p L c.length vv cs/\cs.length+c.length<=40+i/\(i=c.length->cs≠[])/\(∀v,v<i->Bm.near (fn c) c.length v<=2->v∈vv)/\σ=[some (.ref r),some (.ref f),some (.int p),some (.int n),some (.bl free),some (.ref t),u,a7,a8,z])
  ⟨W,[],[],n,none,none,none,none,l,⟨rfl,fun i c1 b0=>by simp at b0,fun v d=>by cases d⟩,by simp;lia,(fun h=>by lia),(fun v d=>absurd d (du _)),rfl⟩ (fun _ _ _ _ _=>trivial) ?_ ?_
 ·rintro i a7 σ H2 O q hi ⟨s,cs,vv,n,u,x',y',z',l,x,b4,_,D,rfl⟩ rfl X hD hC;have l:=X _ _ l;have x:=x.tk (K32.Tk.of X);have s:=s.trans X;have c2:=s _ _ C
  --the last rows,whatever was drawn
  have U:∀(F A y:Int),wpB G K (fun _=>E) gO q [some (.ref r),some (.ref f),some (.int p),some (.int F),some (.bl free),some (.ref t),some (.int i),some (.int A),some (.int y),z'] O:=by
   intro F A y;unfold gO;ext;have ec:pX (iN c) (some 1) none=iN (c.drop 1):=by unfold pX iN;rw[HT.rQ,show HT.sIx (c.map fun k:Nat=>V.int (k:Int)).length 0 (some 1)=min 1 (c.map fun k:Nat=>V.int (k:Int)).length from HT.pB _ _ 1,ai,show min 1 c.length=1 by lia,gv (by simp),List.map_drop]
   refine cN ⟨_,rfl,_,rfl,.inl ⟨r,_,rfl,SqL.of (s _ _ ea),fun a4 hl=>.inl ⟨a4,rfl,⟨_,SqL.of au⟩,?_⟩⟩⟩;rw[ec];generalize hX:upd O a4 _=H4;obtain⟨Y,el⟩:=cU hX hl;clear hX;refine pJ (dc (xs:=iN (c.drop 1))) (K32.dA (by rw[cV,cR];lia)) (fun B I=>I.seq (SqL.of el)) (fun v=>match v with |.int j=>decide (j=(i:Int)) |_=>false) id (fun τ=>∃u,τ=[u,some (.int i)]) ⟨none,rfl⟩ ?_ ?_
   ·rintro a8 τ B Rt Rf hy ⟨u,rfl⟩ I kt kf;unfold iN at hy;obtain⟨j,_,rfl⟩:=az.mp hy;ext;by_cases h:(j:Int)=(i:Int);·rw[decide_eq_true h,if_pos rfl];exact kt _ _ ⟨_,rfl⟩ (aQ.refl _) (decide_eq_true h)
    ·rw[decide_eq_false h,if_neg ak];exact kf _ _ ⟨_,rfl⟩ (aQ.refl _) (decide_eq_false h)
   intro B l2 I b5;have S:((iN (c.drop 1)).filter fun v=>match v with |.int j=>decide (j=(i:Int)) |_=>false).length<=30/\(i+1=c.length->((iN (c.drop 1)).filter fun v=>match v with |.int j=>decide (j=(i:Int)) |_=>false)=[])/\((iN (c.drop 1)).filter fun v=>match v with |.int j=>decide (j=(i:Int)) |_=>false).length=(Bm.kids (fn c) c.length i).length:=by
    refine⟨?_,?_,LR b7⟩;·refine aL (dZ _ _) ?_;rw[cV,cR];lia
    ·intro hN;rw[gy];intro v d;unfold iN at d;obtain⟨j,hj,rfl⟩:=az.mp d;obtain⟨m,hm,rfl⟩:=cL.mp hj;rw[cR]at hm;have :=b8 (1+m) (by lia) (by lia);rw[List.getElem_drop];rw[aa,ae (by lia)]at this;have this:c[1+m]<1+m:=this;show ¬decide (((c[1+m]:Nat):Int)=(i:Int))=true;rw[decide_eq_true_eq];lia
   rw[dQ];generalize((iN (c.drop 1)).filter fun v=>match v with |.int j=>decide (j=(i:Int)) |_=>false)=fl at S;have Z:=I.trans (aB (o:=.lst fl) b5);have a2:upd B l2 (.lst fl) l2=some (.lst fl):=au;have Q:=Z _ _ (Y _ _ l);have P:=(x.tk (K32.Tk.of Y)).tk (K32.Tk.of Z);have J:=s.trans (Y.trans Z);generalize upd B l2 (.lst fl)=H6 at a2 Q P J⊢;refine Or.inl ⟨l2,_,rfl,.inl (SqL.of a2),?_⟩;refine .inr ⟨_,rfl,ye.mpr ?_⟩;unfold mE;ext;have b1:=J _ _ C
   --a copy is put
   have put:wpB G K (fun _=>E) je q [some (.ref r),some (.ref f),some (.int p),some (.int F),some (.bl free),some (.ref t),some (.int i),some (.int A),some (.int y),some (.int ((fl.length:Int)+if decide (0<(i:Int))=true then 1 else 0))] H6:=by
    unfold je;refine KR (N:=c.length) (vv:=vv) g w J Q b1 (by lia) T (by lia) P (fun H7 b s8 R a3 a0=>?_) a5;unfold mD;ext;have a6:∀v,v<i+1->Bm.near (fn c) c.length v<=2->v∈vv++[i]:=fun v d e=>by
     rcases FI.mp d with h|h;·exact bZ _ (D v h e)
     ·rw[h];simp
    have a1:q.nx [some (.ref r),some (.ref f),some (.int p),some (.int F),some (.bl free),some (.ref t),some (.int i),some (.int A),some (.int y),some (.int ((fl.length:Int)+if decide (0<(i:Int))=true then 1 else 0))] H7:=hD _ _ ⟨s8,_,_,_,_,_,_,_,R,a0,by simp;lia,(fun _=>by simp),a6,rfl⟩;by_cases h0:y=0
    ·rw[decide_eq_true h0,if_pos rfl];refine Or.inl ⟨t,_,rfl,.inl (SqL.of R),Or.inl ⟨f,L,rfl,.inl (SqL.of a3),?_⟩⟩;refine Eo.mpr (ye.mpr (GB.mpr ⟨_,rfl,?_⟩));by_cases hlt:(((cs++[V.ref b]).length:Nat):Int)<40-(L.length:Int)+(i:Int)
     ·rw[decide_eq_true hlt,if_pos rfl];have c4:(cs++[V.ref b]).length=cs.length+1:=by simp
      unfold mC;refine KR (N:=c.length) (vv:=vv++[i]) (cs:=cs++[V.ref b]) g w s8 R a3 (show i<L.length by lia) T (by lia) a0 (fun H8 b2 s9 b3 c3 a9=>?_) a5;exact hD _ _ ⟨s9,_,_,_,_,_,_,_,b3,a9,by simp at hlt⊢;lia,(fun _=>by simp),(fun v d e=>bZ _ (a6 v d e)),rfl⟩
     ·rw[decide_eq_false hlt,if_neg ak];exact a1
    ·rw[decide_eq_false h0,if_neg ak];exact a1
   by_cases h2:2<(fl.length:Int)+if decide (0<(i:Int))=true then 1 else 0
   ·rw[decide_eq_true h2,if_pos rfl];by_cases hls:A=0
    ·rw[decide_eq_true hls,if_pos rfl];refine hC _ _ ⟨J,cs,vv,_,_,_,_,_,Q,P,by lia,(fun hN=>?_),(fun v d e=>?_),rfl⟩
     ·rw[S.2.1 hN]at h2;exfalso
      split at h2<;>simp at h2
     ·rcases FI.mp d with h|h;·exact D v h e
      ·exfalso
       rw[h]at e;unfold Bm.near at e;rw[<-S.2.2]at e;by_cases h0:i=0;·rw[if_pos h0]at e;rw[if_neg (by simp;lia)]at h2;lia
       ·rw[if_neg h0]at e;rw[if_pos (by simp;lia)]at h2;lia
    ·rw[decide_eq_false hls,if_neg ak];exact put
   ·rw[decide_eq_false h2,if_neg ak];exact put
  ext;simp only[fB];refine⟨⟨by lia,by lia⟩,by decide,?_⟩;unfold mG;ext;refine⟨⟨by lia,by lia⟩,by decide,?_⟩;unfold mF;ext;refine⟨free,rfl,?_⟩;have more:wpB G K (fun _=>E) iE {nx:=wpB G K (fun _=>E) gO q,rt:=q.rt,bk:=q.bk,ct:=q.ct} [some (.ref r),some (.ref f),some (.int p),some (.int n),some (.bl free),some (.ref t),some (.int i),some (.int (n%2)),some (.int (p/((i:Int)+5)%5)),z'] O:=by unfold iE;ext;refine⟨⟨by decide,by decide⟩,by decide,?_⟩;unfold kH;ext;exact⟨⟨by decide,by decide⟩,U _ _ _⟩
  cases free with
  |true=>
   rw[if_pos rfl];split;·exact⟨by decide,more⟩
   ·exact U _ _ _
  |false=>rw[if_neg ak,if_neg ak];exact U _ _ _
 ·rintro σ H2 ⟨s,cs,vv,n,u,x',y',z',l,x,b4,b6,D,rfl⟩;unfold oV;ext;exact b9 H2 t cs vv s w l (by lia) (b6 rfl) x D
end
end Bt
namespace Bt
open PySem PySem.Spec PyProof.Rows L2 R Cp Lt Kc Mt K21 K22
structure Blt(H:Hp)(t:Addr)(cs:List V)(nf:Nat->Str)(vf:Nat->Nat)(f:Nat->Int)(ps os:List Nat):Prop where
 et:H t=some (.lst cs)
 l1:1<=cs.length
 l40:cs.length<=40
 ok:∀i,iB (nf i)=true
 inj:∀i j,i<cs.length->j<cs.length->nf i=nf j->i=j
 at_:∀(i:Nat) c,cs[i]? =some c->vf i<ps.length/\∃b r,c=.ref b/\H b=some (.tup [.str (nf i),.ref r])/\H r=some (.tup ((nd f (fn os) (fn ps) os.length (vf i)).map V.int))
 n60:os.length<=60
 bit:∀p,p<os.length->f p=0\/f p=1
 par:∀v,1<=v->v<ps.length->ps.getD v 0<v
theorem sort2{m:Type}{d:m}{a b:List Int}(h:a≠b)(x y:m):∃u v c e,_root_.Q.cB d [a,b] [x,y]=[u,v]/\((u=x/\v=y/\c=a/\e=b)\/(u=y/\v=x/\c=b/\e=a))/\_root_.Q.llt c e=true:=by
 have nd:[a,b].Nodup:=by simp[h]
 obtain⟨P,U,_⟩:=_root_.Q.fk (_root_.Q.HD nd) (by simp);have P2:=eU.mp P.perm;have q:=P.size;have r:=U 0 1 (by decide) (by simp);unfold _root_.Q.cB _root_.Q.wU;rw[if_neg (by simp)];generalize _root_.Q.run (_root_.Q.ltL [a,b]) (jz [a,b].length)=p at *;obtain⟨l⟩:=p;have o:l.length=2:=by simpa using q
 obtain⟨i,j,rfl⟩:∃i j,l=[i,j]:=by
  match l,o with
  | [i,j],_=>exact⟨i,j,rfl⟩
 have f:∀k,(k=i\/k=j)↔k<2:=fun k=>by simpa using P2.mem_iff (a:=k)
 have g:_root_.Q.ltL [a,b] i j=true:=r;have s:=(f 0).mpr (by decide);have t:=(f 1).mpr (by decide);have n:(i=0/\j=1)\/(i=1/\j=0):=by lia
 rcases n with⟨rfl,rfl⟩ |⟨rfl,rfl⟩;·exact⟨x,y,a,b,rfl,.inl ⟨rfl,rfl,rfl,rfl⟩,g⟩
 ·exact⟨y,x,b,a,rfl,.inr ⟨rfl,rfl,rfl,rfl⟩,g⟩
def ends(g:Nat->List Int)(par:Nat->Nat)(e:Nat)(c:List Int×List Int):Prop:=(c=(g e,g (par e))\/c=(g (par e),g e))/\_root_.Q.llt c.1 c.2=true
def ends_nd{g:Nat->List Int}{par:Nat->Nat}{N:Nat}{ks:List (List Int×List Int)}(a:∀i j,i<N->j<N->g i=g j->i=j)(p:∀v,(g v).length=m)(hp:∀v,1<=v->v<N->par v<v)(o:∀i c,ks[i]? =some c->i+1<N/\ends g par (i+1) c):(ks.map _root_.Q.kQ).Nodup/\∀k∈ks,k.1.length=m/\k.2.length=m:=by
 have len:∀k∈ks,k.1.length=m/\k.2.length=m:=fun k h=>by obtain⟨i,e⟩:=bS.mp h;rcases(o i k e).2.1 with rfl|rfl<;>exact⟨p _,p _⟩
 refine⟨?_,len⟩;refine da.mpr fun i j hi n s e=>?_;simp only[ai]at hi n;simp only[bD]at e;have q:=len _ (a9 hi);have r:=len _ (a9 n);obtain⟨b,ei,_⟩:=o i _ (ae hi);obtain⟨d,ej,_⟩:=o j _ (ae n);have t:=hp (i+1) (by lia) b;have u:=hp (j+1) (by lia) d;obtain⟨f,l⟩:=List.append_inj (show ks[i].1++ks[i].2=ks[j].1++ks[j].2 from e) (q.1.trans r.1.symm);rcases ei with ei|ei<;>rcases ej with ej|ej<;>rw[ei,ej]at f l;·have :=a _ _ b d f;lia
 ·have :=a _ _ b (by lia) f;have :=a _ _ (by lia) d l;lia
 ·have :=a _ _ (by lia) d f;have :=a _ _ b (by lia) l;lia
 ·have :=a _ _ b d l;lia
noncomputable abbrev gN(f:Nat->Int)(ps os:List Nat)(v:Nat):List Int:=nd f (fn os) (fn ps) os.length v
noncomputable abbrev nds(f:Nat->Int)(ps os:List Nat):List (List Int):=(aH ps.length).map (gN f ps os)
abbrev pls(os:List Nat)(e:Nat):List V:=(nats os.length).filter fun o=>match o with |.int i=>decide (((os.getD i.toNat 0:Nat):Int)=((e:Nat):Int)) |_=>false
def BrV(H:Hp)(f:Nat->Int)(ps os:List Nat)(z:V)(e:Nat):Prop:=∃b a c d x y,z=V.ref b/\H b=some (.tup [.ref a,.ref c,.ref d])/\H a=some (.tup (x.map V.int))/\H c=some (.tup (y.map V.int))/\((x=gN f ps os e/\y=gN f ps os (ps.getD e 0))\/(x=gN f ps os (ps.getD e 0)/\y=gN f ps os e))/\H d=some (.tup (pls os e))
def BrV.tk{f:Nat->Int}{ps a:List Nat}{z:V}{e:Nat}(h:BrV H f ps a z e)(t:K32.Tk H H'):BrV H' f ps a z e:=by obtain⟨b,l,m,n,x,y,c,d,g,i,j,k⟩:=h;exact⟨b,l,m,n,x,y,c,t _ _ d,t _ _ g,t _ _ i,j,t _ _ k⟩
structure Bx(H:Hp)(bs:List V)(m:Nat)(vf:Nat->Nat)(f:Nat->Int)(ps os:List Nat):Prop where
 ow:∀p,p<os.length->fn os p<ps.length
 has:∀v,1<=v->v<ps.length->∃p,p<os.length/\fn os p=v
 cp:∀v,v<ps.length->Bm.near (fn ps) ps.length v<=2->∃i,i<m/\vf i=v
 br:∀z∈bs,∃e,1<=e/\e<ps.length/\BrV H f ps os z e
 all:∀e,1<=e->e<ps.length->∃z∈bs,BrV H f ps os z e
 bl:bs.length<=30
 few:∀v,1<=v->os.count v<=3
def Ao(K:ah):Sp:=fun vs H Q _=>∃(a:Addr)(ns:List Int)(st:Nat),vs=[.ref a,.int st]/\SqL K H a (ns.map V.int)/\ns.length<=63/\st<=10/\
 ∀(H':Hp)(p t nl br:Addr)(cs ys bs:List V)(nf:Nat->Str)(vf:Nat->Nat)(f:Nat->Int)(ps os:List Nat),aQ H H'->H' p=some (.tup [.ref t,.ref nl,.ref br])->Blt H' t cs nf vf f ps os->1<=ps.length->ps.length<=31->(nds f ps os).Nodup->_root_.Q.IntKeys H' ys (nds f ps os)->H' nl=some (.lst (_root_.Q.cB .non (nds f ps os) ys))->H' br=some (.lst bs)->Bx H' bs cs.length vf f ps os->Q (.ref p) H'
theorem xG{a:List Nat}{v:Nat}:∀(k:Nat),(gZ a k).count v=if v<k then a.getD v 0 else 0
 | 0=>by simp[gZ]
 |k+1=>by
  have h:(gZ a k).count v=if v<k then a.getD v 0 else 0:=xG k
  unfold gZ at h⊢;rw[kN,kY,List.count_append,h,nj,yp,ff,List.count_replicate];by_cases e:k=v;·subst e;simp
  ·have b:(k==v)=false:=by simpa using e
   rw[b,if_neg ak,Nat.add_zero];by_cases c:v<k;·rw[if_pos c,if_pos (by lia)]
   ·rw[if_neg c,if_neg (by lia)]
def own_of{b a:List Nat}(h:a.Perm (gZ b b.length)){v:Nat}(d:v<b.length)(f:1<=b.getD v 0):∃p,p<a.length/\fn a p=v:=by
 have c:v∈a:=by rw[h.mem_iff];unfold gZ;rw[eP];exact⟨v,aW.mpr d,List.mem_replicate.mpr ⟨by lia,rfl⟩⟩
 obtain⟨p,hp,e⟩:=cL.mp c;exact⟨p,hp,by show a.getD p 0=v;rw[aa,ae hp];exact e⟩
def rot(a:k<cs.length)(hi:i<cs.length):(cs.drop k++cs.take k)[i]? =cs[(i+k)%cs.length]? :=by
 by_cases h:i<cs.length-k;·rw[cq (by rw[cR];exact h),gw,eT (by lia),Nat.add_comm]
 ·rw[bO (by rw[cR];lia),cR,List.getElem?_take,if_pos (by lia),Nat.mod_eq_sub_mod (by lia),eT (by lia)];congr 1
  lia
def GK{ks:List (List Int)}(h:_root_.Q.IntKeys H ys ks):∀j,j<ks.length->∃a,ys[j]? =some (V.ref a)/\H a=some (.tup ((ks.getD j []).map V.int)):=by
 unfold _root_.Q.IntKeys at h
 induction h with
 |nil=>intro j b;exact absurd b (du _)
 |cons r t ih=>
  intro j b;cases j with
  |zero=>obtain⟨a,rfl,f⟩:=r;exact⟨a,rfl,f⟩
  |succ j=>exact ih j (by simpa using b)
def two_nd{a b:List Int}(h:a≠b):[a,b].Nodup:=by simp[h]
def EO{f:Nat->Int}{ps a:List Nat}(h:j<ps.length):(nds f ps a).getD j []=gN f ps a j:=by rw[aa,av,bN h];rfl
section
variable {G:Gam}
def JO(g0:G.fn "_law_cell_at" 2=some (wF K,[]))(L:G.fn "_law_mixed" 2=some (yZ,[]))(P:G.fn "_law_grown" 2=some (wC K,[]))(g3:G.fn "_law_owners" 4=some (wA,[]))(g4:G.fn "_law_nodes" 5=some (Ah,[]))(g5:G.fn "_law_copies" 5=some (wD,[])):
  Sat G K (Ao K) uZ uM:=by
 rintro vs e8 i9 i7 ⟨a,C,st,rfl,ha,hn,h9,i3⟩;unfold uZ;change wpB G K _ _ _ [some (.ref a),some (.int st),none,none,none,none,none,none,none,none,none,none,none,none,none,none] e8;ext;refine⟨_,_,P,a,C,st,rfl,ha,hn,h9,fun H1 p pa W q ms s1 ep ea em s=>?_⟩;refine⟨p,_,rfl,SqT.of ep,rfl,_,_,rfl,_,_,rfl,rfl,?_⟩;unfold qN;ext;refine⟨_,_,g0,a,C,0,rfl,s1.seq ha,?_⟩;generalize C.getD 0 0=c0;refine iC.mpr ⟨by decide,ll.mpr ?_⟩;generalize decide (c0%2=1)=free;unfold qM;ext;refine⟨_,_,L,_,_,g0,a,C,0,rfl,s1.seq ha,?_⟩;generalize C.getD 0 0=c0;refine⟨c0,1,rfl,by decide,by decide,?_⟩;generalize mx c0 1=seed;unfold qL;ext;refine⟨_,_,g3,by decide,_,_,g0,a,C,0,rfl,s1.seq ha,?_⟩;generalize C.getD 0 0=c0;refine div_ii.mpr ⟨⟨by decide,by decide⟩,?_⟩;have b5:=s.n31;have b4:=s.one;have j6:=s.len;refine⟨W,seed%10007,c0/98,free,ms,rfl,em,by lia,s.sum,cz _ (by decide),Int.le_of_lt (bX _ (by decide)),fun H2 p2 lo n d8 s2 b1 j1 eo a7=>?_⟩;refine⟨p2,_,rfl,SqT.of b1,rfl,_,_,rfl,_,_,rfl,rfl,?_⟩;have e0:=s1.trans s2;have b6:n.length<=60:=by rw[a7.length_eq,qX ms _ (aw _)];exact aL (og ms _) s.sum
 unfold qK;ext;refine⟨_,_,g0,a,C,1,rfl,e0.seq ha,?_⟩;generalize C.getD 1 0=c1;unfold qJ;ext;refine⟨_,_,g4,_,_,L,c1,2,rfl,by decide,by decide,?_⟩;generalize mx c1 2=sd2;refine⟨⟨by decide,by decide⟩,?_⟩;refine⟨pa,lo,sd2,c1/7,free,q,n,rfl,s2 _ _ ea,eo,b4,b5,b6,s.par,fun H3 nl ys f s3 j2 a3 hf ik=>?_⟩;have i4:=e0.trans s3;have b0:=s3 _ _ (s2 _ _ ea);have d0:=s3 _ _ eo;have i1:=K32.eZ ik;rw[ai,aR]at i1;have f5:∀v,1<=v->n.count v<=3:=fun v Q=>by
  rw[a7.count_eq,xG];split;·exact(s.m0 v Q (by assumption)).2
  ·exact aV _
 have own:∀v,1<=v->v<q.length->∃p,p<n.length/\fn n p=v:=fun v Q B=>own_of a7 (by lia) (s.m0 v Q (by lia)).1;have b2:∀i j,i<q.length->j<q.length->gN f q n i=gN f q n j->i=j:=fun i j hi r e=>by
  rcases Nat.lt_trichotomy i j with h|h|h;·exact absurd e.symm (Gs (N:=q.length) s.par hf h r (own j (by lia) r))
  ·exact h
  ·exact absurd e (Gs (N:=q.length) s.par hf h hi (own i (by lia) hi))
 have d9:(nds f q n).Nodup:=by refine da.mpr fun i j hi r j5 e=>?_;simp only[ai,aR]at hi r;simp only[bD,i8]at e;have :=b2 i j hi r e;lia
 unfold qI;ext;refine⟨short (by simp),fun I d3=>?_⟩;generalize hX:upd H3 I _=H4;obtain⟨s4,J⟩:=cU hX d3;clear hX;unfold qH;ext;refine gH ?_;ext;refine Or.inl ⟨pa,_,rfl,.inl (SqL.of (s4 _ _ b0)),?_⟩;rw[cV];refine⟨_,_,rfl,⟨by lia,by lia,by lia,by lia⟩,?_⟩;refine fN dD (fun m σ H'=>aQ H3 H'/\∃(bs:List V)(x:List (List Int×List Int))(c5 a2 z:Option V),H' I=some (.lst bs)/\x.length=m/\_root_.Q.jw H' bs x/\(∀i c,x[i]? =some c->i+1<q.length/\ends (gN f q n) (fn q) (i+1) c)/\(∀(j:Nat) z,bs[j]? =some z->BrV H' f q n z (j+1))/\σ=[some (.ref a),some (.int st),some (.ref pa),some (.ref W),some (.bl free),some (.int seed),some (.ref lo),some (.int d8),some (.int c1),some (.ref nl),some (.ref I),c5,a2,z,none,none])
  ⟨s4,[],[],none,none,none,J,rfl,.nil,(fun i c e=>by cases e),(fun j z e=>by cases e),rfl⟩ (fun _ _ _ _ _=>trivial) ?_ ?_
 ·rintro m c5 σ H5 H D2 U ⟨y,bs,x,x',y',z',J,b3,tk,he,a4,rfl⟩ rfl M hD _;have J:=M _ _ J;have y:=y.trans M;have B:m+1<q.length:=by lia
  have j7:=s.par (m+1) (by lia) B;have d7:=K32.eB (K32.Tk.of y) ik;obtain⟨D,e1,f1⟩:=GK d7 (m+1) (by rw[ai,aR];exact B);obtain⟨E,e2,f2⟩:=GK d7 (q.getD (m+1) 0) (by rw[ai,aR];lia);rw[EO B]at f1;rw[EO (by lia)]at f2;have ev:(1:Int)+(m:Int)=((m+1:Nat):Int):=by lia
  rw[ev];generalize hvv:m+1=v at *;ext;refine .inl ⟨nl,_,v,_,rfl,rfl,SqL.of (y _ _ a3),cf e1,?_⟩;refine .inl ⟨pa,_,v,_,rfl,rfl,SqL.of (y _ _ b0),cf (sk B),?_⟩;refine .inl ⟨nl,_,q.getD v 0,_,rfl,rfl,SqL.of (y _ _ a3),cf e2,?_⟩;refine⟨short (by simp),fun l hl=>?_⟩;have d6:gN f q n v≠gN f q n (q.getD v 0):=fun e=>by have :=b2 _ _ B (by lia) e;lia
  refine⟨l,_,[gN f q n v,gN f q n (q.getD v 0)],n.length,rfl,SqL.of au,by simp,two_nd d6,?_,.cons ⟨D,rfl,aB hl _ _ f1⟩ (.cons ⟨E,rfl,aB hl _ _ f2⟩ .nil),fun l2 g8=>?_⟩;·intro k T;simp at T;rcases T with rfl|rfl<;>exact xi
  obtain⟨u,F,c,e,es,b7,a6⟩:=sort2 (d:=V.non) d6 (V.ref D) (V.ref E);rw[es];have S:aQ H (upd (upd H l (.lst [.ref D,.ref E])) l2 (.lst [u,F])):=(aB hl).trans (aB g8);have c8:upd (upd H l (.lst [.ref D,.ref E])) l2 (.lst [u,F]) l2=some (.lst [u,F]):=au;generalize upd (upd H l (.lst [.ref D,.ref E])) l2 (.lst [u,F])=H7 at S c8⊢;have c3:=y.trans S;unfold nS;ext;refine cN ?_;ext;refine Or.inl ⟨lo,_,rfl,.inl (SqL.of (c3 _ _ d0)),_,rfl,by rw[cV];lia,by rw[cV];lia,?_⟩;rw[cV,aN];refine pJ (xs:=nats n.length) K32.B9 (K32.dA (by unfold nats;simp;lia)) (fun _ _=>trivial) (fun o=>match o with |.int i=>decide (((n.getD i.toNat 0:Nat):Int)=((v:Nat):Int)) |_=>false) id (fun τ=>∃u,τ=[u,some (.int ((v:Nat):Int)),some (.ref lo)]) ⟨none,rfl⟩ ?_ ?_
  ·rintro c5 τ H8 Rt Rf hx ⟨u,rfl⟩ X kt kf;unfold nats at hx;obtain⟨i,hi,rfl⟩:=az.mp hx;have hi:=aW.mp hi;ext;refine .inl ⟨lo,_,i,_,rfl,rfl,SqL.of (X _ _ (c3 _ _ d0)),cf (sk hi),?_⟩;refine ll.mpr ⟨_,rfl,?_⟩;by_cases h:((n.getD i 0:Nat):Int)=((v:Nat):Int);·rw[decide_eq_true h,if_pos rfl];exact kt _ _ ⟨_,rfl⟩ (aQ.refl _) (decide_eq_true h)
   ·rw[decide_eq_false h,if_neg ak];exact kf _ _ ⟨_,rfl⟩ (aQ.refl _) (decide_eq_false h)
  intro H8 l3 X g9;rw[dQ];have f8:((nats n.length).filter fun o=>match o with |.int i=>decide (((n.getD i.toNat 0:Nat):Int)=((v:Nat):Int)) |_=>false).length<=60:=by refine aL (dZ _ _) ?_;unfold nats;rw[ai,aR];exact b6
  generalize hpl:((nats n.length).filter fun o=>match o with |.int i=>decide (((n.getD i.toNat 0:Nat):Int)=((v:Nat):Int)) |_=>false)=pl at f8⊢;generalize hX:upd H8 l3 _=H9;obtain⟨O,e9⟩:=cU hX g9;clear hX
  replace O:=X.trans (O)
  have i5:=c3.trans O;unfold nR;ext;have c7:=O _ _ (S _ _ J);have c9:=O _ _ c8;refine⟨.inl ⟨rfl,_,SqL.of c7⟩,?_⟩;refine .inl ⟨l2,_,0,_,rfl,rfl,SqL.of c9,rfl,?_⟩;refine .inl ⟨l2,_,1,_,rfl,rfl,SqL.of c9,rfl,?_⟩;refine⟨l3,_,rfl,.inl ⟨SqL.of e9,fun z hz=>⟨short (by simp),fun w hw=>?_⟩⟩⟩;have R:aQ H9 (upd (upd H9 z (.tup pl)) w (.tup [u,F,.ref z])):=(aB hz).trans (aB hw);have Z:upd (upd H9 z (.tup pl)) w (.tup [u,F,.ref z]) w=some (.tup [u,F,.ref z]):=au;have d1:upd (upd H9 z (.tup pl)) w (.tup [u,F,.ref z]) z=some (.tup pl):=by rw[ba (bL au hw)];exact au
  generalize upd (upd H9 z (.tup pl)) w (.tup [u,F,.ref z])=H10 at R Z d1⊢;have c6:=R _ _ c7;have d2:=_root_.Q.mQ tk;have Y:K32.Tk H H10:=K32.Tk.of (S.trans (O.trans R));have A:K32.Tk H10 (upd H10 I (.lst (bs++[.ref w]))):=K32.tM c6;refine⟨I,_,_,rfl,rfl,c6,K32.xq (by lia),?_⟩;refine hD _ _ ⟨eH (i5.trans R) d3,bs++[.ref w],x++[(c,e)],_,_,_,au,by simp[b3,hvv],?_,?_,?_,rfl⟩
  ·have L:=A _ _ (Y _ _ f1);have P:=A _ _ (Y _ _ f2);refine K32.Paired.snoc ?_ (Paired.mZ tk ?_)
   ·rcases b7 with⟨rfl,rfl,rfl,rfl⟩ |⟨rfl,rfl,rfl,rfl⟩;·exact⟨w,D,E,_,rfl,A _ _ Z,L,P⟩
    ·exact⟨w,E,D,_,rfl,A _ _ Z,P,L⟩
   ·rintro a2 k ⟨a',x1,x2,rs,Q,h2,h3,h4⟩;have t:K32.Tk H5 _:=fun b o h=>A b o (Y b o (M _ _ h));exact⟨a',x1,x2,rs,Q,t _ _ h2,t _ _ h3,t _ _ h4⟩
  ·intro i k a0;by_cases hi:i<x.length;·rw[cq hi]at a0;exact he i k a0
   ·have f9:=(aC.mp a0).1;rw[bj,dj]at f9;obtain rfl:i=m:=by lia
    rw[bO (by lia),b3,Nat.sub_self]at a0;cases a0;rw[hvv];refine⟨B,?_,a6⟩;rcases b7 with⟨_,_,rfl,rfl⟩ |⟨_,_,rfl,rfl⟩;·exact .inl rfl
    ·exact .inr rfl
  ·intro j a2 r;have t:K32.Tk H5 (upd H10 I (.lst (bs++[.ref w]))):=fun b o h=>A b o (Y b o (M _ _ h));by_cases a5:j<bs.length;·rw[cq a5]at r;exact(a4 j a2 r).tk t
   ·have g6:=(aC.mp r).1;rw[bj,dj]at g6;obtain rfl:j=m:=by lia
    rw[bO (by lia),show j-bs.length=0 by lia]at r;cases r;rw[hvv];have L:=A _ _ (Y _ _ f1);have P:=A _ _ (Y _ _ f2);have g3:upd H10 I (.lst (bs++[.ref w])) z=some (.tup (pls n v)):=by unfold pls;rw[hpl];exact A _ _ d1
    rcases b7 with⟨rfl,rfl,rfl,rfl⟩ |⟨rfl,rfl,rfl,rfl⟩;·exact⟨w,D,E,z,_,_,rfl,A _ _ Z,L,P,.inl ⟨rfl,rfl⟩,g3⟩
    ·exact⟨w,E,D,z,_,_,rfl,A _ _ Z,P,L,.inr ⟨rfl,rfl⟩,g3⟩
 ·rintro σ H5 ⟨y,bs,x,x',y',z',J,b3,tk,he,a4,rfl⟩;unfold qG;ext;refine⟨_,_,g5,pa,nl,seed,d8,free,q,ys,rfl,y _ _ b0,y _ _ a3,by lia,b4,b5,s.par,fun H t g vv M ft et j4 f6 cb i0=>?_⟩;have j0:=M _ _ J;have e3:=y.trans M;have j3:1<=g.length:=by
   cases g with
   |nil=>exact absurd rfl f6
   |cons _ _=>simp
  unfold oY;ext;refine⟨⟨by decide,by decide⟩,Or.inl ⟨t,_,rfl,.inl (SqL.of et),iC.mpr ⟨by lia,?_⟩⟩⟩;obtain⟨k,T⟩:=bU (cz (seed/11) (show((g.length:Nat):Int)≠0 by lia));have g7:k<g.length:=by have :=bX (seed/11) (show(0:Int)<((g.length:Nat):Int) by lia);lia
  rw[T];unfold oX;ext;have e1:pX g (some (k:Int)) none=g.drop k:=by unfold pX;rw[HT.rQ,HT.pB,BP (by lia),gv (by rw[cR];lia)]
  have e2:pX g none (some (k:Int))=g.take k:=by unfold pX;rw[HT.rQ,HT.pB,BP (by lia),List.drop_zero,Nat.sub_zero]
  refine .inl ⟨t,g,rfl,SqL.of et,fun p1 h0=>?_⟩;rw[e1];generalize hX:upd H p1 _=H7;obtain⟨S,f0⟩:=cU hX h0;clear hX;refine .inl ⟨t,g,rfl,SqL.of (S _ _ et),fun p2 h5=>?_⟩;rw[e2];generalize hX:upd H7 p2 _=H8;obtain⟨X,b1⟩:=cU hX h5;clear hX;have d5:(g.drop k).length+(g.take k).length=g.length:=by rw[cR,dz];lia
  refine .inr (.inr (.inl ⟨p1,p2,_,_,rfl,rfl,X _ _ f0,b1,K32.dA (by lia),fun p3 h6=>?_⟩));generalize hX:upd H8 p3 _=H9;obtain⟨O,f3⟩:=cU hX h6;clear hX;have c4:aQ H H9:=S.trans (X.trans O);have e4:=e3.trans c4;have i2:=K32.eB (K32.Tk.of e4) ik;refine⟨nl,ys,nds f q n,n.length,rfl,SqL.of (e4 _ _ a3),by simp;lia,d9,fun k T=>?_,i2,fun q1 h7=>?_⟩;·obtain⟨v,_,rfl⟩:=az.mp T;exact xi
  generalize hX:upd H9 q1 _=H10;obtain⟨R,f4⟩:=cU hX h7;clear hX;have a1:aQ H5 H10:=M.trans (c4.trans R);have i6:_root_.Q.jw H10 bs x:=Paired.mZ tk fun a2 c ⟨a',x1,x2,rs,Q,h2,h3,h4⟩=>⟨a',x1,x2,rs,Q,a1 _ _ h2,a1 _ _ h3,a1 _ _ h4⟩;obtain⟨kn,kl⟩:=ends_nd (m:=n.length) b2 (fun v=>xi) s.par he;refine⟨I,bs,x,n.length,rfl,SqL.of (a1 _ _ J),by lia,kn,kl,i6,fun q2 h8=>⟨short (by simp),fun w hw=>?_⟩⟩;have b9:=(aB (o:=.lst (_root_.Q.cB .non (x.map _root_.Q.kQ) bs)) h8).trans (aB (o:=.tup [.ref p3,.ref q1,.ref q2]) hw);have e6:=R.trans b9;have e5:=c4.trans e6;have c2:=e3.trans e5;refine i3 _ w p3 q1 q2 (g.drop k++g.take k) ys _ (fun i=>nmB seed ((i+k)%g.length)) (fun i=>vv.getD ((i+k)%g.length) 0) f q n (i4.trans c2) au ?_ b4 b5 d9 (K32.eB (K32.Tk.of c2) ik) (b9 _ _ f4) (aB hw _ _ au) ?_
  rotate_left
  ·have d2:=_root_.Q.mQ tk;have W:(_root_.Q.cB V.non (x.map _root_.Q.kQ) bs).Perm bs:=K83.kj _ kn (by rw[ai];exact d2);have e7:=K32.Tk.of (a1.trans b9);refine⟨fun p hp=>?_,own,fun v B hn=>?_,fun z hz=>?_,fun e e1 e2=>?_,?_,f5⟩
   ·have U:n.getD p 0∈n:=by rw[aa,ae hp];exact a9 hp
    rw[a7.mem_iff]at U;unfold gZ at U;obtain⟨e,f7,U⟩:=eP.mp U;have :=aW.mp f7;have :=(List.mem_replicate.mp U).2;show n.getD p 0<q.length;lia
   ·obtain⟨j,r,ej⟩:=cL.mp (i0 v B hn);have a5:j<g.length:=by rw[cb.len];exact r
    refine⟨(j+(g.length-k))%g.length,by rw[bj,d5];exact DU _ (by lia),?_⟩;have em:((j+(g.length-k))%g.length+k)%g.length=j:=by
     by_cases h:k<=j;·rw[show j+(g.length-k)=(j-k)+g.length by lia,Nat.add_mod_right,eT (show j-k<g.length by lia),Nat.sub_add_cancel h,eT a5]
     ·rw[eT (show j+(g.length-k)<g.length by lia),show j+(g.length-k)+k=j+g.length by lia,Nat.add_mod_right,eT a5]
    show vv.getD (((j+(g.length-k))%g.length+k)%g.length) 0=v;rw[em,aa,ae r];exact ej
   ·obtain⟨j,r⟩:=bS.mp (W.mem_iff.mp hz);have :=(aC.mp r).1;exact⟨j+1,by lia,by lia,(a4 j z r).tk e7⟩
   ·have r:e-1<bs.length:=by lia
    have h:=a4 (e-1) _ (ae r);rw[show e-1+1=e by lia]at h;exact⟨_,W.mem_iff.mpr (a9 r),h.tk e7⟩
   ·rw[W.length_eq];lia
  have d4:(g.drop k++g.take k).length=g.length:=by rw[bj,d5]
  have md:∀i,(i+k)%g.length<g.length:=fun i=>DU _ (by lia);refine⟨e6 _ _ f3,by lia,by lia,fun i=>nmB_ok (aU (md i) (by lia)),fun i j hi r e=>?_,fun i c hc=>?_,b6,hf,s.par⟩
  ·have e:=nmB_inj (aU (md i) (by lia)) (aU (md j) (by lia)) e;rw[d4]at hi r;have a8:∀i,i<g.length->(i+k)%g.length=if i+k<g.length then i+k else i+k-g.length:=fun i hi=>by
    by_cases h:i+k<g.length;·rw[if_pos h,eT h]
    ·rw[if_neg h,Nat.mod_eq_sub_mod (by lia),eT (by lia)]
   rw[a8 i hi,a8 j r]at e;split at e<;>split at e<;>lia
  ·have hi:=(aC.mp hc).1;rw[d4]at hi;rw[rot g7 hi]at hc;obtain⟨b,rfl,hb⟩:=cb.at_ _ c hc;have b8:vv.getD ((i+k)%g.length) 0<q.length:=by
    have a6:(i+k)%g.length<vv.length:=by rw[<-cb.len];exact md i
    rw[aa,ae a6];exact cb.lt _ (a9 a6)
   obtain⟨a8,er,fr⟩:=GK ik _ (show vv.getD ((i+k)%g.length) 0<(nds f q n).length by rw[ai,aR];exact b8);rw[aa (l:=ys),er]at hb;rw[EO b8]at fr;exact⟨b8,b,a8,rfl,e5 _ _ hb,c2 _ _ fr⟩
end
end Bt
namespace Bm
open Mt
structure Bk(f:Nat->Int)(own par:Nat->Nat)(n N:Nat)(rows:List (List Int)):Prop where
 hp:∀v,1<=v->v<N->par v<v
 hf:∀p,p<n->f p=0\/f p=1
 ow:∀p,p<n->own p<N
 has:∀e,1<=e->e<N->∃p,p<n/\own p=e
 row:∀r∈rows,∃v,v<N/\r=nd f own par n v
 cp:∀v,v<N->near par N v<=2->nd f own par n v∈rows
 tb:M7.Tbl rows n
section
variable {f:Nat->Int}{own par:Nat->Nat}{N:Nat}
def rR{u v:Nat}(h:on par (own p) u=on par (own p) v):rdv f own par u p=rdv f own par v p:=by unfold rdv;rw[h]
def nd_ok(hf:∀p,p<n->f p=0\/f p=1)(v:Nat):M6.Ok n (nd f own par n v):=⟨xi,fun x a=>by unfold nd at a;obtain⟨p,hp,rfl⟩:=az.mp a;exact rdv_bit (hf p (aW.mp hp))⟩
def Bk.fits(b:Bk f own par n N rows){v:Nat}(c:v<N):M7.Fits rows n (nd f own par n v):=by
 refine⟨nd_ok b.hf v,fun i j hi a=>?_⟩;obtain⟨d,m,e,g,l⟩:=there b.hp (cp:=fun v=>nd f own par n v∈rows) (fun v c h=>by
  apply aJ
  intro k;exact h (b.cp v c (by lia))) c (b.ow i hi) (b.ow j a)
 exact⟨_,e,by rw[eF hi,eF hi];exact rR g,by rw[eF a,eF a];exact rR l⟩
def Bk.Fg(b:Bk f own par n N rows)(hp:p<n)(c:1<=own p):rdv f own par (own p) p≠rdv f own par (par (own p)) p:=fun z=>by have d:=b.ow p hp;have g:=b.hp _ c d;have a:=AD (own:=own) (v:=own p) b.hp b.hf hp;have e:=AD (own:=own) (v:=par (own p)) b.hp b.hf hp;rw[z,<-e,jj b.hp c d]at a;have :=qb b.hp _ (by lia) a.symm;lia
def Bk.same(b:Bk f own par n N rows)(hp:p<n)(a:1<=own p)(h:own q≠own p):rdv f own par (own p) q=rdv f own par (par (own p)) q:=
 rR (by rw[jK b.hp a (b.ow p hp),decide_eq_false (fun z=>h z.symm),bV])
def Bk.cls(b:Bk f own par n N rows)(hp:p<n)(hq:q<n)(h:own q=own p):M7.Cls rows p q:=by intro r a s c;obtain⟨u,g,rfl⟩:=b.row r a;obtain⟨v,i,rfl⟩:=b.row s c;rw[eF hp,eF hp,eF hq,eF hq];have d:=b.hf p hp;have e:=b.hf q hq;unfold rdv;rw[h];cases on par (own p) u<;>cases on par (own p) v<;>simp <;>lia
def Bk.ends(b:Bk f own par n N rows)(hp:p<n)(k:1<=own p):M7.End rows n p (nd f own par n (own p))/\M7.End rows n p (nd f own par n (par (own p))):=by
 have m:=b.ow p hp;have B:=b.hp _ k m;have i:=b.fits m;have j:=b.fits (show par (own p)<N by lia);have y:=b.Fg hp k;have o:∀q,q<n->¬M7.Cls rows p q->∃r∈rows,∃s∈rows,r.getD p 0≠s.getD p 0/\r.getD q 0=rdv f own par (own p) q/\s.getD q 0=rdv f own par (own p) q/\rdv f own par (own p) q=rdv f own par (par (own p)) q:=fun q hq c=>by have A:own q≠own p:=fun z=>c (b.cls hp hq z);have x:=b.same hp k A;obtain⟨r,a,t,u⟩:=i.2 p q hp hq;obtain⟨s,d,v,w⟩:=j.2 p q hp hq;rw[eF hp]at t v;rw[eF hq]at u w;exact⟨r,a,s,d,by rw[t,v];exact y,u,by rw[w,x],x⟩
 refine⟨⟨i.1,fun q hq _=>i.2 p q hp hq,fun q hq c=>?_⟩,⟨j.1,fun q hq _=>j.2 p q hp hq,fun q hq c=>?_⟩⟩;·obtain⟨r,a,s,d,e,g,h,_⟩:=o q hq c;exact⟨r,a,s,d,e,by rw[eF hq];exact g,by rw[eF hq];exact h⟩
 ·obtain⟨r,a,s,d,e,g,h,l⟩:=o q hq c;exact⟨r,a,s,d,e,by rw[eF hq,<-l];exact g,by rw[eF hq,<-l];exact h⟩
def Bk.end_iff(b:Bk f own par n N rows)(hp:p<n)(e:1<=own p){x:List Int}:M7.End rows n p x↔x=nd f own par n (own p)\/x=nd f own par n (par (own p)):=by
 obtain⟨a,d⟩:=b.ends hp e;constructor
 ·intro h;have j:=b.Fg hp e;have k:=h.ok.at p;have g:=a.ok.at p;have i:=d.ok.at p;rw[eF hp]at g i;by_cases c:x.getD p 0=rdv f own par (own p) p;·exact .inl (M7.End.one b.tb hp h a (by rw[eF hp];exact c))
  ·exact .inr (M7.End.one b.tb hp h d (by rw[eF hp];lia))
 ·rintro(rfl|rfl);·exact a
  ·exact d
def Bk.torn(b:Bk f own par n N rows)(hp:p<n):K32.grp rows p≠0↔1<=own p:=by
 rw[M9.rL b.tb];constructor
 ·rintro⟨r,a,s,c,g⟩;obtain⟨u,k,rfl⟩:=b.row r a;obtain⟨v,l,rfl⟩:=b.row s c;rw[eF hp,eF hp]at g;apply Nat.one_le_iff_ne_zero.mpr;intro z;apply g;have h:∀w,w<N->on par (own p) w=false:=fun w m=>by
   cases q:on par (own p) w with
   |false=>rfl
   |true=>have :=qb b.hp w m q;lia
  exact rR (by rw[h u k,h v l])
 ·intro d;have e:=b.ow p hp;have o:=b.hp _ d e;obtain⟨r,a,i,_⟩:=(b.fits e).2 p p hp hp;obtain⟨s,c,j,_⟩:=(b.fits (show par (own p)<N by lia)).2 p p hp hp;rw[eF hp]at i j;exact⟨r,a,s,c,by rw[i,j];exact b.Fg hp d⟩
def Bk.mem(b:Bk f own par n N rows):M7.Fits rows n v↔∃k,k<N/\v=nd f own par n k:=by
 constructor
 ·intro h;rcases M7.Gi b.tb h with e|⟨p,hp,g,e⟩
  ·have j:M4.bl (K32.fr rows) n (fun _=>false)=rows.getD 0 []:=M7.GW (M4.iF _ _ _) (b.tb.ok _ b.tb.first).1 fun i hi=>by rw[M7.ip hi,if_neg ak];rfl
   rw[j]at e;obtain⟨k,a,l⟩:=b.row _ b.tb.first;exact⟨k,a,e.trans l⟩
  ·have c:=(b.torn hp).mp g;have d:=b.ow p hp;have m:=b.hp _ c d;rcases(b.end_iff hp c).mp (M7.j9 b.tb hp g)with e4|e4;·exact⟨own p,d,e.trans e4⟩
   ·exact⟨par (own p),by lia,e.trans e4⟩
 ·rintro⟨k,a,rfl⟩;exact b.fits a
def Bk.inj(b:Bk f own par n N rows)(hi:i<N)(a:j<N)(e:nd f own par n i=nd f own par n j):i=j:=by
 apply aJ
 intro c;rcases Nat.lt_or_gt_of_ne c with h|h;·exact Gs b.hp b.hf h a (b.has j (by lia) a) e.symm
 ·exact Gs b.hp b.hf h hi (b.has i (by lia) hi) e
abbrev nodes(f:Nat->Int)(own par:Nat->Nat)(n N:Nat):List (List Int):=(aH N).map (nd f own par n)
def Bk.Lj(b:Bk f own par n N rows):(nodes f own par n N).Nodup:=by unfold nodes;rw[BV,de];refine da.mpr fun i j hi a c z=>?_;rw[aR]at hi a;rw[i8,i8]at z;exact absurd (b.inj hi a z) (by lia)
def Bk.perm(b:Bk f own par n N rows):(M8.nds rows n).Perm (nodes f own par n N):=by
 refine(List.perm_ext_iff_of_nodup (M8.kq b.tb) b.Lj).mpr fun v=>?_;rw[M8.fU b.tb,b.mem];unfold nodes;rw[az];constructor;·rintro⟨k,a,e⟩;exact⟨k,aW.mpr a,e.symm⟩
 ·rintro⟨k,a,e⟩;exact⟨k,aW.mp a,e.symm⟩
def Bk.sorted(b:Bk f own par n N rows):M8.nW (M8.nds rows n)=M8.nW (nodes f own par n N):=M9.yX (M8.kq b.tb) b.perm
end
end Bm
namespace Bt
open PySem PySem.Spec PyProof.Rows L2 R Cp Lt Kc Mt K21 K22 Lm
section
variable {t:Addr}{bs:List V}{nf:Nat->Str}{vf:Nat->Nat}{f:Nat->Int}{ps os:List Nat}
abbrev rws(m:Nat)(vf:Nat->Nat)(f:Nat->Int)(ps os:List Nat):List (List Int):=(aH m).map fun i=>gN f ps os (vf i)
def rws_at(h:i<m):(rws m vf f ps os).getD i []=gN f ps os (vf i):=by unfold rws;rw[aa,av,bN h];rfl
def Blt.vlt(B:Blt H t cs nf vf f ps os)(h:i<cs.length):vf i<ps.length:=(B.at_ i _ (ae h)).1
def Blt.row(B:Blt H t cs nf vf f ps os)(h:r∈rws cs.length vf f ps os):∃v,v<ps.length/\r=nd f (fn os) (fn ps) os.length v:=by unfold rws at h;obtain⟨i,hi,rfl⟩:=az.mp h;exact⟨vf i,B.vlt (aW.mp hi),rfl⟩
def DG{a b:Bool}{x:Int}(c:x=0\/x=1)(h:(if a=true then 1-x else x)=if b=true then 1-x else x):a=b:=by rcases c with rfl|rfl<;>cases a<;>cases b<;>first |rfl| (revert h;decide)
def Blt.mis(B:Blt H t cs nf vf f ps os)(E:i<j)(l:j<os.length):M6.Mis (rws cs.length vf f ps os) i j:=by
 have m:=B.bit i (by lia);have n:=B.bit j l;have get:∀{p v:Nat},p<os.length->(nd f (fn os) (fn ps) os.length v).getD p 0=if on (fn ps) (fn os p) v=true then 1-f p else f p:=fun{p v} hp=>by rw[eF hp];rfl
 apply aJ
 intro o;have c:∀a b:Bool,∃v,v<ps.length/\on (fn ps) (fn os i) v=a/\on (fn ps) (fn os j) v=b:=fun a b=>by
  apply aJ
  intro k;refine o ⟨if a=true then 1-f i else f i,if b=true then 1-f j else f j,by split <;>lia,by split <;>lia,fun r q ⟨g,h⟩=>?_⟩;obtain⟨v,e,rfl⟩:=B.row q;rw[get (by lia)]at g;rw[get l]at h;refine k ⟨v,e,?_,?_⟩;·exact DG m g
  ·exact DG n h
 obtain⟨u,s,u1,y⟩:=c true true;obtain⟨v,e,z,A⟩:=c true false;obtain⟨w,x,C,D⟩:=c false true;exact Li (d:=0) B.par s e x ⟨u1,y⟩ ⟨z,A⟩ ⟨C,D⟩
def Blt.tn(B:Blt H t cs nf vf f ps os):K34.Tn H t nf os.length cs (rws cs.length vf f ps os) where
 et:=B.et
 ln:=by unfold rws;rw[ai,aR]
 row:=fun i y e=>by obtain⟨_,b,r,a,c,d⟩:=B.at_ i y e;exact⟨b,r,a,c,by rw[rws_at (aC.mp e).1];exact d⟩
 ok:=B.ok
 inj:=B.inj
 len:=B.l40
 n10:=B.n60
 rd:=fun r k=>by obtain⟨v,_,rfl⟩:=B.row k;exact Bm.nd_ok B.bit v
 mis:=fun i j g h=>B.mis g h
def Blt.ne(B:Blt H t cs nf vf f ps os):cs≠[]:=fun z=>by have :=B.l1;rw[z]at this;simp at this
def Blt.bk(B:Blt H t cs nf vf f ps os)(x:Bx H bs cs.length vf f ps os):Bm.Bk f (fn os) (fn ps) os.length ps.length (rws cs.length vf f ps os) where
 hp:=B.par
 hf:=B.bit
 ow:=x.ow
 has:=x.has
 row:=fun r b=>B.row b
 cp:=fun v c a=>by obtain⟨i,hi,e⟩:=x.cp v c a;unfold rws;exact az.mpr ⟨i,aW.mpr hi,by rw[e]⟩
 tb:=B.tn.tbl B.ne
end
end Bt
namespace K62
open PySem R
abbrev wO:List Str:=["_law_nodes_here","_law_cell","_law_many"]
abbrev oy:List Str:=["_law_nodes_here","_law_cell","_law_many","_law_node","_law_left","_law_drawn","_law_places","_law_k","_law_place"]
abbrev mh:CB:=
  (.cons (.ret (.comp ["_law_place"] [3] (.name 0) (.seq (.var 6)) .no (.tup (.cons (.var 0) (.cons (.idx (.var 1) (.var 0)) .nil)))))
  .nil)
abbrev gK:CB:=
  (.cons (.iff (.cmp .NotIn (.var 8) (.var 6))
  (.cons (.expr (.meth1 .append (.var 6) (.var 8)))
  .nil)
  .nil)
  .nil)
abbrev iW:CB:=
  (.cons (.asg (.name 4) (.bin .FloorDiv (.var 4) (.bfn .len (.cons (.var 3) .nil))))
  .nil)
abbrev jt:CB:=
  (.cons (.iff (.and (.cmp .Eq (.bin .Mod (.var 2) (.con (.int 2))) (.con (.int 1))) (.cmp .GtE (.var 4) (.bfn .len (.cons (.var 3) .nil))))
  (.cons (.asg (.name 8) (.bin .Mod (.var 4) (.bfn .len (.cons (.var 3) .nil))))
  iW)
  .nil)
  gK)
abbrev mn:CB:=
  (.cons (.forr (.name 7) (.range1 (.var 2))
  (.cons (.iff (.cmp .NotEq (.var 3) (.tup .nil))
  (.cons (.asg (.name 8) (.bin .Mod (.bin .Add (.bin .FloorDiv (.var 5) (.con (.int 20))) (.bin .Mult (.var 7) (.bin .Add (.con (.int 1)) (.bin .Mod (.bin .FloorDiv (.var 5) (.con (.int 1300))) (.con (.int 7)))))) (.bfn .len (.cons (.var 3) .nil))))
  jt)
  .nil)
  .nil))
  mh)
abbrev mq:CB:=
  (.cons (.asg (.name 6) (.lst .nil))
  mn)
abbrev mr:CB:=
  (.cons (.asg (.name 5) (.call "_law_mixed" (.cons (.var 1) (.cons (.con (.int 3)) .nil))))
  mq)
abbrev mw:CB:=
  (.cons (.asg (.name 4) (.bin .FloorDiv (.var 1) (.bfn .len (.cons (.var 0) .nil))))
  mr)
abbrev oO:CB:=
  (.cons (.asg (.name 3) (.idx (.var 0) (.bin .Mod (.var 1) (.bfn .len (.cons (.var 0) .nil)))))
  mw)
end K62
namespace K62
open PySem PySem.Spec PyProof.Rows L2 R Cp Lt Kc K21 K22 Lm K32 K34 K75
section
variable {G:Gam}
def getD_at{xs:List Int}(h:i<xs.length):(xs.map V.int)[i]? =some (.int (xs.getD i 0)):=by rw[av,aa,ae h];rfl
theorem Az:∀{zs:List V}{ts:List (Nat×Int)},Paired (TgV H) zs ts->eX K H (ts.map fun q=>L2.D.tup [.int q.1,.int q.2]) zs
 |_,_,.nil=>rfl
 |_,_,.cons ⟨a,e,h⟩ t=>⟨_,_,rfl,by rw[e];exact⟨a,_,rfl,SqT.of h,_,_,rfl,rfl,_,_,rfl,rfl,rfl⟩,Az t⟩
theorem A9:∀ts:List (Nat×Int),fw (ts.map fun q=>L2.D.tup [.int q.1,.int q.2])<=1
 | []=>aV _
 |q::ts=>by
  have :=A9 ts;show max (hgt (L2.D.tup [.int q.1,.int q.2])) (fw (ts.map fun q=>L2.D.tup [.int q.1,.int q.2]))<=1;have :hgt (L2.D.tup [.int q.1,.int q.2])<=1:=by simp[hgt,fw]
  lia
def GZ{b:Type}(g:b->L2.D)(l:List b):eqD (.lst (l.map g)) (.lst [])=decide (l=[]):=by
 cases l with
 |nil=>rfl
 |cons a l=>rfl
def L7(p:Nat)(a:List Nat):inV (.int p) (Bt.iN a)=decide (p∈a):=by
 unfold inV Bt.iN;rw[v9,cw,b8,decide_eq_true_eq];constructor
 ·rintro⟨x,b,h⟩;have h:((x:Int)==(p:Int))=true:=h;have :(x:Int)=(p:Int):=by simpa using h
  have :x=p:=by lia
  exact this▸b
 ·intro h;exact⟨p,h,by show((p:Int)==(p:Int))=true;simp⟩
def GV(a:List Nat):(Bt.iN a).all qk=true:=by unfold Bt.iN;rw[pU,bg];exact fun _ _=>rfl
def spTl(K:ah):Sp:=fun vs H Q _=>∃(nl:Addr)(c:Int)(m n:Nat)(ws:List V)(ns:List (List Int)),vs=[.ref nl,.int c,.int m]/\SqL K H nl ws/\Paired (NdV K H) ws ns/\ns≠[]/\ns.length<=61/\(∀v∈ns,M6.Ok n v)/\n<=60/\m<=7/\
 ∀H' l zs ts v,aQ H H'->H l=none->Tls H' l zs ts->Vt n ts->v∈ns->rdT ts v=true->Q (.ref l) H'
def wp_tl(g1:G.fn "_law_mixed" 2=some (Bt.yZ,[])):Sat G K (spTl K) oO oy:=by
 rintro P H b5 a1 ⟨u,c,m,n,l,Y,rfl,B,pn,ne,b9,a5,b8,m7,b3⟩;have wl:l.length=Y.length:=K83.gF pn;have c0:0<Y.length:=fR.mpr ne;unfold oO;change wpB G K _ _ _ [some (.ref u),some (.int c),some (.int m),none,none,none,none,none,none] H;ext;refine .inl ⟨u,l,rfl,.inl B,iC.mpr ⟨by lia,?_⟩⟩;have i0:0<=c%(l.length:Int):=cz _ (by lia);have i1:c%(l.length:Int)<(l.length:Int):=bX _ (by lia);obtain⟨z,hz⟩:=bU i0;rw[hz]at i1⊢;have W:z<l.length:=by lia
 obtain⟨v,hv,b,eb,F⟩:=gX pn (ae W);have U:=aG hv;have Z:=a5 v U;have vl:=Z.1;refine .inl ⟨u,l,z,_,rfl,rfl,B,cf (ae W),?_⟩;rw[eb];unfold mw;ext;refine .inl ⟨u,l,rfl,.inl B,div_ii.mpr ⟨⟨by lia,by lia⟩,?_⟩⟩;generalize c/(l.length:Int)=r;unfold mr;ext;refine⟨_,_,g1,c,3,rfl,by decide,by decide,?_⟩;have a2:=Bt.mx_nn c 3;generalize Bt.mx c 3=dr at a2⊢;unfold mq;ext;refine⟨short (by simp),fun t T=>?_⟩;generalize hX:upd H t _=H1;obtain⟨s1,E⟩:=cU hX T;clear hX;unfold mn;ext;refine gH ?_;ext;refine⟨(m:Int),rfl,by lia,by lia,?_⟩;rw[aN];refine fN dD (fun i Q D=>aQ H D/\∃(d:List Nat)(r:Int)(x b4:Option V),D t=some (.lst (Bt.iN d))/\d.length<=i/\d.Nodup/\(∀p∈d,p<n)/\Q=[some (.ref u),some (.int c),some (.int m),some (.ref b),some (.int r),some (.int dr),some (.ref t),x,b4])
  ⟨s1,[],r,none,none,E,aw _,.nil,(fun p hp=>nomatch hp),rfl⟩ (fun _ _ _ _ _=>trivial) ?_ ?_
 ·rintro i x Q H2 s D2 hi ⟨C,d,r,x',y',g,b2,nd,plt,rfl⟩ rfl k J _;have g:=k _ _ g;have y:=C.trans k;have a4:=y.tup F
  --the last row
  have put:∀(q:Hp),aQ s q->∀(X:Int)(p:Nat),p<n->wpB G K (fun _=>a1) gK D2 [some (.ref u),some (.int c),some (.int m),some (.ref b),some (.int X),some (.int dr),some (.ref t),some (.int (i:Int)),some (.int (p:Int))] q:=fun q f X p hp=>by
   have g:=f _ _ g;have y:=y.trans f;unfold gK;ext;refine .inr ⟨t,Bt.iN d,rfl,.inl (SqL.of g),rfl,GV d,_,rfl,?_⟩;rw[if_pos rfl,L7];by_cases cp:p∈d;·rw[decide_eq_true cp,if_neg (by decide)];exact J _ _ ⟨y,d,_,_,_,g,by lia,nd,plt,rfl⟩
   ·rw[decide_eq_false cp,if_pos (by decide)];refine⟨.inl ⟨rfl,_,SqL.of g⟩,t,_,_,rfl,rfl,g,K32.xq (by rw[Bt.cV];lia),J _ _ ⟨eH y T,d++[p],_,_,_,by rw[Bt.vQ];exact au,by simp;lia,?_,fun x I=>?_,rfl⟩⟩;·rw[eG];exact⟨nd,by simp,fun a L b F=>by rw[aT.mp F];exact fun z=>cp (z▸L)⟩
    ·rcases cX.mp I with h|h;·exact plt x h
     ·rw[aT.mp h];exact hp
  ext;simp only[fB];refine⟨aV _,fun p0 a7=>?_⟩;generalize hX:upd s p0 _=q;obtain⟨f,e0⟩:=cU hX a7;clear hX;have A:=f.tup a4;refine⟨K83.nd1 v,K83.nd1 [],⟨b,_,rfl,A,eX.ints _⟩,⟨p0,_,rfl,SqT.of e0,rfl⟩,?_,_,rfl,?_⟩;·show fw (v.map L2.D.int)+1<=30;rw[l7];decide
  rw[Fe];by_cases cv:v=[];·rw[decide_eq_true cv,if_neg (by decide)];exact J _ _ ⟨y.trans f,d,_,_,_,f _ _ g,by lia,nd,plt,rfl⟩
  ·rw[decide_eq_false cv,if_pos (by decide)];have n0:0<n:=by rw[<-vl];exact fR.mpr cv
   have O:(v.map V.int).length=n:=by rw[ai,vl]
   have j0:0<=dr/1300%7:=cz _ (by decide);have j1:dr/1300%7<7:=bX _ (by decide);refine⟨⟨by decide,by decide⟩,⟨by decide,by decide⟩,by decide,xR (by lia) (by lia),.inl ⟨b,_,rfl,.inr A,iC.mpr ⟨by lia,?_⟩⟩⟩;rw[O];have w0:0<=(dr/20+(i:Int)*(1+dr/1300%7))%(n:Int):=cz _ (by lia);have w1:(dr/20+(i:Int)*(1+dr/1300%7))%(n:Int)<(n:Int):=bX _ (by lia);obtain⟨p,hp⟩:=bU w0;rw[hp]at w1⊢;unfold jt;ext;refine⟨by decide,?_⟩;by_cases cm:(m:Int)%2=1
   ·rw[if_pos (decide_eq_true cm)];refine .inl ⟨b,_,rfl,.inr A,Mg.mpr ⟨_,rfl,?_⟩⟩;rw[O];by_cases cl:(n:Int)<=r;·rw[if_pos (decide_eq_true cl)];refine .inl ⟨b,_,rfl,.inr A,iC.mpr ⟨by lia,?_⟩⟩;rw[O];have y0:0<=r%(n:Int):=cz _ (by lia);have y1:r%(n:Int)<(n:Int):=bX _ (by lia);obtain⟨p',a6⟩:=bU y0;rw[a6]at y1⊢;unfold iW;ext;refine .inl ⟨b,_,rfl,.inr A,div_ii.mpr ⟨⟨by lia,by lia⟩,?_⟩⟩;exact put q f _ p' (by lia)
    ·rw[if_neg (by simpa using cl)];exact put q f _ p (by lia)
   ·rw[if_neg (by simpa using cm),if_neg ak];exact put q f _ p (by lia)
 ·rintro Q H2 ⟨C,d,r,x',y',g,b2,nd,plt,rfl⟩;unfold mh;ext;have a3:=C.tup F;refine cN (cn rfl (SqL.of g) (dN dc (dA (by rw[Bt.cV];lia)) (fun s k=>SqL.of (k _ _ g)) (fun i w D=>∃a,w=V.ref a/\D a=some (.tup [.int (d.getD i 0:Nat),.int (v.getD (d.getD i 0) 0)])) (fun i w s q f ⟨a,e,h⟩=>⟨a,e,f _ _ h⟩) (fun τ=>∃a0,τ=[a0,some (.ref b)]) ⟨none,rfl⟩ ?_ ?_))
  ·rintro i x τ s b6 hi ⟨a0,rfl⟩ k I b0;rw[Bt.cV]at hi;rw[Bt.sk hi]at I;cases I;have a8:d.getD i 0∈d:=by rw[aa,ae hi];exact a9 hi
   have b7:=plt _ a8;ext;refine .inr (.inl ⟨b,_,(d.getD i 0:Nat),_,rfl,rfl,k.tup a3,cf (getD_at (by lia)),short (by simp),fun a L=>b0 _ _ _ ⟨_,rfl⟩ (aB L) ⟨a,rfl,au⟩⟩)
  ·intro P s b1 N hF k M;rw[Bt.cV]at N;have f:=k.trans (aB (o:=.lst P) M);refine b3 _ b1 P (d.map fun p=>(p,v.getD p 0)) v (C.trans f) ((C.trans k).free M) ⟨au,pr_mk (by rw[ai];exact N) fun j z w E R=>?_⟩ ⟨fun w B=>?_,?_⟩ U ?_
   ·obtain⟨a,e,h⟩:=hF j z E;have S:j<d.length:=by rw[<-N];exact(aC.mp E).1
    rw[av,ae S]at R;cases R;rw[aa,ae S]at h;exact⟨a,e,aB M _ _ h⟩
   ·obtain⟨p,hp,rfl⟩:=az.mp B;exact⟨plt p hp,Z.at p⟩
   ·rw[bp];have e:((fun x:Nat×Int=>x.1)∘fun p=>(p,v.getD p 0))=id:=rfl;rw[e,dQ];exact nd
   ·unfold rdT;rw[pU,bg];exact fun p _=>decide_eq_true rfl
end
def HH{ks:List (List Int)}(nd:ks.Nodup)(h:_root_.Q.IntKeys H ys ks):Paired (NdV K H) (_root_.Q.cB .non ks ys) (M8.nW ks):=by
 unfold M8.nW _root_.Q.cB;have lt:∀i∈_root_.Q.wU ks,i<ks.length:=fun i hi=>K83.vK nd hi;generalize _root_.Q.wU ks=o at lt
 induction o with
 |nil=>exact .nil
 |cons i o ih=>obtain⟨a,e,f⟩:=Bt.GK h i (lt i (.head _));refine .cons ⟨a,?_,SqT.of f⟩ (ih fun j b=>lt j (.tail _ b));show ys.getD i V.non=V.ref a;rw[aa,e];rfl
theorem F7:∀{ks:List V},(∀k∈ks,k=.non\/∃i:Int,k=.int i)->eX K H (ks.map K02.rdD) ks/\fw (ks.map K02.rdD)=0
 | [],_=>⟨rfl,rfl⟩
 |k::ks,h=>by
  have i:eX K H (ks.map K02.rdD) ks/\fw (ks.map K02.rdD)=0:=F7 fun z c=>h z (.tail _ c);obtain⟨a,b⟩:=i;rcases h k (.head _)with rfl|⟨i,rfl⟩;·exact⟨⟨_,_,rfl,rfl,a⟩,by show max 0 (fw (ks.map K02.rdD))=0;rw[b];rfl⟩
  ·exact⟨⟨_,_,rfl,rfl,a⟩,by show max 0 (fw (ks.map K02.rdD))=0;rw[b];rfl⟩
def LM:∀k∈knw rows n ts,k=.non\/∃i:Int,k=.int i:=fun k a=>by
 unfold knw at a;obtain⟨p,_,rfl⟩:=az.mp a;split;·exact .inl rfl
 ·exact .inr ⟨_,rfl⟩
def cmp_kd{ks:List V}(h:∀k∈ks,k=.non\/∃i:Int,k=.int i)(d:H a=some (.tup ks))(e:H b=some (.tup ks)){Q:VK}:(Q (.bl true) H->fM K .Eq (.ref a) (.ref b) H Q)/\(Q (.bl false) H->fM K .NotEq (.ref a) (.ref b) H Q):=by
 obtain⟨c,g⟩:=F7 (K:=K) (H:=H) h;have f:hgt (.tup (ks.map K02.rdD))<=30:=by show fw (ks.map K02.rdD)+1<=30;rw[g];decide
 constructor;·intro q;refine⟨.tup (ks.map K02.rdD),.tup (ks.map K02.rdD),⟨a,_,rfl,SqT.of d,c⟩,⟨b,_,rfl,SqT.of e,c⟩,f,?_⟩;rw[iU];exact q
 ·intro q;refine⟨.tup (ks.map K02.rdD),.tup (ks.map K02.rdD),⟨a,_,rfl,SqT.of d,c⟩,⟨b,_,rfl,SqT.of e,c⟩,f,?_⟩;rw[iU];exact q
end K62
namespace K64
open PySem PySem.Spec PyProof.Rows L2 R Cp Lt Kc K21 K22 Lm K32 K34 K75 K62
section
variable {G:Gam}{T:Tb}
def Ad{t:Addr}{E:XK}{Q:VK}(d:Tn H t nf n ys rows)(ne:ys≠[])(tb:Tab T H)
  (q:∀H2 p nl bl b a,Gr T H H2->SqT K H2 p [.ref nl,.ref bl]->SqL K H2 nl b->Paired (NdV K H2) b (M8.nW (M8.nds rows n))->SqL K H2 bl a->Paired (TrV K H2) a (M8.wz (M8.trs rows n))->Q (.ref p) H2):K83.mT T [.ref t] H Q E:=by
 refine JW (K:=K) (E:=fun _=>E) d tb (fun H2 p gr _ c=>?_) [];rw[if_neg ne]at c;unfold M9.trD at c;obtain⟨_,_,e,hp,_,_,rfl,⟨nl,b,rfl,g,i⟩,_,_,rfl,⟨bl,a,rfl,f,h⟩,rfl⟩:=c;cases e;exact q _ _ _ _ _ _ gr hp g (wJ i) f (wI h)
def nin_nds{p:Addr}{us:List V}{a:List (List Int)}{x:V}{Q:VK}(c:SqL K H p us)(d:Paired (NdV K H) us a)(e:NdV K H x v)(q:Q (.bl (!decide (v∈a))) H):fM K .NotIn x (.ref p) H Q:=by obtain⟨b,rfl,f⟩:=e;refine .inl (.inr ⟨p,us,_,K83.nd1 v,rfl,c,⟨b,_,rfl,f,eX.ints _⟩,rY d,aL (sr a) (by decide),?_⟩);rw[if_pos rfl,MS];exact q
end
end K64
namespace K61
open PySem R
abbrev ot:List Str:=["self","one","other"]
abbrev ku:List Str:=["self","one","other"]
abbrev mK:CB:=
  (.cons (.fldX (.var 0) "other" (.var 2))
  .nil)
abbrev mL:CB:=
  (.cons (.fldX (.var 0) "one" (.var 1))
  mK)
abbrev kL:CB:=
  (.cons (.expr (.base "KinError" (.cons (.var 0) (.cons (.var 1) (.cons (.var 2) .nil)))))
  mL)
abbrev yB:List Str:=["nodes","tellings"]
abbrev qf:List Str:=["nodes","tellings","place","one","other"]
abbrev qm:CB:=
  (.cons (.forr (.tup (.cons (.name 2) (.cons (.name 3) .nil))) (.enum (.var 1))
  (.cons (.forr (.name 4) (.seq (.cut (.var 1) (.yes (.var 2)) .no))
  (.cons (.iff (.cmp .Eq (.bfn .len (.cons (.call "that_read" (.cons (.var 0) (.cons (.lst (.cons (.var 3) (.cons (.var 4) .nil))) .nil))) .nil)) (.con (.int 0)))
  (.cons (.raisX "Torn" (.cons (.bfn .tuple (.cons (.bfn .list (.cons (.var 3) .nil)) .nil)) (.cons (.bfn .tuple (.cons (.bfn .list (.cons (.var 4) .nil)) .nil)) .nil)))
  .nil)
  .nil)
  .nil))
  .nil))
  .nil)
abbrev AI:List Str:=["nodes","tellings"]
abbrev rZ:List Str:=["nodes","tellings","found"]
abbrev oK:CB:=
  (.cons (.ret (.var 2))
  .nil)
abbrev oM:CB:=
  (.cons (.iff (.cmp .Eq (.bfn .len (.cons (.var 2) .nil)) (.con (.int 0)))
  (.cons (.expr (.call "refuse_torn" (.cons (.var 0) (.cons (.var 1) .nil))))
  .nil)
  .nil)
  oK)
abbrev sF:CB:=
  (.cons (.asg (.name 2) (.call "that_read" (.cons (.var 0) (.cons (.var 1) .nil))))
  oM)
abbrev Ld:List Str:=["table","tellings"]
abbrev CK:List Str:=["table","tellings"]
abbrev xX:CB:=
  (.cons (.ret (.call "told_nodes" (.cons (.idx (.call "tree" (.cons (.var 0) .nil)) (.con (.int 0))) (.cons (.var 1) .nil))))
  .nil)
abbrev DE:CB:=
  (.cons (.expr (.call "need_tellings" (.cons (.var 0) (.cons (.var 1) .nil))))
  xX)
abbrev Cr:List Str:=["_law_node","_law_tellings_here"]
abbrev uN:List Str:=["_law_node","_law_tellings_here"]
abbrev u5:CB:=
  (.cons (.ret (.cmp .Eq (.comp ["_law_one"] [0] (.name 0) (.seq (.var 1)) (.yes (.cmp .NotEq (.idx (.var 1) (.idx (.var 0) (.con (.int 0)))) (.idx (.var 0) (.con (.int 1))))) (.var 0)) (.lst .nil)))
  .nil)
abbrev AK:List Str:=["_law_nodes_here","_law_tellings_here"]
abbrev r8:List Str:=["_law_nodes_here","_law_tellings_here"]
abbrev sN:CB:=
  (.cons (.ret (.comp ["_law_node"] [1] (.name 0) (.seq (.var 0)) (.yes (.call "_law_bears" (.cons (.var 0) (.cons (.var 1) .nil)))) (.var 0)))
  .nil)
end K61
namespace K61
open PySem PySem.Spec PyProof.Rows L2 R Cp Lt Kc K21 K22 Lm M5 K32 K34 K75 K62
structure Cl2(K:ah)(B C:Addr):Prop where
 bs:BsX K B
 s1:StX K C "one"
 s2:StX K C "other"
 ex:∃f,t5 K C f bmV "ValueError.__new__"=true
abbrev fl2(x y:V):List (Str×V):=[("one",x),("other",y)]
def Ak(C:Addr):Sp:=fun vs H Q _=>∃a x y,vs=[.ref a,x,y]/\H a=some (exO a C none)/\∀dd H',dd≠a->H dd=none->H' a=some (exO a C (some dd))->H' dd=some (xdO dd (fl2 x y))->(∀b,b≠a->b≠dd->H' b=H b)->Q .non H'
section
variable {G:Gam}{B C CT:Addr}{T:Tb}
def JK(v1:G.val "KinError"=some (.ref B))(n:Cl2 K B C):
  Sat G K (Ak C) kL ku:=by
 rintro j H Q E ⟨a,x,y,rfl,d,q⟩;unfold kL;change wpB G K _ _ _ [some (.ref a),some x,some y] H;ext;obtain⟨f,hf⟩:=n.ex;refine⟨B,v1,n.bs,?_⟩;refine⟨_,rfl,_,rfl,_,rfl,a,C,f,[x,y],rfl,d,short (by show 2<=40;decide),hf,?_⟩;unfold mL;refine⟨_,rfl,_,rfl,a,C,rfl,n.s1,.inl ⟨d,fun c g=>?_⟩⟩;have ne:c≠a:=fun e=>by rw[e,d]at g;cases g
 unfold mK;refine⟨_,rfl,_,rfl,a,C,rfl,n.s2,.inr ⟨c,_,au,by rw[ba ne];exact au,by simp,?_⟩⟩;rw[put2];refine q c _ ne g ?_ au fun b i h=>?_;·rw[ba (bI ne)];exact au
 ·rw[ba h,ba i,ba h]
def IS{z:Nat}(h:z<=ys.length):pX ys (some (z:Int)) none=ys.drop z:=by unfold pX;rw[HT.rQ,HT.pB,BP h,gv (by rw[cR];lia)]
structure Nt(K:ah)(H:Hp)(a l:Addr)(n:Nat)(us zs:List V)(ns:List (List Int))(ts:List (Nat×Int)):Prop where
 ha:SqL K H a us
 pn:Paired (NdV K H) us ns
 hv:∀v∈ns,v.length=n
 nl:ns.length<=61
 n60:n<=60
 tl:Tls H l zs ts
 ok:∀q∈ts,q.1<n/\(q.2=0\/q.2=1)
 t60:ts.length<=60
theorem Nt.same{us:List V}{b:List (List Int)}(d:Nt K H a l n us zs b ts)(s:aQ H H'):Nt K H' a l n us zs b ts:=
 {d with ha:=s.seq d.ha,pn:=Paired.mZ d.pn fun _ _ h=>h.same s,tl:=d.tl.same s}
def Nt.two{us:List V}{o:List (List Int)}{x:V}(d:Nt K H a l n us zs o ts)(s:aQ H H')(c:zs[i]? =some x)(f:zs[j]? =some y)(e:H' b=some (.lst [x,y])):Nt K H' a b n us [x,y] o (tw ts i j):=by
 obtain⟨q,hq,c⟩:=gX d.tl.pr c;obtain⟨r,m,f⟩:=gX d.tl.pr f;have g:ts.getD i (0,0)=q:=by rw[aa,hq];rfl
 have k:ts.getD j (0,0)=r:=by rw[aa,m];rfl
 have p:∀{x:V}{q:Nat×Int},TgV H x q->TgV H' x q:=fun⟨a,e,h⟩=>⟨a,e,s _ _ h⟩;refine{d.same s with tl:=⟨e,?_⟩,ok:=fun z hz=>?_,t60:=by show 2<=60;decide};·unfold tw;rw[g,k];exact .cons (p c) (.cons (p f) .nil)
 ·unfold tw at hz;rw[g,k]at hz;rcases aI.mp hz with rfl|hz;·exact d.ok _ (aG hq)
  ·rw[aT.mp hz];exact d.ok _ (aG m)
def Nt.thr{us:List V}{c:List (List Int)}(d:Nt K H a l n us zs c ts){Q:VK}{E:XK}(q:∀H' b ws,aQ H H'->H b=none->H' b=some (.lst ws)->Paired (NdV K H') ws (c.filter (rdT ts))->Q (.ref b) H'):rO K [.ref a,.ref l] H Q E:=
 ⟨a,l,n,us,zs,c,ts,rfl,d.ha,d.pn,d.hv,d.nl,d.n60,d.tl,d.ok,d.t60,q⟩
def Tw(H:Hp)(ts:List (Nat×Int))(i j:Nat)(x y:V):Prop:=TgV H x (ts.getD i (0,0))/\TgV H y (ts.getD j (0,0))
def EKt(T:Tb)(CT:Addr)(H:Hp)(ns:List (List Int))(ts:List (Nat×Int))(E:XK):Prop:=∀H' i j x y dd,Gr T H H'->Fp ns ts i j->Tw H' ts i j x y->H' dd=some (xdO dd (fl2 x y))->E (.ref CT) (some dd) H'
def Un(ns:List (List Int))(ts:List (Nat×Int)):Prop:=∃i j,i<=j/\j<ts.length/\ns.filter (rdT (tw ts i j))=[]
def spRt(K:ah)(T:Tb)(CT:Addr):Sp:=fun vs H _ E=>∃(a l:Addr)(n:Nat)(us zs:List V)(ns:List (List Int))(ts:List (Nat×Int)),vs=[.ref a,.ref l]/\Nt K H a l n us zs ns ts/\Un ns ts/\EKt T CT H ns ts E
def Lo(ns:List (List Int))(ts:List (Nat×Int))(i j:Nat):Prop:=∀a b,a<=b->b<ts.length->a<i\/a=i/\b<j->ns.filter (rdT (tw ts a b))≠[]
def wp_rt(g1:G.fn "that_read" 2=some (rO K,[]))(gI:G.ini "Torn" 2=some (CT,Ak CT,[])):
  Sat G K (spRt K T CT) qm qf:=by
 rintro vs H b8 b7 ⟨a,l,b9,us,k,L,f,rfl,d,⟨i0,j0,h1,h2,h3⟩,qe⟩;have zl:k.length=f.length:=K83.gF d.tl.pr;unfold qm;change wpB G K _ _ _ [some (.ref a),some (.ref l),none,none,none] H;ext;refine gH ?_;ext;refine⟨l,rfl,⟨k,SqL.of d.tl.hl⟩,?_⟩;refine fN (Ca (xs:=k)) (fun i g E=>aQ H E/\Lo L f i i/\∃u a5 w,g=[some (.ref a),some (.ref l),u,a5,w]) ⟨aQ.refl _,fun _ _ _ _ z=>by lia,_,_,_,rfl⟩ (fun _ _ _ _ ⟨s,_⟩=>SqL.of (s _ _ d.tl.hl)) ?_ ?_
 ·rintro i c0 g H3 H4 D2 hi ⟨s3,lo,u,a5,w,rfl⟩ ⟨p,Q,rfl,hp,B⟩ s4 a6 _;obtain⟨v,b3,y,n,a8⟩:=gX d.tl.pr B;subst n;refine⟨p,_,rfl,SqT.of hp,rfl,_,_,rfl,_,_,rfl,rfl,?_⟩;have a0:=s3.trans s4;refine gH ?_;refine⟨_,rfl,_,rfl,_,rfl,.inl ⟨l,k,rfl,SqL.of (a0 _ _ d.tl.hl),fun Z b2=>.inl ⟨Z,rfl,⟨_,SqL.of au⟩,?_⟩⟩⟩;rw[IS (jA hi)];generalize hX:upd H4 Z _=H5;obtain⟨s5,f5⟩:=cU hX b2;clear hX;have a3:=a0.trans s5;refine fN (dc (xs:=k.drop i)) (fun m g E=>aQ H5 E/\Lo L f i (i+m)/\∃w,g=[some (.ref a),some (.ref l),some (.int i),some (.ref y),w]) ⟨aQ.refl _,fun h j a b c=>lo h j a b (by lia),_,rfl⟩ (fun _ _ _ _ ⟨s,_⟩=>SqL.of (s _ _ f5)) ?_ ?_
  ·rintro m b6 g H6 H7 D3 hm ⟨C,t,w',rfl⟩ r s7 a7 _;have a4:=a3.trans (C.trans s7);have r:k[i+m]? =some b6:=by rw[<-r,gw]
   obtain⟨x,b4,F,q,a9⟩:=gX d.tl.pr r;subst q;have jl:i+m<f.length:=by rw[<-zl];exact(aC.mp r).1
   ext;refine⟨_,_,g1,short (by simp),fun p2 b1=>?_⟩;have D:=aB (o:=.lst [V.ref y,V.ref F]) b1;have U:=d.two (a4.trans D) B r au;generalize upd H7 p2 (.lst [V.ref y,V.ref F])=H8 at D U⊢;refine U.thr fun H9 l9 ws s9 n9 h9 p9=>?_;have P:=K83.gF p9;have M:=a4.trans (D.trans s9);refine .inl ⟨l9,_,rfl,.inl (SqL.of h9),ll.mpr ⟨_,rfl,?_⟩⟩;by_cases c:L.filter (rdT (tw f i (i+m)))=[]
   ·rw[c]at P;rw[P,if_pos (by rfl)];refine⟨CT,_,_,gI,?_⟩;refine⟨_,rfl,y,_,rfl,.inr (SqT.of (M _ _ a8)),fun Q B=>⟨Q,_,rfl,.inl ⟨SqL.of au,fun R X=>?_⟩⟩⟩;have O:=aB (o:=.lst [V.int v.1,V.int v.2]) B;generalize upd H9 Q (.lst [V.int v.1,V.int v.2])=G1 at O X⊢;generalize hX:upd G1 R _=G2;obtain⟨t2,u2⟩:=cU hX X;clear hX;refine⟨_,rfl,F,_,rfl,.inr (SqT.of ((M.trans (O.trans t2)) _ _ a9)),fun x3 b5=>⟨x3,_,rfl,.inl ⟨SqL.of au,fun S Y=>?_⟩⟩⟩;have t3:=aB (o:=.lst [V.int x.1,V.int x.2]) b5;generalize upd G2 x3 (.lst [V.int x.1,V.int x.2])=G3 at t3 Y⊢;generalize hX:upd G3 S _=G4;obtain⟨t4,u4⟩:=cU hX Y;clear hX;refine⟨short (by show 2<=40;decide),fun p hp=>⟨p,_,_,rfl,au,fun A H2 ne W n q e3=>⟨rfl,some A,n,?_⟩⟩⟩;have b0:G4 A=none:=by rw[ba ne]at W;exact W
    have N:aQ G4 (del H2 p):=fun b u I=>by have J:b≠p:=bL I hp;have n2:b≠A:=bL I b0;rw[jF J,e3 b J n2,ba J];exact I
    refine qe _ i (i+m) (.ref R) (.ref S) A (Gr.of (M.trans (O.trans (t2.trans (t3.trans (t4.trans N)))))) ⟨by lia,jl,c,t⟩ ?_ (by rw[jF ne];exact q);have n:f.getD i (0,0)=v:=by rw[aa,b3];rfl
    have q:f.getD (i+m) (0,0)=x:=by rw[aa,b4];rfl
    unfold Tw;rw[n,q];exact⟨⟨R,rfl,(t3.trans (t4.trans N)) _ _ u2⟩,⟨S,rfl,N _ _ u4⟩⟩
   ·rw[if_neg (by rw[P];exact fun z=>c (aY.mp (by have :=of_decide_eq_true z;lia)))];refine a7 _ _ ⟨C.trans (s7.trans (D.trans s9)),fun h j a b z=>?_,_,rfl⟩;by_cases e:h=i/\j=i+m;·rw[e.1,e.2];exact c
    ·exact t h j a b (by lia)
  ·rintro g H6 ⟨C,t,w',rfl⟩;rw[cR]at t;exact a6 _ _ ⟨a3.trans C,fun h j a b c=>t h j a b (by lia),_,_,_,rfl⟩
 ·rintro g H3 ⟨_,lo,_⟩;exact absurd h3 (lo i0 j0 h1 h2 (.inl (by lia)))
def FV(K:ah)(T:Tb)(CT:Addr):Sp:=fun vs H Q E=>∃(a l:Addr)(n:Nat)(us zs:List V)(ns:List (List Int))(ts:List (Nat×Int)),vs=[.ref a,.ref l]/\Nt K H a l n us zs ns ts/\
 (ns.filter (rdT ts)≠[]->∀H' b ws,aQ H H'->H b=none->H' b=some (.lst ws)->Paired (NdV K H') ws (ns.filter (rdT ts))->Q (.ref b) H')/\
 (ns.filter (rdT ts)=[]->Un ns ts/\EKt T CT H ns ts E)
def EKt.gr{a:List (List Int)}{E:XK}(h:EKt T CT H a ts E)(g:Gr T H H'):EKt T CT H' a ts E:=fun _ _ _ _ _ _ b f t e=>h _ _ _ _ _ _ (g.trans b) f t e
def wp_tn1(k:G.fn "that_read" 2=some (rO K,[]))(m:G.fn "refuse_torn" 2=some (spRt K T CT,[])):
  Sat G K (FV K T CT) sF rZ:=by
 rintro v H Q E ⟨a,l,n,r,s,h,j,rfl,d,p,q⟩;unfold sF;change wpB G K _ _ _ [some (.ref a),some (.ref l),none] H;ext;refine⟨_,_,k,d.thr fun t l1 w b o g i=>?_⟩;unfold oM;ext;have f:=K83.gF i;refine .inl ⟨l1,_,rfl,.inl (SqL.of g),ll.mpr ⟨_,rfl,?_⟩⟩;by_cases c:h.filter (rdT j)=[];·rw[c]at f;rw[f,if_pos (by rfl)];obtain⟨u,e⟩:=q c;exact⟨_,_,m,a,l,n,r,s,h,j,rfl,d.same b,u,e.gr (Gr.of b)⟩
 ·rw[if_neg (by rw[f];exact fun z=>c (aY.mp (by have :=of_decide_eq_true z;lia)))];unfold oK;ext;exact p c _ _ _ b o g i
structure Tt(H:Hp)(T:Tb)(t l:Addr)(nf:Nat->Str)(n:Nat)(ys zs:List V)(rows:List (List Int))(ts:List (Nat×Int)):Prop where
 tn:Tn H t nf n ys rows
 ne:ys≠[]
 tb:Tab T H
 tl:Tls H l zs ts
 vt:Vt n ts
theorem Tt.gr{t:Addr}(d:Tt H T t l nf n ys zs rows ts)(g:Gr T H H'):Tt H' T t l nf n ys zs rows ts:=⟨d.tn.gr g d.tb,d.ne,g.tab d.tb,d.tl.gr g d.tb,d.vt⟩
abbrev ndl(rows:List (List Int))(n:Nat):List (List Int):=M8.nW (M8.nds rows n)
def Tt.nt{t:Addr}{us:List V}(d:Tt H T t l nf n ys zs rows ts)(a:SqL K H nl us)(c:Paired (NdV K H) us (ndl rows n)):Nt K H nl l n us zs (ndl rows n) ts:=by have tbl:=d.tn.tbl d.ne;have e:=d.tn.n10;have b:=M9.lT (M8.kq tbl);refine⟨a,c,fun u a=>((M8.fU tbl).mp (b.mem_iff.mp a)).1.1,?_,by lia,d.tl,d.vt.ok,aL d.vt.len (by lia)⟩;have :=M9.vN rows n;show(M8.nW (M8.nds rows n)).length<=61;rw[b.length_eq];lia
def yY(K:ah)(T:Tb)(CT:Addr):Sp:=fun vs H Q E=>∃(t l:Addr)(nf:Nat->Str)(n:Nat)(ys zs:List V)(rows:List (List Int))(ts:List (Nat×Int)),vs=[.ref t,.ref l]/\Tt H T t l nf n ys zs rows ts/\
 (stn rows n ts≠[]->∀H' f ws,Gr T H H'->H f=none->H' f=some (.lst ws)->Paired (NdV K H') ws (stn rows n ts)->Q (.ref f) H')/\(stn rows n ts=[]->EKt T CT H (ndl rows n) ts E)
def wp_st1(k:G.fn "need_tellings" 2=some (Kd K,[]))(m:G.fn "tree" 1=some (K83.mT T,[]))(o:G.fn "told_nodes" 2=some (FV K T CT,[])):
  Sat G K (yY K T CT) DE CK:=by
 rintro L H Q E ⟨t,l,s,n,F,h,B,g,rfl,d,z,A⟩;unfold DE;change wpB G K _ _ _ [some (.ref t),some (.ref l)] H;ext;refine⟨_,_,k,t,l,s,n,F,h,B,g,rfl,d.tn,d.ne,d.tl,d.vt,fun I f=>?_⟩;have a:=d.gr (Gr.of f);unfold xX;ext;refine⟨_,_,o,_,_,m,K64.Ad (K:=K) a.tn d.ne a.tb fun i p u bl w J gr hp r x _ _=>?_⟩;have c:=a.gr gr;have b:Gr T H i:=(Gr.of f).trans gr;refine .inr (.inl ⟨p,_,0,_,rfl,rfl,hp,rfl,u,l,n,w,h,_,g,rfl,c.nt r x,fun ne j l1 D C v q y=>z ne j l1 D (b.trans (Gr.of C)) ?_ q y,fun e=>⟨eS (d.tn.tbl d.ne) d.vt e,(A e).gr b⟩⟩);exact K32.GN b c.tb v
def spBr(K:ah):Sp:=fun vs H Q _=>∃(b l:Addr)(n:Nat)(zs:List V)(v:List Int)(ts:List (Nat×Int)),vs=[.ref b,.ref l]/\SqT K H b (v.map V.int)/\v.length=n/\Tls H l zs ts/\(∀q∈ts,q.1<n/\(q.2=0\/q.2=1))/\ts.length<=60/\∀H',aQ H H'->Q (.bl (rdT ts v)) H'
def wp_br:Sat G K (spBr K) u5 uN:=by
 rintro vs H Q E ⟨b,l,n,j,v,f,rfl,L,T,d,ok,Z,q⟩;have U:j.length=f.length:=K83.gF d.pr;unfold u5;change wpB G K _ _ _ [some (.ref b),some (.ref l)] H;ext;refine cN (cn rfl (SqL.of d.hl) (sE (ds:=f) U dc (dA (by lia)) (fun V R=>SqL.of (R _ _ d.hl)) (fun q=> !decide (v.getD q.1 0=q.2)) (fun x _=>x) (fun I=>∃u,I=[u,some (.ref b)]) ⟨none,rfl⟩ ?_ ?_))
 ·rintro i x k I y X W N z ⟨u,rfl⟩ g P kf;obtain⟨Y,A,a,rfl,m⟩:=gX d.pr N;rw[z]at A;cases A;have O:=(ok k (aG z)).1;have m:=g _ _ m;ext;refine .inr (.inl ⟨a,_,0,_,rfl,rfl,SqT.of m,rfl,.inr (.inl ⟨b,_,_,_,rfl,rfl,g.tup L,cf (K62.getD_at (by rw[T];exact O)),.inr (.inl ⟨a,_,1,_,rfl,rfl,SqT.of m,rfl,CH.mpr ⟨_,rfl,?_⟩⟩)⟩)⟩);cases c:decide (v.getD k.1 0=k.2)with
  |true=>rw[if_neg (by decide)];exact kf _ _ ⟨_,rfl⟩ (aQ.refl _) (by rw[c];rfl)
  |false=>rw[if_pos (by decide)];exact P _ _ ⟨_,rfl⟩ (aQ.refl _) (by rw[c];rfl)
 ·intro w l2 S M;refine⟨aV _,fun B t=>?_⟩;have g:=aB (o:=.lst (((j.zip f).filter fun p=> !decide (v.getD p.2.1 0=p.2.2)).map fun p=>p.1)) M;have s:upd w l2 (.lst (((j.zip f).filter fun p=> !decide (v.getD p.2.1 0=p.2.2)).map fun p=>p.1)) l2=some (.lst (((j.zip f).filter fun p=> !decide (v.getD p.2.1 0=p.2.2)).map fun p=>p.1)):=au;have C:=vA (fun q:Nat×Int=> !decide (v.getD q.1 0=q.2)) d.pr;generalize((j.zip f).filter fun p=> !decide (v.getD p.2.1 0=p.2.2)).map (fun p=>p.1)=fs at g s C t⊢;generalize upd w l2 (.lst fs)=y at g s t⊢;generalize hX:upd y B _=H4;obtain⟨F,J⟩:=cU hX t;clear hX;have D:=S.trans (g.trans F);have r:=Az (K:=K) (H:=H4) (Paired.mZ C fun _ _ ⟨a,e,h⟩=>⟨a,e,D _ _ h⟩);refine⟨.lst _,.lst [],⟨l2,fs,rfl,SqL.of (F _ _ s),r⟩,⟨B,[],rfl,SqL.of J,rfl⟩,aL (yP (A9 _)) (by decide),?_⟩;rw[GZ];have e:decide (f.filter (fun q=> !decide (v.getD q.1 0=q.2))=[])=rdT f v:=by rw[cw,decide_eq_true_eq,gy];unfold rdT;rw[bg];refine forall_congr' fun q=>forall_congr' fun _=>?_;cases decide (v.getD q.1 0=q.2)<;>simp
  rw[e];exact q _ D
def wp_ls(B:G.fn "_law_bears" 2=some (spBr K,[])):Sat G K (rO K) sN r8:=by
 rintro Y H Q E ⟨a,l,n,z,N,t,f,rfl,j,g,D,W,X,d,v,L,q⟩;have M:z.length=t.length:=K83.gF g;unfold sN;change wpB G K _ _ _ [some (.ref a),some (.ref l)] H;ext;refine cN (cn rfl j (sE M dc (dA (by lia)) (fun O J=>J.seq j) (rdT f) (fun x _=>x) (fun A=>∃u,A=[u,some (.ref l)]) ⟨none,rfl⟩ ?_ ?_))
 ·rintro i x k A R U T F m ⟨u,rfl⟩ e I kf;obtain⟨V,r,b,rfl,C⟩:=gX g F;rw[m]at r;cases r;ext;refine⟨_,_,B,b,l,n,N,k,f,rfl,e.tup C,D k (aG m),d.same e,v,L,fun S y=>⟨_,rfl,?_⟩⟩;cases c:rdT f k with
  |true=>rw[if_pos rfl];exact I _ _ ⟨_,rfl⟩ y c
  |false=>rw[if_neg (by decide)];exact kf _ _ ⟨_,rfl⟩ y c
 ·intro P l2 w s;have e:=w.trans (aB (o:=.lst (((z.zip t).filter fun p=>rdT f p.2).map fun p=>p.1)) s);exact q _ l2 _ e (w.free s) au (vA (rdT f) (Paired.mZ g fun _ _ h=>h.same e))
def lkO{x:V}:(fl2 x y).lookup (bu "other")=some y:=by unfold fl2;rw[a8,show((bu "other")==(bu "one"))=false by decide+kernel,a8,beq_self_eq_true]
def Tw.same{x:V}(t:Tw H ts i j x y)(s:aQ H H'):Tw H' ts i j x y:=⟨let⟨a,e,h⟩:=t.1;⟨a,e,s _ _ h⟩,let⟨a,e,h⟩:=t.2;⟨a,e,s _ _ h⟩⟩
end
end K61
namespace K65
open PySem R
abbrev EG:List Str:=["_law_table","_law_tellings_here"]
abbrev xj:List Str:=["_law_table","_law_tellings_here","_law_told","e","_law_again"]
abbrev sI:CB:=
  (.cons (.ret (.var 2))
  .nil)
abbrev m8:CB:=
  (.cons (.iff (.cmp .NotEq (.var 4) (.var 2))
  (.cons (.ret (.lst .nil))
  .nil)
  .nil)
  sI)
abbrev sJ:CB:=
  (.cons (.tryc "Torn" 3
  (.cons (.expr (.call "first_read" (.cons (.var 0) (.cons (.var 1) .nil))))
  .nil)
  (.cons (.asg (.name 4) (.lst (.cons (.fld (.var 3) "one") (.cons (.fld (.var 3) "other") .nil))))
  .nil))
  m8)
abbrev sL:CB:=
  (.cons (.asg (.name 4) (.con .none))
  sJ)
abbrev jT:CB:=
  (.cons (.iff (.cmp .Is (.var 2) (.con .none))
  (.cons (.ret (.con .none))
  .nil)
  .nil)
  sL)
abbrev sM:CB:=
  (.cons (.tryc "Torn" 3
  (.cons (.expr (.call "stands" (.cons (.var 0) (.cons (.var 1) .nil))))
  .nil)
  (.cons (.asg (.name 2) (.lst (.cons (.fld (.var 3) "one") (.cons (.fld (.var 3) "other") .nil))))
  .nil))
  jT)
abbrev xY:CB:=
  (.cons (.asg (.name 2) (.con .none))
  sM)
abbrev Cn:List Str:=["_law_table","_law_tellings_here","_law_at","_law_found","_law_new"]
abbrev uK:List Str:=["_law_table","_law_tellings_here","_law_at","_law_found","_law_new","_law_turned","_law_told"]
abbrev qw:CB:=
  (.cons (.ret (.cmp .Eq (.call "_law_stands" (.cons (.idx (.call "tree" (.cons (.var 0) .nil)) (.con (.int 0))) (.cons (.var 6) .nil))) (.lst .nil)))
  .nil)
abbrev qx:CB:=
  (.cons (.iff (.or (.cmp .Is (.var 6) (.con .none)) (.or (.cmp .Eq (.var 6) (.lst .nil)) (.or (.cmp .NotEq (.idx (.var 6) (.con (.int 1))) (.var 5)) (.cmp .NotIn (.idx (.var 6) (.con (.int 0))) (.bin .Add (.var 1) (.lst (.cons (.var 5) .nil)))))))
  (.cons (.ret (.con (.bool false)))
  .nil)
  .nil)
  qw)
abbrev qy:CB:=
  (.cons (.asg (.name 6) (.call "_law_torn" (.cons (.var 0) (.cons (.bin .Add (.var 1) (.lst (.cons (.var 5) .nil))) .nil))))
  qx)
abbrev qz:CB:=
  (.cons (.asg (.name 5) (.tup (.cons (.idx (.var 4) (.con (.int 0))) (.cons (.bin .Sub (.con (.int 1)) (.idx (.var 4) (.con (.int 1)))) .nil))))
  qy)
abbrev uX:CB:=
  (.cons (.iff (.or (.cmp .NotEq (.call "stands" (.cons (.var 0) (.cons (.bin .Add (.var 1) (.lst (.cons (.var 4) .nil))) .nil))) (.var 2)) (.cmp .NotEq (.call "first_read" (.cons (.var 0) (.cons (.bin .Add (.var 1) (.lst (.cons (.var 4) .nil))) .nil))) (.var 3)))
  (.cons (.ret (.con (.bool false)))
  .nil)
  .nil)
  qz)
abbrev yD:List Str:=["_law_table","_law_tellings_here","_law_at","_law_found","_law_new"]
abbrev qh:List Str:=["_law_table","_law_tellings_here","_law_at","_law_found","_law_new","_law_told","_law_some","_law_more"]
abbrev nH:CB:=
  (.cons (.ret (.cmp .Eq (.comp ["_law_k"] [3,7] (.name 0) (.range1 (.bfn .len (.cons (.var 3) .nil))) (.yes (.and (.cmp .IsNot (.idx (.var 1) (.var 0)) (.con .none)) (.cmp .NotEq (.idx (.var 2) (.var 0)) (.idx (.var 1) (.var 0))))) (.var 0)) (.lst .nil)))
  .nil)
abbrev nI:CB:=
  (.cons (.asg (.name 7) (.call "first_read" (.cons (.var 0) (.cons (.bin .Add (.var 1) (.lst (.cons (.var 4) .nil))) .nil))))
  nH)
abbrev nJ:CB:=
  (.cons (.iff (.cmp .NotEq (.comp ["_law_node"] [2] (.name 0) (.seq (.var 6)) (.yes (.cmp .NotIn (.var 0) (.var 1))) (.var 0)) (.lst .nil))
  (.cons (.ret (.con (.bool false)))
  .nil)
  .nil)
  nI)
abbrev nK:CB:=
  (.cons (.asg (.name 6) (.call "stands" (.cons (.var 0) (.cons (.bin .Add (.var 1) (.lst (.cons (.var 4) .nil))) .nil))))
  nJ)
abbrev jH:CB:=
  (.cons (.iff (.cmp .IsNot (.var 5) (.con .none))
  (.cons (.ret (.and (.cmp .NotEq (.var 5) (.lst .nil)) (.and (.cmp .Eq (.idx (.var 5) (.con (.int 1))) (.var 4)) (.cmp .Eq (.call "_law_stands" (.cons (.var 2) (.cons (.lst (.cons (.var 4) .nil)) .nil))) (.lst .nil)))))
  .nil)
  .nil)
  nK)
abbrev qp:CB:=
  (.cons (.asg (.name 5) (.call "_law_torn" (.cons (.var 0) (.cons (.bin .Add (.var 1) (.lst (.cons (.var 4) .nil))) .nil))))
  jH)
end K65
namespace K65
open PySem PySem.Spec PyProof.Rows L2 R Cp Lt Kc K21 K22 Lm M5 K32 K34 K75 K62 K61
section
variable {G:Gam}{CT:Addr}{T:Tb}
def za(K:ah)(T:Tb)(CT:Addr):Sp:=fun vs H Q E=>∃(t l:Addr)(nf:Nat->Str)(n:Nat)(ys zs:List V)(rows:List (List Int))(ts:List (Nat×Int)),vs=[.ref t,.ref l]/\Tt H T t l nf n ys zs rows ts/\
 (stn rows n ts≠[]->∀H' p,Gr T H H'->H' p=some (.tup (knw rows n ts))->Q (.ref p) H')/\(stn rows n ts=[]->EKt T CT H (ndl rows n) ts E)
def wp_fr2(j:G.fn "need_tellings" 2=some (Kd K,[]))(k:G.fn "tree" 1=some (K83.mT T,[]))(m:G.fn "told_nodes" 2=some (FV K T CT,[]))(A:G.fn "unknown_places" 3=some (Ka K,[])):
  Sat G K (za K T CT) K75.iX K75.jP:=by
 rintro P H Q E ⟨t,l,r,n,u,c,i,b,rfl,d,M,N⟩;by_cases e:stn i n b=[];·unfold K75.iX;change wpB G K _ _ _ [some (.ref t),some (.ref l),none,none,none] H;ext;refine⟨_,_,j,t,l,r,n,u,c,i,b,rfl,d.tn,d.ne,d.tl,d.vt,fun R s=>?_⟩;have f:=d.gr (Gr.of s);unfold K75.kK;ext;refine⟨_,_,k,K64.Ad (K:=K) f.tn d.ne f.tb fun w p I bl L S gr hp C g _ _=>?_⟩;have x:=f.gr gr;have y:Gr T H w:=(Gr.of s).trans gr;unfold K75.kJ;ext;exact⟨_,_,m,.inr (.inl ⟨p,_,0,_,rfl,rfl,hp,rfl,I,l,n,L,c,_,b,rfl,x.nt C g,fun ne=>absurd e ne,fun _=>⟨eS (d.tn.tbl d.ne) d.vt e,(N e).gr y⟩⟩)⟩
 ·refine K75.wp_fr (T:=T) j k m (fun P H Q E h=>?_) A _ _ _ _ ⟨t,l,r,n,u,c,i,b,rfl,d.tn,d.ne,d.tb,d.tl,d.vt,e,M e⟩;obtain⟨a,l,n,O,c,J,b,rfl,B,g,D,F,o,d,v,ne,q⟩:=h;exact⟨a,l,n,O,c,J,b,rfl,⟨B,g,D,F,o,d,v.ok,aL v.len o⟩,fun _=>q,fun z=>absurd z ne⟩
structure Xm(G:Gam)(K:ah)(CT:Addr):Prop where
 v1:G.val "Torn"=some (.ref CT)
 ex:PySem.W.exmOne K (.ref CT) (.ref CT)=some true
 f1:qj K CT "one"=true
 f2:qj K CT "other"=true
def FU(T:Tb):Sp:=fun vs H Q _=>∃(t l:Addr)(nf:Nat->Str)(n:Nat)(ys zs:List V)(rows:List (List Int))(ts:List (Nat×Int)),vs=[.ref t,.ref l]/\Tt H T t l nf n ys zs rows ts/\
 (stn rows n ts≠[]->∀H',Gr T H H'->Q .non H')/\(stn rows n ts=[]->∀H' p i j x y,Gr T H H'->H' p=some (.lst [x,y])->Fp (ndl rows n) ts i j->Tw H' ts i j x y->Q (.ref p) H')
abbrev twL(ts:List (Nat×Int))(i j:Nat):L2.D:=.lst [.tup [.int (ts.getD i (0,0)).1,.int (ts.getD i (0,0)).2],.tup [.int (ts.getD j (0,0)).1,.int (ts.getD j (0,0)).2]]
def vB{p:Addr}{x:V}(h:H p=some (.lst [x,y]))(t:Tw H ts i j x y):Rep K H (twL ts i j) (.ref p):=by obtain⟨⟨a,rfl,c⟩,b,rfl,d⟩:=t;exact⟨p,_,rfl,SqL.of h,_,_,rfl,⟨a,_,rfl,SqT.of c,_,_,rfl,rfl,_,_,rfl,rfl,rfl⟩,_,_,rfl,⟨b,_,rfl,SqT.of d,_,_,rfl,rfl,_,_,rfl,rfl,rfl⟩,rfl⟩
def Tw.gr{x:V}(t:Tw H ts i j x y)(g:Gr T H H')(tb:Tab T H):Tw H' ts i j x y:=⟨let⟨a,e,h⟩:=t.1;⟨a,e,g.mR tb h⟩,let⟨a,e,h⟩:=t.2;⟨a,e,g.mR tb h⟩⟩
def wp_tr5(X:Xm G K CT)(S:G.fn "stands" 2=some (yY K T CT,[]))(U:G.fn "first_read" 2=some (za K T CT,[])):
  Sat G K (FU T) xY xj:=by
 rintro vs H a4 E ⟨t,l,B,n,L,M,D,f,rfl,d,q1,q2⟩;unfold xY sM;change wpB G K _ _ _ [some (.ref t),some (.ref l),none,none,none] H;ext;refine⟨CT,X.v1,?_⟩;refine⟨_,_,S,t,l,B,n,L,M,D,f,rfl,d,fun ne o a5 ws R _ _ _=>?_,fun e o i j x y q gr w tw a=>?_⟩;·unfold jT;ext;rw[if_pos (by simp)];exact q1 ne _ R
 ·refine⟨rfl,X.ex,fun g W=>?_⟩;generalize hX:upd o g _=H2;obtain⟨F,s⟩:=cU hX W;clear hX;have a:=F _ _ a;ext;refine⟨g,CT,q,_,x,rfl,s,a,X.f1,rfl,?_⟩;refine⟨g,CT,q,_,y,rfl,s,a,X.f2,lkO,⟨short (by simp),fun p hp=>?_⟩⟩;generalize hX:upd H2 p _=H3;obtain⟨b,O⟩:=cU hX hp;clear hX
  replace b:=F.trans (b)
  have z:Gr T H H3:=gr.trans (Gr.of b);have a1:=tw.same b;have k:=d.gr z;change wpB G K (fun _=>E) jT _ [some (.ref t),some (.ref l),some (.ref p),none,none] H3;unfold jT;ext;rw[if_neg (by simp)];unfold sL sJ;ext;refine⟨CT,X.v1,?_⟩;refine⟨_,_,U,t,l,B,n,L,M,D,f,rfl,k,fun ne=>absurd e ne,fun _ N i4 j4 x4 y4 r V Q a2 Z=>?_⟩;obtain⟨rfl,rfl⟩:=w.one Q;refine⟨rfl,X.ex,fun h Y=>?_⟩;generalize hX:upd N h _=H5;obtain⟨I,u⟩:=cU hX Y;clear hX;have A:=I _ _ Z;ext;refine⟨h,CT,r,_,x4,rfl,u,A,X.f1,rfl,?_⟩;refine⟨h,CT,r,_,y4,rfl,u,A,X.f2,lkO,⟨short (by simp),fun C a0=>?_⟩⟩;generalize hX:upd H5 C _=H6;obtain⟨c,P⟩:=cU hX a0;clear hX
  replace c:=I.trans (c)
  have m:Gr T H3 H6:=V.trans (Gr.of c);have a3:=a2.same c;have v:=m.lst k.tb O;have J:=Tw.gr a1 m k.tb;change wpB G K (fun _=>E) m8 _ [some (.ref t),some (.ref l),some (.ref p),none,some (.ref C)] H6;unfold m8;ext;refine⟨twL f i j,twL f i j,vB P a3,vB v J,by simp[twL,hgt,fw],_,rfl,?_⟩;rw[iU,if_neg (by decide)];unfold sI;ext;exact q2 e _ p i j x y (z.trans m) v w J
structure Ky(K:ah)(H:Hp)(T:Tb)(t l at_ fo:Addr)(nf:Nat->Str)(n:Nat)(cs zs ws:List V)(rows:List (List Int))(ts:List (Nat×Int)):Prop where
 d:Tt H T t l nf n cs zs rows ts
 ha:H at_=some (.lst ws)
 pw:Paired (NdV K H) ws (stn rows n ts)
 hf:H fo=some (.tup (knw rows n ts))
 ne:stn rows n ts≠[]
theorem Ky.gr{t at_:Addr}(y:Ky K H T t l at_ fo nf n cs zs ws rows ts)(g:Gr T H H'):Ky K H' T t l at_ fo nf n cs zs ws rows ts:=
 ⟨y.d.gr g,g.lst y.d.tb y.ha,Paired.mZ y.pw fun _ _ ⟨b,e,h⟩=>⟨b,e,g.tup y.d.tb h⟩,g.mR y.d.tb y.hf,y.ne⟩
def Tt.more{t b:Addr}{e:Int}(d:Tt H T t l nf n cs zs rows ts)(g:Gr T H H')(j:H' nw=some (.tup [.int k,.int e]))(f:k<n)(h:e=0\/e=1)(i:k∉ts.map (·.1))(c:H' b=some (.lst (zs++[.ref nw]))):Tt H' T t b nf n cs (zs++[.ref nw]) rows (ts++[(k,e)]):=by have a:=d.gr g;exact⟨a.tn,d.ne,a.tb,⟨c,K32.Paired.snoc ⟨nw,rfl,j⟩ a.tl.pr⟩,K76.Vt.snoc d.vt f h i⟩
def ng{t at_:Addr}{e:Int}{Q:VK}(y:Ky K H T t l at_ fo nf n cs zs ws rows ts)(i:H nw=some (.tup [.int k,.int e]))(f:k<n)(g:e=0\/e=1)(h:k∉ts.map (·.1))
  (q:∀H' b,aQ H H'->Tt H' T t b nf n cs (zs++[.ref nw]) rows (ts++[(k,e)])->Q (.ref b) H'):[V.ref nw].length<=sizeLine/\∀p,H p=none->rS K .Add (.ref l) (.ref p) (upd H p (.lst [.ref nw])) Q:=by
 refine⟨short (by simp),fun p hp=>?_⟩;generalize hX:upd H p _=H1;obtain⟨c,d⟩:=cU hX hp;clear hX;have r:zs.length=ts.length:=K83.gF y.d.tl.pr;have :=y.d.vt.len;have :=y.d.tn.n10;refine .inr (.inr (.inl ⟨l,p,zs,_,rfl,rfl,c _ _ y.d.tl.hl,d,dA ?_,fun m j=>?_⟩));·show zs.length+1<=63;lia
 ·have a:=c.trans (aB (o:=.lst (zs++[V.ref nw])) j);exact q _ m a (Tt.more y.d (Gr.of a) (a _ _ i) f g h au)
def wk{x:V}{q:Nat×Int}(h:TgV H x q):Rep K H (.tup [.int q.1,.int q.2]) x:=by obtain⟨a,rfl,b⟩:=h;exact⟨a,_,rfl,SqT.of b,_,_,rfl,rfl,_,_,rfl,rfl,rfl⟩
def getD_mem(h:i<ts.length):ts.getD i (0,0)∈ts:=by rw[aa,ae h];exact a9 h
def nin_tg{x:V}{q:Nat×Int}{Q:VK}(d:Tls H l zs ts)(h:TgV H x q)(m:q∈ts)(k:Q (.bl false) H):fM K .NotIn x (.ref l) H Q:=by refine .inl (.inr ⟨l,zs,_,_,rfl,SqL.of d.hl,wk h,Az d.pr,aL (A9 ts) (by decide),?_⟩);rw[if_pos rfl];have e:∀{f:L2.D->Bool},f (.tup [.int q.1,.int q.2])=true->((ts.map fun q=>L2.D.tup [.int q.1,.int q.2]).any f)=true:=fun h=>b8.mpr ⟨_,az.mpr ⟨q,m,rfl⟩,h⟩;rw[e (f:=fun d=>eqD d (.tup [.int q.1,.int q.2])) (iU _)];exact k
def vM{op:PySem.CmpOp}{Q:VK}(h:H l=some (.lst []))(a:op=.Eq\/op=.NotEq)(q:∀H',aQ H H'->Q (.bl (op== .Eq)) H'):([]:List V).length<=sizeLine/\∀p,H p=none->fM K op (.ref l) (.ref p) (upd H p (.lst [])) Q:=by refine⟨aV _,fun p hp=>?_⟩;rcases a with rfl|rfl<;>refine⟨.lst [],.lst [],⟨l,[],rfl,SqL.of (aB hp _ _ h),rfl⟩,⟨p,[],rfl,SqL.of au,rfl⟩,by decide,?_⟩<;>rw[iU]<;>exact q _ (aB hp)
def spKn(K:ah)(T:Tb):Sp:=fun vs H Q _=>∃(t l at_ fo nw:Addr)(nf:Nat->Str)(n k:Nat)(cs zs ws:List V)(rows:List (List Int))(ts:List (Nat×Int))(e:Int),vs=[.ref t,.ref l,.ref at_,.ref fo,.ref nw]/\Ky K H T t l at_ fo nf n cs zs ws rows ts/\H nw=some (.tup [.int k,.int e])/\k<n/\(e=0\/e=1)/\k∉ts.map (·.1)/\(k:Int)∉unk rows n ts/\(∀v∈stn rows n ts,v.getD k 0=e)/\∀H',Gr T H H'->Q (.bl true) H'
def wp_kn(g1:G.fn "stands" 2=some (yY K T CT,[]))(g2:G.fn "first_read" 2=some (za K T CT,[]))(g3:G.fn "_law_torn" 2=some (FU T,[]))(g4:G.fn "tree" 1=some (K83.mT T,[]))(g5:G.fn "_law_stands" 2=some (rO K,[])):
  Sat G K (spKn K T) uX uK:=by
 rintro vs H c3 c0 ⟨t,b2,at_,fo,A,x,n,k,r,zs,ws,g,c,e,rfl,y,w,l,O,m,h4,v,q⟩;have tbl:=y.d.tn.tbl y.d.ne;have B:=wx v;have kn:=LL tbl h4 v;unfold uX;change wpB G K _ _ _ [some (.ref t),some (.ref b2),some (.ref at_),some (.ref fo),some (.ref A),none,none] H;ext;refine⟨_,_,g1,ng y w l O m fun H1 l1 s1 d1=>?_⟩;refine⟨t,l1,x,n,r,_,g,_,rfl,d1,fun _ H2 f2 b9 a3 _ a6 Z=>?_,fun z=>absurd (B.symm.trans z) y.ne⟩;rw[B]at Z;have s:Gr T H H2:=(Gr.of s1).trans a3;have C:=y.gr s;refine⟨.lst _,.lst _,⟨f2,b9,rfl,SqL.of a6,rY Z⟩,⟨at_,ws,rfl,SqL.of C.ha,rY C.pw⟩,aL (yP (sr _)) (by decide),_,rfl,?_⟩;rw[iU,if_neg (by decide)];refine⟨_,_,g2,ng C (s.mR y.d.tb w) l O m fun H3 l3 s3 d3=>?_⟩;refine⟨t,l3,x,n,r,_,g,_,rfl,d3,fun _ E p4 a4 Q=>?_,fun z=>absurd (B.symm.trans z) y.ne⟩;rw[kn]at Q;have u:Gr T H E:=s.trans ((Gr.of s3).trans a4);have y4:=y.gr u;have R:=u.mR y.d.tb w;refine(cmp_kd K62.LM Q y4.hf).2 ⟨false,rfl,?_⟩;rw[if_neg ak];unfold qz;ext;refine .inr (.inl ⟨A,_,0,_,rfl,rfl,SqT.of R,rfl,.inr (.inl ⟨A,_,1,_,rfl,rfl,SqT.of R,rfl,Eo.mpr ⟨short (by simp),fun X b0=>?_⟩⟩)⟩);generalize hX:upd E X _=H5;obtain⟨s5,F⟩:=cU hX b0;clear hX;have J:=u.trans (Gr.of (T:=T) s5);have y5:=y.gr J;have P:1-e=0\/1-e=1:=by lia
 have tu:=J9 v;unfold qy;ext;refine⟨_,_,g3,ng y5 F l P m fun H6 l6 s6 d6=>?_⟩;refine⟨t,l6,x,n,r,_,g,_,rfl,d6,fun z=>absurd tu z,fun _ H7 o i c5 c8 z N a9 h S=>?_⟩;have jl:=C1 h y.ne;subst jl;have L:=J.trans ((Gr.of (T:=T) s6).trans N);have y7:=y.gr L;have I:=((Gr.of (T:=T) s6).trans N).mR y5.d.tb F;obtain⟨⟨xa,rfl,b1⟩,xb,rfl,U⟩:=id S;rw[Dc]at U;unfold qx;ext;rw[if_neg (by simp)];refine⟨aV _,fun W f=>?_⟩;generalize hX:upd H7 W _=H8;obtain⟨d,f8⟩:=cU hX f;clear hX;have M:=L.trans (Gr.of (T:=T) d);have y8:=y.gr M;have a0:=S.same d;have f:=d _ _ a9;refine⟨twL _ i c.length,.lst [],vB f a0,⟨W,[],rfl,SqL.of f8,rfl⟩,by simp[twL,hgt,fw],false,rfl,?_⟩;rw[if_neg ak];refine .inl ⟨o,_,1,_,rfl,rfl,SqL.of f,rfl,?_⟩;refine⟨_,_,wk ⟨xb,rfl,d _ _ U⟩,wk (q:=(k,1-e)) ⟨X,rfl,d _ _ I⟩,by simp[hgt,fw],_,rfl,?_⟩;rw[iU,if_neg (by decide)];refine .inl ⟨o,_,0,_,rfl,rfl,SqL.of f,rfl,?_⟩;refine ng y8 (d _ _ I) l P m fun H9 l9 p b=>?_;have V:i<(c++[(k,1-e)]).length:=by have :=h.ij;have :=h.jl;lia
 refine nin_tg b.tl ⟨xa,rfl,(d.trans p) _ _ b1⟩ (getD_mem V) ⟨false,rfl,?_⟩;rw[if_neg ak];have a2:=M.trans (Gr.of (T:=T) p);unfold qw;ext;refine⟨_,_,g5,_,_,g4,K64.Ad (K:=K) b.tn b.ne b.tb fun D b5 nl bl b4 c4 j a8 a7 pn _ _=>.inr (.inl ⟨b5,_,0,_,rfl,rfl,a8,rfl,?_⟩)⟩;have a1:=b.gr j;have b8:Tls D o [.ref xa,.ref xb] (tw (c++[(k,1-e)]) i c.length):=by have a:=Tw.gr (a0.same p) j b.tb;exact⟨j.lst b.tb (p _ _ f),.cons a.1 (.cons a.2 .nil)⟩
 have b3:Nt K D nl o n b4 _ (ndl g n) (tw (c++[(k,1-e)]) i c.length):={a1.nt a7 pn with tl:=b8,ok:=fun z hz=>?_,t60:=by show 2<=60;decide};·refine b3.thr fun c1 c6 c7 b6 _ a5 Y=>?_;have no:(ndl g n).filter (rdT (tw (c++[(k,1-e)]) i c.length))=[]:=h.no;rw[no]at Y;cases Y;exact vM a5 (.inl rfl) fun c2 b7=>q _ (a2.trans (j.trans (Gr.of (b6.trans b7))))
 ·unfold tw at hz;rcases aI.mp hz with rfl|hz;·exact b.vt.ok _ (getD_mem V)
  ·rw[aT.mp hz];exact b.vt.ok _ (getD_mem (by simp))
def spUn(K:ah)(T:Tb):Sp:=fun vs H Q _=>∃(t l at_ fo nw:Addr)(nf:Nat->Str)(n k:Nat)(cs zs ws:List V)(rows:List (List Int))(ts:List (Nat×Int))(e:Int),vs=[.ref t,.ref l,.ref at_,.ref fo,.ref nw]/\Ky K H T t l at_ fo nf n cs zs ws rows ts/\H nw=some (.tup [.int k,.int e])/\k<n/\(e=0\/e=1)/\k∉ts.map (·.1)/\∀H',Gr T H H'->Q (.bl true) H'
def wp_un(g1:G.fn "stands" 2=some (yY K T CT,[]))(g2:G.fn "first_read" 2=some (za K T CT,[]))(g3:G.fn "_law_torn" 2=some (FU T,[]))(g5:G.fn "_law_stands" 2=some (rO K,[])):
  Sat G K (spUn K T) qp qh:=by
 rintro vs H d4 c7 ⟨t,b9,at_,h,B,N,n,k,E,zs,ws,a,b,e,rfl,y,x,s,w,M,q⟩;have tbl:=y.d.tn.tbl y.d.ne;have kl:(knw a n b).length=n:=by unfold knw;rw[ai,aR]
 have a0:(ndl a n).length<=61:=by have :=M9.vN a n;have :=y.d.tn.n10;show(M8.nW (M8.nds a n)).length<=61;rw[(M9.lT (M8.kq tbl)).length_eq];lia
 unfold qp;change wpB G K _ _ _ [some (.ref t),some (.ref b9),some (.ref at_),some (.ref h),some (.ref B),none,none,none] H;ext;refine⟨_,_,g3,ng y x s w M fun H1 l1 s1 d1=>?_⟩;refine⟨t,l1,N,n,E,_,a,_,rfl,d1,fun ne m J=>?_,fun F m p2 i d6 c5 z J b6 fp ht=>?_⟩
 ·have d:Gr T H m:=(Gr.of s1).trans J;have O:=y.gr d;have A:=d.mR y.d.tb x;unfold jH;ext;rw[if_neg (by simp)];unfold nK;ext;refine⟨_,_,g1,ng O A s w M fun Q l3 g d3=>?_⟩;refine⟨t,l3,N,n,E,_,a,_,rfl,d3,fun _ H4 f4 c4 a9 _ Y a2=>?_,fun z=>absurd z ne⟩;have I:Gr T H H4:=d.trans ((Gr.of g).trans a9);have D:=y.gr I;have b5:=I.mR y.d.tb x;unfold nJ;ext;have sub:∀v∈stn a n (b++[(k,e)]),v∈stn a n b:=fun v j=>K76.vD (fun q hq=>bZ _ hq) j;refine cN (cn rfl (SqL.of Y) (pJ (xs:=c4) dc (dA ?_) (fun R f=>SqL.of (f _ _ Y)) (fun _=>false) id (fun τ=>∃u,τ=[u,some (.ref at_)]) ⟨none,rfl⟩ ?_ ?_));·rw[K83.gF a2];have :(stn a n (b++[(k,e)])).length<=61:=aL (dZ _ _) a0;lia
  ·rintro c5 τ R Rt Rf hx ⟨u,rfl⟩ f kt kf;obtain⟨i,hi⟩:=bS.mp hx;obtain⟨v,j,nv⟩:=gX a2 hi;ext;refine K64.nin_nds (SqL.of (f _ _ D.ha)) (Paired.mZ D.pw fun _ _ b0=>b0.same f) (nv.same f) ⟨_,rfl,?_⟩;rw[decide_eq_true (sub v (aG j)),if_neg (by decide)];exact kf _ _ ⟨_,rfl⟩ (aQ.refl _) rfl
  ·intro R l8 f b4;rw[gy.mpr (fun _ _ z=>ak z),lz];refine vM au (.inr rfl) fun c8 c1=>⟨_,rfl,?_⟩;rw[if_neg (by decide)];have s9:=aB (o:=.lst []) b4;have L:=Gr.of (T:=T) (f.trans (s9.trans c1));have c6:=D.gr L;unfold nI;ext;refine⟨_,_,g2,ng c6 (L.mR D.d.tb b5) s w M fun c9 c0 c2 a7=>⟨t,c0,N,n,E,_,a,_,rfl,a7,fun _ d0 a1 a8 b1=>?_,fun z=>absurd z ne⟩⟩;have U:=I.trans (L.trans ((Gr.of c2).trans a8));have a5:=y.gr U;have d7:(knw a n (b++[(k,e)])).length=n:=by unfold knw;rw[ai,aR]
   have d9:=y.d.tn.n10;unfold nH;ext;refine cN ?_;ext;refine .inl ⟨h,_,rfl,.inr (SqT.of a5.hf),_,rfl,by lia,by lia,?_⟩;rw[aN,kl];refine oo (P:=fun _=>false) (τs:=[some (.ref h),some (.ref a1)]) (by lia) ?_ ?_
   ·intro p u a6 d5 hp C W;have X:=C _ _ a5.hf;have b2:=C _ _ b1;ext;have r:(knw a n b)[p]? =some ((knw a n b).getD p .non):=by rw[aa,ae (by lia)];rfl
    have S:(knw a n (b++[(k,e)]))[p]? =some ((knw a n (b++[(k,e)])).getD p .non):=by rw[aa,ae (by lia)];rfl
    have st:=K76.LK tbl y.d.vt (ts':=b++[(k,e)]) (fun q hq=>bZ _ hq) ne hp;refine .inr (.inl ⟨h,_,(p:Int),_,rfl,rfl,SqT.of X,cf r,?_⟩);have kd:=K62.LM _ (aG r);rcases kd with z|⟨c,z⟩
    ·rw[z];show if(!decide (V.non=V.non))=true then _ else _
     rw[if_neg (by decide)];exact W
    ·rw[z]at st r⊢;show if(!decide (V.int c=V.non))=true then _ else _
     rw[if_pos (by simp)];rcases st with st|st;·cases st
     ·rw[st]at S;refine .inr (.inl ⟨a1,_,(p:Int),_,rfl,rfl,SqT.of b2,cf S,.inr (.inl ⟨h,_,(p:Int),_,rfl,rfl,SqT.of X,cf r,CH.mpr ⟨_,rfl,?_⟩⟩)⟩);rw[show decide (c=c)=true from decide_eq_true rfl];exact W
   ·intro a6 d8 C b3;have F:(plc n fun _=>false).map V.int=[]:=by unfold plc;simp
    rw[F];exact vM au (.inl rfl) fun d2 c3=>q _ (U.trans (Gr.of (C.trans ((aB b3).trans c3))))
 ·have d:Gr T H m:=(Gr.of s1).trans J;have jl:=C1 fp y.ne;subst jl;have O:=y.gr d;have A:=d.mR y.d.tb x;unfold jH;ext;rw[if_pos (by simp)];refine⟨aV _,fun p3 b7=>?_⟩;generalize hX:upd m p3 _=Q;obtain⟨g,f3⟩:=cU hX b7;clear hX;have t3:=ht.same g;have Z:=g _ _ b6;refine⟨twL _ i b.length,.lst [],vB Z t3,⟨p3,[],rfl,SqL.of f3,rfl⟩,by simp[twL,hgt,fw],?_⟩;refine⟨true,rfl,?_⟩;rw[if_pos rfl];have a4:=t3.2;rw[Dc]at a4;refine .inl ⟨p2,_,1,_,rfl,rfl,SqL.of Z,rfl,?_⟩;refine⟨_,_,wk a4,wk (q:=(k,e)) ⟨B,rfl,g _ _ A⟩,by simp[hgt,fw],?_⟩;rw[iU];refine⟨true,rfl,?_⟩;rw[if_pos rfl];refine⟨_,_,g5,short (by simp),fun p5 b8=>?_⟩;generalize hX:upd Q p5 _=H5;obtain⟨l,f5⟩:=cU hX b8;clear hX
  replace l:=g.trans (l)
  have y5:=O.gr (Gr.of l);refine⟨at_,p5,n,ws,[.ref B],stn a n b,[(k,e)],rfl,SqL.of y5.ha,y5.pw,fun v j=>((mY tbl).mp j).1.1.1,aL (dZ _ _) a0,y.d.tn.n10,⟨f5,.cons ⟨B,rfl,l _ _ A⟩ .nil⟩,fun q hq=>by rw[aT.mp hq];exact⟨s,w⟩,(by show 1<=60;decide),fun H6 l6 e1 s6 _ h6 a3=>?_⟩;rw[<-wy,F]at a3;cases a3;exact vM h6 (.inl rfl) fun H7 s7=>q _ (d.trans (Gr.of (l.trans (s6.trans s7))))
end
end K65
namespace K65
open PySem R
abbrev p_law:List Str:=["_law_script"]
abbrev Lq:List Str:=["_law_script","_law_table","_law_nodes_here","_law_branches","_law_drawn","_law_tellings_here","_law_at","_law_found","_law_had","_law_known_here","_law_place","_law_unknown_here","_law_elder"]
abbrev x5:CB:=
  (.cons (.ret (.con (.bool true)))
  .nil)
abbrev x6:CB:=
  (.cons (.forr (.name 12) (.range1 (.con (.int 2)))
  (.cons (.iff (.not (.call "_law_unknown" (.cons (.var 1) (.cons (.var 5) (.cons (.var 6) (.cons (.var 7) (.cons (.tup (.cons (.var 10) (.cons (.var 12) .nil))) .nil)))))))
  (.cons (.ret (.con (.bool false)))
  .nil)
  .nil)
  .nil))
  .nil)
abbrev DF:CB:=
  (.cons (.iff (.cmp .NotEq (.var 11) (.lst .nil))
  (.cons (.asg (.name 10) (.idx (.var 11) (.bin .Mod (.bin .FloorDiv (.var 4) (.con (.int 11))) (.bfn .len (.cons (.var 11) .nil)))))
  x6)
  .nil)
  x5)
abbrev Bv:CB:=
  (.cons (.asgc 11 (.comp ["_law_k"] [7] (.name 0) (.range1 (.bfn .len (.cons (.var 7) .nil))) (.yes (.cmp .Is (.idx (.var 1) (.var 0)) (.con .none))) (.var 0)))
  DF)
abbrev zI:CB:=
  (.cons (.iff (.not (.call "_law_known" (.cons (.var 1) (.cons (.var 5) (.cons (.var 6) (.cons (.var 7) (.cons (.tup (.cons (.var 10) (.cons (.idx (.var 7) (.var 10)) .nil))) .nil)))))))
  (.cons (.ret (.con (.bool false)))
  .nil)
  .nil)
  .nil)
abbrev G6:CB:=
  (.cons (.iff (.cmp .NotEq (.var 9) (.lst .nil))
  (.cons (.asg (.name 10) (.idx (.var 9) (.bin .Mod (.bin .FloorDiv (.var 4) (.con (.int 7))) (.bfn .len (.cons (.var 9) .nil)))))
  zI)
  .nil)
  Bv)
abbrev G7:CB:=
  (.cons (.asgc 9 (.comp ["_law_k"] [8,7] (.name 0) (.range1 (.bfn .len (.cons (.var 7) .nil))) (.yes (.and (.cmp .IsNot (.idx (.var 2) (.var 0)) (.con .none)) (.cmp .NotIn (.var 0) (.var 1)))) (.var 0)))
  G6)
abbrev G8:CB:=
  (.cons (.asgc 8 (.comp ["_law_one"] [] (.name 0) (.seq (.var 5)) .no (.idx (.var 0) (.con (.int 0)))))
  G7)
abbrev G9:CB:=
  (.cons (.asg (.name 7) (.call "first_read" (.cons (.var 1) (.cons (.var 5) .nil))))
  G8)
abbrev Ha:CB:=
  (.cons (.asg (.name 6) (.call "stands" (.cons (.var 1) (.cons (.var 5) .nil))))
  G9)
abbrev Hb:CB:=
  (.cons (.asg (.name 5) (.call "_law_tellings" (.cons (.var 2) (.cons (.call "_law_cell_at" (.cons (.var 0) (.cons (.con (.int 3)) .nil))) (.cons (.bin .Mod (.call "_law_cell_at" (.cons (.var 0) (.cons (.con (.int 2)) .nil))) (.con (.int 6))) .nil)))))
  Ha)
abbrev Hd:CB:=
  (.cons (.asg (.name 4) (.call "_law_mixed" (.cons (.call "_law_cell_at" (.cons (.var 0) (.cons (.con (.int 3)) .nil))) (.cons (.con (.int 3)) .nil))))
  Hb)
abbrev MO:CB:=
  (.cons (.asg (.tup (.cons (.name 1) (.cons (.name 2) (.cons (.name 3) .nil)))) (.call "_law_built" (.cons (.cut (.var 0) .no (.yes (.con (.int 14)))) (.cons (.con (.int 4)) .nil))))
  Hd)
end K65
namespace K65
open PySem PySem.Spec PyProof.Rows L2 R Cp Lt Kc K21 K22 Lm K32 K34 K75 K62 K61
section
variable {G:Gam}{T:Tb}{CT:Addr}
structure G65(G:Gam)(K:ah)(T:Tb)(CT:Addr):Prop where
 gc:G.fn "_law_cell_at" 2=some (wF K,[])
 gm:G.fn "_law_mixed" 2=some (Bt.yZ,[])
 gb:G.fn "_law_built" 2=some (Bt.Ao K,[])
 gt:G.fn "_law_tellings" 3=some (spTl K,[])
 gs:G.fn "stands" 2=some (yY K T CT,[])
 gf:G.fn "first_read" 2=some (za K T CT,[])
 gk:G.fn "_law_known" 5=some (spKn K T,[])
 gu:G.fn "_law_unknown" 5=some (spUn K T,[])
def plc_at{P:Nat->Bool}(h:j<(M5.plc n P).length):∃p,p<n/\P p=true/\((M5.plc n P).map V.int)[j]? =some (.int (p:Nat)):=by have m:=a9 h;obtain⟨p,hp,e⟩:=az.mp m;obtain⟨a,b⟩:=bw.mp hp;exact⟨p,aW.mp a,b,by rw[av,ae h,<-e];rfl⟩
def some_of{P:Nat->Bool}{p:Addr}{Q:VK}(a:H lk=some (.lst ((M5.plc n P).map V.int)))(b:H p=some (.lst []))(q:Q (.bl (!decide (M5.plc n P=[]))) H):fM K .NotEq (.ref lk) (.ref p) H Q:=by
 refine⟨.lst ((M5.plc n P).map L2.D.int),.lst [],⟨lk,_,rfl,SqL.of a,eX.ints _⟩,⟨p,[],rfl,SqL.of b,rfl⟩,?_,?_⟩;·show fw ((M5.plc n P).map L2.D.int)+1<=30;rw[l7];decide
 ·rw[GZ];exact q
def pick{P:Nat->Bool}{d m:Int}{Q:VK}(a:H lk=some (.lst ((M5.plc n P).map V.int)))(ne:M5.plc n P≠[])(q:∀p:Nat,p<n->P p=true->Q (.int p) H):
  rBf K .len [.ref lk] H fun x H1=>rS K .Mod (.int d) x H1 fun x H1=>rIx K (.ref lk) x H1 Q:=by
 have h:0<(M5.plc n P).length:=fR.mpr ne;refine .inl ⟨lk,_,rfl,.inl (SqL.of a),iC.mpr ⟨by rw[ai];lia,?_⟩⟩;rw[ai];obtain⟨j,f⟩:=bU (cz d (b:=((M5.plc n P).length:Int)) (by lia));have g:=bX d (b:=((M5.plc n P).length:Int)) (by lia);rw[f]at g⊢;obtain⟨p,hp,c,e⟩:=plc_at (n:=n) (P:=P) (j:=j) (by lia);exact .inl ⟨lk,_,j,_,rfl,rfl,SqL.of a,cf e,q p hp c⟩
def xw(h:p<n):(knw rows n ts)[p]? =some ((knw rows n ts).getD p .non):=by rw[aa,ae (by unfold knw;rw[ai,aR];exact h)];rfl
def Ke(K:ah)(T:Tb):Sp:=fun vs H Q _=>∃(a:Addr)(ns:List Int),vs=[.ref a]/\SqL K H a (ns.map V.int)/\ns.length<=63/\Tab T H/\∀H',Q (.bl true) H'
def BY(g:G65 G K T CT){D:Ends}{E:XS}{t at_:Addr}{dr:Int}{s v x A B a0:Option V}(y:Ky K H T t l at_ fo nf n cs zs ws rows ts)(Z:∀H',D.rt (.bl true) H'):
  wpB G K E Bv D [s,some (.ref t),v,x,some (.int dr),some (.ref l),some (.ref at_),some (.ref fo),A,B,a0,none,none] H:=by
 have W:(knw rows n ts).length=n:=by unfold knw;rw[ai,aR]
 have a2:=y.d.tn.n10;have tbl:=y.d.tn.tbl y.d.ne;unfold Bv;ext;refine cN ?_;ext;refine .inl ⟨fo,_,rfl,.inr (SqT.of y.hf),_,rfl,by lia,by lia,?_⟩;rw[aN,W];refine oo (P:=fun p=>decide ((knw rows n ts).getD p .non=.non)) (τs:=[some (.ref fo)]) (by lia) ?_ ?_;·intro p u d a1 hp a N;ext;refine .inr (.inl ⟨fo,_,(p:Int),_,rfl,rfl,SqT.of (a _ _ y.hf),cf (xw hp),?_⟩);exact N
 ·intro d j a O;generalize hX:upd d j _=H2;obtain⟨b,F⟩:=cU hX O;clear hX
  replace b:=a.trans (b)
  unfold DF;ext;refine⟨aV _,fun Y R=>?_⟩;generalize hX:upd H2 Y _=H3;obtain⟨k,I⟩:=cU hX R;clear hX;have e:=k _ _ F;refine some_of e I ⟨_,rfl,?_⟩;have f:∀{σ:L2.St}{H':Hp},wpB G K E x5 D σ H':=fun{σ H'}=>by unfold x5;ext;exact Z _
  by_cases c:M5.plc n (fun p=>decide ((knw rows n ts).getD p .non=.non))=[];·rw[decide_eq_true c,if_neg (by decide)];exact f
  ·rw[decide_eq_false c,if_pos (by decide)];refine⟨⟨by decide,by decide⟩,pick (m:=0) e c fun p hp L=>?_⟩;have U:(p:Int)∈unk rows n ts:=by have z:=of_decide_eq_true L;rw[xx hp]at z;apply aJ;intro w;rw[if_neg w]at z;cases z
   have S:=FJ tbl hp U;have y3:=y.gr (Gr.of (b.trans k));unfold x6;ext;refine gH ?_;ext;refine⟨2,rfl,by decide,by decide,?_⟩;refine fN dD (fun i σ H'=>Gr T H3 H'/\∃u,σ=[s,some (.ref t),v,x,some (.int dr),some (.ref l),some (.ref at_),some (.ref fo),A,B,some (.int p),some (.ref j),u]) ⟨Gr.refl _ _,_,rfl⟩ (fun _ _ _ _ _=>trivial) ?_ ?_
   ·rintro i a3 σ C H5 D2 hi ⟨h,u,rfl⟩ rfl q M _;have y5:=y3.gr (h.trans (Gr.of q));ext;refine⟨_,_,g.gu,short (by simp),fun X Q=>?_⟩;have r:=aB (o:=.tup [V.int (p:Int),V.int (0+(i:Int))]) Q;refine⟨t,l,at_,fo,X,nf,n,p,cs,zs,ws,rows,ts,_,rfl,y5.gr (Gr.of r),au,hp,?_,S,fun H7 J=>⟨_,rfl,?_⟩⟩;·have :i<2:=hi;lia
    ·rw[if_neg (by decide)];exact M _ _ ⟨h.trans ((Gr.of (q.trans r)).trans J),_,rfl⟩
   ·intro σ C _;exact f (σ:=σ)
def wp_law(g:G65 G K T CT):Sat G K (Ke K T) MO Lq:=by
 rintro vs a6 c4 c2 ⟨a,i,rfl,D,c6,tb,qq⟩;obtain⟨Q,a1⟩:=Ds i none (some 14);have ml:Q.length<=63:=by have :=congrArg ke a1;have h2:=uS (i.map V.int) none (some 14);rw[ai]at this h2;lia
 unfold MO;change wpB G K _ _ _ [some (.ref a),none,none,none,none,none,none,none,none,none,none,none,none] a6;ext;refine⟨_,_,g.gb,.inl ⟨a,_,rfl,D,fun a2 b0=>?_⟩⟩;rw[a1];have s0:=aB (o:=.lst (Q.map V.int)) b0;refine⟨a2,Q,4,rfl,SqL.of au,ml,by decide,fun H1 p t nl br j ys bs w vf f x r S ep B n1 c7 b7 ik a0 c5 bx=>?_⟩;have H:=s0.trans S;refine⟨p,_,rfl,SqT.of ep,rfl,_,_,rfl,_,_,rfl,_,_,rfl,rfl,?_⟩;have bk:=B.bk bx;have tn:=B.tn;have ne:=B.ne;have tbl:=bk.tb;have ol:=B.n60;have R:Paired (NdV K H1) (_root_.Q.cB .non (Bt.nds f x r) ys) (ndl (Bt.rws j.length vf f x r) r.length):=by unfold ndl;rw[bk.sorted];exact HH b7 ik
 have fits:=bk.fits (show 0<x.length by lia);generalize Bt.rws j.length vf f x r=rows at fits tn tbl R;generalize _root_.Q.cB .non (Bt.nds f x r) ys=ws at a0 R;generalize r.length=n at *;have mem:=M9.lT (M8.kq tbl);have b8:(ndl rows n).length<=61:=by have :=M9.vN rows n;show(M8.nW (M8.nds rows n)).length<=61;rw[mem.length_eq];lia
 have b9:ndl rows n≠[]:=fun z=>by have h:=mem.mem_iff.mpr ((M8.fU tbl).mpr fits);change _∈ndl rows n at h;rw[z]at h;cases h
 unfold Hd;ext;refine⟨_,_,g.gm,_,_,g.gc,a,i,3,rfl,H.seq D,_,3,rfl,by decide,by decide,?_⟩;generalize Bt.mx (i.getD 3 0) 3=dr;unfold Hb;ext;refine⟨_,_,g.gt,_,_,g.gc,a,i,3,rfl,H.seq D,_,_,g.gc,a,i,2,rfl,H.seq D,iC.mpr ⟨by decide,?_⟩⟩;have i0:0<=i.getD 2 0%6:=cz _ (by decide);have i1:i.getD 2 0%6<6:=bX _ (by decide);obtain⟨m,E⟩:=bU i0;rw[E]at i1⊢;refine⟨nl,_,m,n,ws,_,rfl,SqL.of a0,R,b9,b8,(fun v k=>((M8.fU tbl).mp (mem.mem_iff.mp k)).1),ol,by lia,fun H2 l s e v s2 c8 d2 Z k hr=>?_⟩;have J:stn rows n e≠[]:=fun z=>by have h:v∈stn rows n e:=bw.mpr ⟨k,hr⟩;rw[z]at h;cases h
 have c1:=(Gr.of (T:=T) (H.trans s2)).tab tb;have d:Tt H2 T t l w n j s rows e:=⟨tn.same s2,ne,c1,d2,Z⟩;unfold Ha;ext;refine⟨_,_,g.gs,t,l,w,n,j,s,rows,e,rfl,d,fun _ H3 at_ a5 g3 _ h3 c0=>?_,fun z=>absurd z J⟩;have A:=d.gr g3;unfold G9;ext;refine⟨_,_,g.gf,t,l,w,n,j,s,rows,e,rfl,A,fun _ H4 q N h4=>?_,fun z=>absurd z J⟩;have y:Ky K H4 T t l at_ q w n j s a5 rows e:=⟨A.gr N,N.lst A.tb h3,Paired.mZ c0 fun _ _ ⟨b,a8,h⟩=>⟨b,a8,N.tup A.tb h⟩,h4,J⟩;have zl:s.length=e.length:=K83.gF y.d.tl.pr;have tl:=Z.len;unfold G8;ext;refine cN (cn rfl (SqL.of y.d.tl.hl) (dN dc (dA (by lia)) (fun H1 S=>SqL.of (S _ _ y.d.tl.hl)) (fun a3 v _=>v=.int (((e.map (·.1)).getD a3 0:Nat):Int)) (fun _ _ _ _ _ h=>h) (fun τ=>∃u,τ=[u]) ⟨none,rfl⟩ ?_ ?_));·rintro a3 c9 τ H5 a7 hi ⟨u,rfl⟩ U hx b6;obtain⟨q',hq,b,rfl,hb⟩:=gX y.d.tl.pr hx;ext;refine .inr (.inl ⟨b,_,0,_,rfl,rfl,SqT.of (U _ _ hb),rfl,b6 _ _ _ ⟨_,rfl⟩ (aQ.refl _) ?_⟩);rw[aa,av,hq];rfl
 intro vs H5 F b5 hF U b1;have ev:=FQ b5 zl hF;subst ev;generalize hX:upd H5 F _=H6;obtain⟨W,M⟩:=cU hX b1;clear hX
 replace W:=U.trans (W)
 have y6:=y.gr (Gr.of W);have M:H6 F=some (.lst (Bt.iN (e.map (·.1)))):=by rw[M,bp];unfold Bt.iN;rw[bp];rfl
 have kl:(knw rows n e).length=n:=by unfold knw;rw[ai,aR]
 unfold G7;ext;refine cN ?_;ext;refine .inl ⟨q,_,rfl,.inr (SqT.of y6.hf),_,rfl,by lia,by lia,?_⟩;rw[aN,kl];refine oo (P:=fun p=> !decide ((knw rows n e).getD p .non=.non)&& !decide (p∈e.map (·.1))) (τs:=[some (.ref F),some (.ref q)]) (by lia) ?_ ?_
 ·intro p u H7 a7 hp I C;ext;refine .inr (.inl ⟨q,_,(p:Int),_,rfl,rfl,SqT.of (I _ _ y6.hf),cf (xw hp),?_⟩);show if(!decide ((knw rows n e).getD p .non=.non))=true then _ else _
  by_cases c:(knw rows n e).getD p .non=.non;·rw[decide_eq_true c,if_neg (by decide)];rw[decide_eq_true c]at C;exact C
  ·rw[decide_eq_false c,if_pos (by decide)];rw[decide_eq_false c]at C;refine .inr ⟨F,_,rfl,.inl (SqL.of (I _ _ M)),rfl,GV (e.map (·.1)),_,rfl,?_⟩;rw[if_pos rfl,L7];exact C
 ·intro H7 lk I b2;generalize hX:upd H7 lk _=H8;obtain⟨X,f8⟩:=cU hX b2;clear hX
  replace X:=I.trans (X)
  have y8:=y6.gr (Gr.of X);unfold G6;ext;refine⟨aV _,fun p9 b4=>?_⟩;generalize hX:upd H8 p9 _=H9;obtain⟨Y,f9⟩:=cU hX b4;clear hX;have L:=y8.gr (Gr.of Y);refine some_of (Y _ _ f8) f9 ⟨_,rfl,?_⟩;by_cases c:M5.plc n (fun p=> !decide ((knw rows n e).getD p .non=.non)&& !decide (p∈e.map (·.1)))=[];·rw[decide_eq_true c,if_neg (by decide)];exact BY g L qq
  ·rw[decide_eq_false c,if_pos (by decide)];refine⟨⟨by decide,by decide⟩,pick (m:=0) (Y _ _ f8) c fun p hp h1=>?_⟩;rw[aF,Bool.not_eq_true',Bool.not_eq_true',decide_eq_false_iff_not,decide_eq_false_iff_not]at h1;obtain⟨hk,ht⟩:=h1;have O:(p:Int)∉unk rows n e:=fun z=>hk (by rw[xx hp,if_pos z]);have k:(knw rows n e).getD p .non=.int (((stn rows n e).headD []).getD p 0):=by rw[xx hp,if_neg O]
   have E:=K76.head_mem (d:=[]) J;unfold zI;ext;refine⟨_,_,g.gk,.inr (.inl ⟨q,_,(p:Int),_,rfl,rfl,SqT.of L.hf,cf (xw hp),short (by simp),fun nw b3=>?_⟩)⟩;rw[k]at *;have a4:=aB (o:=.tup [V.int (p:Int),V.int (((stn rows n e).headD []).getD p 0)]) b3;refine⟨t,l,at_,q,nw,w,n,p,j,s,a5,rows,e,_,rfl,L.gr (Gr.of a4),au,hp,((mY tbl).mp E).1.1.at p,ht,O,fun v k=>K76.agree tbl Z hp k E O,fun c3 a9=>⟨_,rfl,?_⟩⟩;rw[if_neg (by decide)];exact BY g (L.gr ((Gr.of a4).trans a9)) qq
end
end K65
set_option maxHeartbeats 0
namespace K65
open PySem PySem.Spec PySem.Calls PyProof.Rows L2 R Cp Lt Lm
def GP(h:us.length=4):∃a b c d,us=[a,b,c,d]:=by
 cases us with
 |nil=>exact nomatch h
 |cons a r=>obtain⟨b,c,d,e⟩:=Kc.oa (i7 h);exact⟨a,b,c,d,by rw[e]⟩
def eJ{f g i j:Type}{P:f->g->i->j->Prop}{q:Prop}(h:∃a b c d,P a b c d)(k:∀a b c d,P a b c d->q):q:=let⟨a,b,c,d,e⟩:=h;k a b c d e
def vS(h:us.length=5):∃a b c d e,us=[a,b,c,d,e]:=by
 cases us with
 |nil=>exact nomatch h
 |cons a r=>obtain⟨b,c,d,e,f⟩:=GP (i7 h);exact⟨a,b,c,d,e,by rw[f]⟩
abbrev LJ(st:Stmt):Pos:=match aX st with
 |_::.Assign _ (.Call _ _ [⟨_,.Lambda _ _ _ p,_⟩] _) _::_=>p
 |_=>⟨0,0,0,0⟩
abbrev tb(p:Addr):Tb:=⟨p,LJ (top 18),"table_list.<locals>.<lambda>"⟩
def tl_ok:(qd jO rU (aO (top 18))&&chkK (aO (top 18)) jO lJ 1 (.var 0) "copy" (LJ (top 18)) lH (aX (top 18)))=true:=by decide+kernel
def tl_q:("table_list":Str)++".<locals>."++"<lambda>"="table_list.<locals>.<lambda>":=by decide+kernel
abbrev vals(C CE CT kd:Addr):List (Str×V):=[("LETTERS",.str LETTERS),("LONGEST_NAME",.int 8),("MOST_PLACES",.int 60),("MOST_COPIES",.int 40),("NoTable",.ref C),("KinError",.ref CE),("Torn",.ref CT),("KINDS",.ref kd)]
def vJ{i j:Int}{t u:Tok}(l:K.lookup a=some ⟨.type "tuple",od,.seq #[.int i t,.int j u] n,sl⟩)(H:Hp):SqT K H a [.int i,.int j]:=
 .inr ⟨_,_,_,l,rfl,rfl,by show 2<=sizeLine;decide,.cons ⟨t,rfl⟩ (.cons ⟨u,rfl⟩ .nil)⟩
def LQ{a b c d:Addr}{g h i j:Nat}{k:Array (Option Value)}{m o p t3 q u1 r s:Tok}(l:K.lookup kd=some ⟨.type "tuple",od,.seq #[.ref a,.ref b,.ref c,.ref d] n,sl⟩)
  (e:K.lookup a=some ⟨.type "tuple",o0,.seq #[.int 0 m,.int 0 q] g,s0⟩)(l1:K.lookup b=some ⟨.type "tuple",o1,.seq #[.int 0 o,.int 1 u1] h,k⟩)(l2:K.lookup c=some ⟨.type "tuple",o2,.seq #[.int 1 p,.int 0 r] i,s2⟩)(f:K.lookup d=some ⟨.type "tuple",o3,.seq #[.int 1 t3,.int 1 s] j,s3⟩):Kc.Kinds K kd:=
 ⟨a,b,c,d,fun H=>⟨.inr ⟨_,_,_,l,rfl,rfl,by show 4<=sizeLine;decide,.cons rfl (.cons rfl (.cons rfl (.cons rfl .nil)))⟩,vJ e H,vJ l1 H,vJ l2 H,vJ f H⟩⟩
def Dm{cd:ClassData}(a:fF K (.ref C) "__getattribute__"=some (some (.builtin "BaseException.__getattribute__")))(b:fF K (.ref C) "__getattr__"=some none)(c:fF K (.ref C) "__class__"=some (some (.builtin "object.__class__")))
  (d:uw K (.builtin "object.__class__") "__get__"=some (some (.builtin "getset_descriptor.__get__")))(e:PySem.W.takesIn K (.builtin "object.__class__")=some true)(f:BL K C (.type "object")=some true)(g:BL K C (.type "BaseException")=some true)(h:PySem.W.clsIn K C=some cd):sy K C=true:=by
 unfold sy;rw[a,b,c,d,e,f,g,h];simp only[beq_self_eq_true,Bool.and_self,gd]
def Di{f:Str}{cd:ClassData}(a:sy K C=true)(b:fF K (.ref C) f=some none)(c:PySem.W.clsIn K C=some cd)(d:cd.hasDict=true):qj K C f=true:=by unfold qj;rw[a,b,c];simp only[beq_self_eq_true,Bool.and_self,d]
def BD(K:ah)(x:Str)(st:Stmt)(c p:Addr):Prop:=∃(f:Addr)(oc:Value)(od an:Option Addr)(ax:Array (Option Value))(kV ap pm ct:Value),dG K bH x=some (some (.ref f))/\
 K.lookup f=some ⟨oc,od,.func (aE x x (bh st) (aX st) (aO st) .none kV ap pm an (.ref c) ct),ax⟩/\eM K (.ref c) x=true/\cP K (.ref f)=true/\Ng K c p=true
def zC{st:Stmt}{p:Addr}{an:Option Addr}{kV:Value}(a:dG K bH x=some (some (.ref f)))
  (l:K.lookup f=some ⟨oc,od,.func (aE x x (bh st) (aX st) (aO st) .none kV ap pm an (.ref c) ct),ax⟩)(k:eM K (.ref c) x=true)(q:cP K (.ref f)=true)(h:Ng K c p=true):∃c,BD K x st c p:=
 ⟨c,f,oc,od,an,ax,kV,ap,pm,ct,a,l,k,q,h⟩
def add_fnK{vals:List (Str×V)}{e:List ((Str×Nat)×(Sp×List V))}{st:Stmt}{sp:Sp}{o:CS}{r:R.CE}{q:CB}{T:Tb}{j:List ((Str×Nat)×(Addr×Sp×List V))}{b:List (Addr×List (Key×V))}
  (g:GOk P w K mg base (CXx P w) k (gam vals e j b))(X:K.In h)(u:K.In base)(t:h.Ns bH mg)(d:BD K x st c T.P)(m:(qd N ps (aO st)&&chkK (aO st) N o i r lx T.pos q (aX st))=true)(hq:x++".<locals>."++"<lambda>"=T.q)(z:BM mg base)
  (B:∀(p:Pos)(y:Expr)(scope:Scope)(qual:Str)(pm bc v:Value)(c':Addr),rD (PySem.W.kla_fn "<lambda>" qual (sj lx p) y scope [] pm (.ref c') bc) ⟨[v],[]⟩=pure [(lx,v)])
  (A:∀(kV ap pm:Value)(an:Option Addr)(am ct:Value)(us:List Value),us.length=ps.length->rD (aE x x (bh st) (aX st) (aO st) .none kV ap pm an am ct) ⟨us,[]⟩=pure (ps.zip us))(len:∀vs H Q E,sp vs H Q E->vs.length=ps.length)
  (C:∀vs H Q E,sp vs H Q E->yx (R.wpS (gam vals e j b) K (fun _=>E) o) (yx (Af (wm K T (wpE (gam vals e j b) K (fun _=>E) r)) (nC i)) (wpB (gam vals e j b) K (fun _=>E) q)) {nx:=fun _ H'=>Q .non H',rt:=Q} (L2.start N vs) H):
  GOk P w K mg base (CXx P w) (k+1) (gam vals (((x,ps.length),(sp,[]))::e) j b):=by
 rw[aF]at m;obtain⟨f,I,J,an,L,kV,ap,pm,ct,a,l,D,s,G⟩:=d;have F:=Fc l D s;exact g.add (n:=ps.length) (Ml F m.1 m.2 rfl (Ho u G) hq z B g len C) (dE X t a) s (F.binds A) .nil
def E6{kV:Value}{an:Option Addr}:Binds K (aE "__init__" "Torn.__init__" (bh (jG 3 0)) (aX (jG 3 0)) (aO (jG 3 0)) .none kV ap pm an am ct) K61.ot []:=fun s b X a=>by rw[ff]at a⊢;obtain⟨_,_,_,rfl⟩:=Kc.oa a;exact .of_eq rfl
def init_ok:(qd K61.ku K61.ot (aO (jG 3 0))&&rj (aO (jG 3 0)) K61.ku K61.kL (aX (jG 3 0)))=true:=by decide+kernel
set_option hygiene false in
local macro_rules
 | `(#v[])=>`((by kernel_rfl))
 | `(#v[0])=>`(Kc.fm h rfl)
 | `(#v[1,$z])=>`(Kc.dw h fun _ h=>$z)
 | `(#v[4,$z])=>`(eJ h fun _ _ _ _ h=>$z)
 | `(#v[1])=>`(fun _ _ _ _ _ _ f b=>by obtain⟨_,rfl⟩:=Kc.iT b;rfl)
 | `(#v[2])=>`(fun _ _ _ _ _ _ f b=>by obtain⟨_,_,rfl⟩:=Kc.eS b;rfl)
 | `(#v[3])=>`(fun _ _ _ _ _ _ f b=>by obtain⟨_,_,_,rfl⟩:=Kc.oa b;rfl)
 | `(#v[4])=>`(fun _ _ _ _ _ _ f b=>by obtain⟨_,_,_,_,rfl⟩:=GP b;rfl)
 | `(#v[5])=>`(fun _ _ _ _ _ _ f b=>by obtain⟨_,_,_,_,_,rfl⟩:=vS b;rfl)
 | `(#v[$N,$p,$g,$d,$s,$w,$e,$z])=>`(cM (N:=$N) (ps:=$p) $g (HasFn.def X d $d) (by decide+kernel) $e (sp:=$s) (fun _ _ _ _ h=>$z) ($w))
def all_mk{p:Addr}(X:K.In h)(d:h.Ns bH mg)(i3:mg "law"=some (.ref fa)){q r t3 t:Tok}{CE CT:Addr}{i5 S i8 cdI O:Value}
  (v1:dG K bH "LETTERS"=some (some (.str LETTERS q)))(v2:dG K bH "LONGEST_NAME"=some (some (.int 8 r)))(v3:dG K bH "MOST_PLACES"=some (some (.int 60 t3)))(v4:dG K bH "MOST_COPIES"=some (some (.int 40 t)))(v5:dG K bH "NoTable"=some (some (.ref C)))(v6:dG K bH "KinError"=some (some (.ref CE)))(y:dG K bH "Torn"=some (some (.ref CT)))(v8:dG K bH "KINDS"=some (some (.ref kd)))
  (xm:PySem.W.exmOne K (.ref CT) (.ref CT)=some true)(U:qj K CT "one"=true)(V:qj K CT "other"=true)(i6:Kc.Kinds K kd)(mx:t5 K CT fI bmV "ValueError.__new__"=true)(kI:cP K (.ref CT)=true)(o:K.lookup fI=some ⟨.type "function",bv,.func (aE "__init__" "Torn.__init__" (bh (jG 3 0)) (aX (jG 3 0)) (aO (jG 3 0)) .none i5 S i8 bq cdI O),bn⟩)(J:eM K cdI "Torn.__init__"=true)(D:uw K (.ref CE) "__getattribute__"=some (some (.builtin "type.__getattribute__")))(F:PySem.W.readsIn K CE (.type "type")=true)(G:PySem.W.findCls K (.ref CE) (.type "type") "__init__"=some (.val (.builtin "ValueError.__init__")))(i9:StX K CT "one")(j0:StX K CT "other")(bl:∀x∈ju,dG K bH x=some none)
  (d2:HasFn K "is_whole" (top 11))(d3:HasFn K "is_name" (top 12))(d4:HasFn K "is_reading" (top 13))(d5:HasFn K "are_readings" (top 14))(d6:HasFn K "is_copy" (top 15))(d7:HasFn K "is_table" (top 16))(d8:HasFn K "need_table" (top 17))(d9:HasFn K "place_count" (top 19))(e0:HasFn K "first_of_kinds" (top 22))(e1:HasFn K "clash" (top 23))(e2:HasFn K "refuse_clash" (top 24))(e3:HasFn K "group_at" (top 26))(e4:HasFn K "turned" (top 27))(e5:HasFn K "grown" (top 28))(e6:HasFn K "tree" (top 29))(e7:HasFn K "is_telling" (top 31))(e8:HasFn K "are_tellings" (top 32))(e9:HasFn K "need_tellings" (top 33))(f0:HasFn K "that_read" (top 34))(f3:HasFn K "refuse_torn" (top 35))(f4:HasFn K "told_nodes" (top 36))(f5:HasFn K "stands" (top 37))(f6:HasFn K "unknown_places" (top 38))(f7:HasFn K "first_read" (top 39))(f8:HasFn K "_law_cell_at" (top 41))(f9:HasFn K "_law_mixed" (top 43))(h0:HasFn K "_law_owners" (top 44))(h1:HasFn K "_law_grown" (top 45))(h2:HasFn K "_law_nodes" (top 46))(h3:HasFn K "_law_name" (top 47))(h4:HasFn K "_law_copies" (top 48))(h5:HasFn K "_law_built" (top 49))(h6:HasFn K "_law_tellings" (top 50))(h7:HasFn K "_law_bears" (top 51))(h8:HasFn K "_law_stands" (top 52))(h9:HasFn K "_law_torn" (top 53))(i0:HasFn K "_law_known" (top 54))(i1:HasFn K "_law_unknown" (top 55))(g:∃c,BD K "table_list" (top 18) c p)(i2:HasFn K "law" (top 56)):
  ∃fd:fg,(∀(s:Shared)(v:Value),BindsTo s fd ⟨[v],[]⟩ [("_law_script",v)])/\∀base:Heap,K.In base->base.Ns bH mg->BM mg base->jx P w K mg base CX0 42 fa fd ["_law_script"] (fun vs H Q _=>Ke K (tb p) vs H Q E0):=by
 obtain⟨j1,j2,od,an,j3,kV,R,pm,L,M,a,i7,c,i4⟩:=id i2;have e:=i3.symm.trans (dE X d a);cases e;obtain⟨cc,g⟩:=g;refine⟨aE "law" "law" (bh (top 56)) (aX (top 56)) (aO (top 56)) .none kV R pm an L M,fun s v=>.of_eq rfl,fun base A _ I=>?_⟩;have hv:∀x v,(x,v)∈vals C CE CT kd->∃u,mg x=some u/\RelV v u:=by
  intro x v l;simp only[vals,aI,dy,or_false,Prod.mk.injEq]at l;rcases l with⟨rfl,rfl⟩ |⟨rfl,rfl⟩ |⟨rfl,rfl⟩ |⟨rfl,rfl⟩ |⟨rfl,rfl⟩ |⟨rfl,rfl⟩ |⟨rfl,rfl⟩ |⟨rfl,rfl⟩;·exact⟨_,dE X d v1,q,rfl⟩
  ·exact⟨_,dE X d v2,r,rfl⟩
  ·exact⟨_,dE X d v3,t3,rfl⟩
  ·exact⟨_,dE X d v4,t,rfl⟩
  ·exact⟨_,dE X d v5,rfl⟩
  ·exact⟨_,dE X d v6,rfl⟩
  ·exact⟨_,dE X d y,rfl⟩
  ·exact⟨_,dE X d v8,rfl⟩
 have W:GOk P w K mg base (CXx P w) 0 (gam (vals C CE CT kd) []):=GOk.start hv fun x hx=>PySem.W.mg_none_of X d (bl x hx);have Y:=#v[Cp.xl,Cp.EI,W,d2,spB isWhole,BZ,#v[1],#v[1,#v[0]]];have g2:=#v[Cp.zr,Cp.Ih,Y,d3,spN,Ef #v[] #v[],#v[1],#v[1,#v[0]]];have g3:=#v[Cp.sg,Cp.AO,g2,d4,spB cO,yv #v[],#v[1],#v[1,#v[0]]];have g4:=#v[Cp.oA,Cp.wR,g3,d5,spR,vh #v[] #v[],#v[1],#v[1,#v[0]]];have g5:=#v[Cp.zt,Cp.Ii,g4,d6,spC,Eg #v[] #v[],#v[1],#v[1,#v[0]]];have g6:=#v[Cp.xn,Cp.EJ,g5,d7,Cp.spT,B0 #v[] #v[],#v[1],#v[1,#v[0]]];have g7:=#v[Cp.r6,Cp.AJ,g6,d8,Ai C,yu #v[],#v[1],#v[1,#v[0]]];have g8:=add_fnK (T:=tb p) (N:=jO) (ps:=rU) (lx:="copy") g7 X A d g tl_ok tl_q I (fun _ _ _ _ _ _ _ _=>rfl) (fun _ _ _ _ _ _ f b=>by obtain⟨_,rfl⟩:=Kc.iT b;rfl) (sp:=Aj C (tb p)) (fun vs H Q E h=>Kc.dw h fun _ h=>Kc.fm h rfl) (yt (C:=C) #v[]);have g9:=#v[Cp.qg,Cp.yC,g8,d9,vF C,wb (C:=C) #v[],#v[1],#v[1,#v[0]]];have Z:=#v[Kc.lX,Kc.tR,g9,e0,Kc.Am,Kc.JM #v[] i6,#v[3],#v[4,#v[1,#v[0]]]];have a0:=#v[K22.Gy,K22.p_clash,Z,e1,K22.An C (tb p),K22.JN (C:=C) (T:=tb p) #v[] #v[] #v[],#v[1],#v[1,#v[0]]];have a1:=#v[K83.ou,K83.wN,a0,e2,K83.Kb (tb p),K83.wp_ref (C:=C) (T:=tb p) #v[],#v[1],#v[1,#v[0]]];have a2:=#v[K32.xo,K32.EK,a1,e3,K32.Al,K32.JL,#v[2],#v[4,#v[1,#v[0]]]];have a3:=#v[K32.CJ,K32.Lc,a2,e4,K32.oh K,K32.Hw,#v[2],#v[4,#v[0]]];have a4:=#v[K32.Gw,K32.p_grown,a3,e5,K32.wB,K32.Hy #v[] #v[],#v[1],#v[4,#v[0]]];have a5:=#v[K32.Lp,K32.p_tree,a4,e6,K83.mT (tb p),K83.wp_tree (C:=C) (T:=tb p) #v[] #v[] #v[],#v[1],#v[1,#v[0]]];have a6:=#v[K75.sf,K75.AN,a5,e7,K75.spTg,K75.wp_tg #v[] #v[],#v[2],#v[4,#v[0]]];have a7:=#v[K75.oz,K75.wQ,a6,e8,K75.spAt,K75.wp_at #v[],#v[2],#v[4,#v[0]]];have a8:=#v[K75.ny,K75.vj,a7,e9,K75.Kd K,K75.wp_nt (C:=C) #v[] #v[],#v[2],#v[4,#v[4,#v[0]]]];have k:=#v[K75.uH,K75.Cj,a8,f0,K75.rO K,K75.wp_thr,#v[2],#v[4,#v[1,#v[1,#v[1,#v[0]]]]]];have nt:K61.Cl2 K CE CT:=⟨⟨D,F,G⟩,i9,j0,fI,mx⟩;have hi:=fh.mp init_ok;have a9:=k.addI (n:=2) (x:="Torn") (C:=CT) ⟨mx,⟨_,o,rfl⟩,kI⟩ (Dh o J hi.1 hi.2 k (sp:=K61.Ak CT) (fun vs H Q E h=>Kc.dw h fun _ h=>Kc.dw h fun _ h=>Kc.dw h fun _ h=>Kc.fm h rfl) (K61.JK (B:=CE) (C:=CT) #v[] nt)) (dE X d y) E6 .nil;have b0:=#v[K61.qf,K61.yB,a9,f3,K61.spRt K (tb p) CT,K61.wp_rt (T:=tb p) #v[] #v[],#v[2],#v[4,#v[1,#v[1,#v[1,#v[0]]]]]];have b4:=#v[K61.rZ,K61.AI,b0,f4,K61.FV K (tb p) CT,K61.wp_tn1 (T:=tb p) #v[] #v[],#v[2],#v[4,#v[1,#v[1,#v[1,#v[0]]]]]];have b5:=#v[K61.CK,K61.Ld,b4,f5,K61.yY K (tb p) CT,K61.wp_st1 (T:=tb p) #v[] #v[] #v[],#v[2],#v[4,#v[4,#v[0]]]];have b6:=#v[K75.lW,K75.tQ,b5,f6,K75.Ka K,K75.wp_up,#v[3],#v[4,#v[4,#v[1,#v[0]]]]];have b7:=#v[K75.jP,K75.AQ,b6,f7,K65.za K (tb p) CT,K65.wp_fr2 (T:=tb p) #v[] #v[] #v[] #v[],#v[2],#v[4,#v[4,#v[0]]]];have b8:=#v[Lt.qi,Lt.yE,b7,f8,Lt.wF K,Lt.wp_cell,#v[2],#v[1,#v[1,#v[1,#v[0]]]]];have b9:=#v[Bt.uJ,Bt.Cm,b8,f9,Bt.yZ,Bt.wp_mix,#v[2],#v[1,#v[1,#v[0]]]];have c0:=#v[Bt.r9,Bt.AL,b9,h0,Bt.wA,Bt.Hx,#v[4],#v[4,#v[1,#v[0]]]];have c1:=#v[Bt.uL,Bt.Co,c0,h1,Bt.wC K,Bt.Hz #v[] #v[],#v[2],#v[1,#v[1,#v[1,#v[0]]]]];have c2:=#v[Bt.uI,Bt.Ck,c1,h2,Bt.Ah,Bt.JJ,#v[5],#v[4,#v[1,#v[1,#v[1,#v[0]]]]]];have c3:=#v[Bt.xk,Bt.EH,c2,h3,Bt.spNm,Bt.wp_nm,#v[2],#v[1,#v[1,#v[0]]]];have c4:=#v[Bt.se,Bt.AM,c3,h4,Bt.wD,Bt.HA #v[],#v[5],#v[4,#v[1,#v[1,#v[1,#v[0]]]]]];have c5:=#v[Bt.uM,Bt.Cq,c4,h5,Bt.Ao K,Bt.JO #v[] #v[] #v[] #v[] #v[] #v[],#v[2],#v[1,#v[1,#v[1,#v[0]]]]];have c6:=#v[K62.oy,K62.wO,c5,h6,K62.spTl K,K62.wp_tl #v[],#v[3],#v[4,#v[1,#v[1,#v[0]]]]];have c7:=#v[K61.uN,K61.Cr,c6,h7,K61.spBr K,K61.wp_br,#v[2],#v[4,#v[1,#v[1,#v[0]]]]];have c8:=#v[K61.r8,K61.AK,c7,h8,K75.rO K,K61.wp_ls #v[],#v[2],#v[4,#v[1,#v[1,#v[1,#v[0]]]]]];have z:∀j m,Xm (gam (vals C CE CT kd) j m) K CT:=fun j m=>⟨by kernel_rfl,xm,U,V⟩;have c9:=#v[K65.xj,K65.EG,c8,h9,K65.FU (tb p),K65.wp_tr5 (T:=tb p) (z _ _) #v[] #v[],#v[2],#v[4,#v[4,#v[0]]]];have d0:=#v[K65.uK,K65.Cn,c9,i0,K65.spKn K (tb p),K65.wp_kn (CT:=CT) (T:=tb p) #v[] #v[] #v[] #v[] #v[],#v[5],#v[4,#v[4,#v[4,#v[1,#v[1,#v[0]]]]]]];have d1:=#v[K65.qh,K65.yD,d0,i1,K65.spUn K (tb p),K65.wp_un (CT:=CT) (T:=tb p) #v[] #v[] #v[] #v[],#v[5],#v[4,#v[4,#v[4,#v[1,#v[1,#v[0]]]]]]];have i:(qd K65.Lq K65.p_law (aO (top 56))&&rj (aO (top 56)) K65.Lq K65.MO (aX (top 56)))=true:=by decide+kernel
 rw[aF]at i;exact jx.calm (GU (Fc i7 c i4) i.1 i.2 d1 (fun vs H Q E h=>Kc.dw h fun _ h=>Kc.dw h fun _ h=>Kc.fm h rfl) (wp_law (CT:=CT) (T:=tb p) ⟨#v[],#v[],#v[],#v[],#v[],#v[],#v[],#v[]⟩))
end K65
open PySem PySem.W PyProof.Rows
set_option maxRecDepth 100000 in
set_option maxHeartbeats 0 in
theorem PySem.Challenge.cw_copykin_k65_whole_known_places_told_holds : PySem.Challenge.rw_copykin_k65_whole_known_places_told.Holds := by
 w_on;o_law
 refine PySem.W.holds_open (q:=K65.vw) (loose:=K65.loo) (Xt:=K65.xt)
  (XP:=PySem.W.XL K65.vw []) (Yf:=D7 (kW K65.C8 K65.C9 (fun _=>by kernel_rfl) [134])) (Ya:=D6 (kW K65.C8 K65.C9 (fun _=>by kernel_rfl) [134]))
  (YP:=PySem.W.Hook.says (kW K65.C8 K65.C9 (fun _=>by kernel_rfl) [134])) (N:=4922) (fun w=>K65.both (K65.leftA w) (K65.leftB w)) (PySem.W.Hook.of _) (PySem.W.Hook.keeps _)
  (fun s e=>PySem.W.xl_of s (fh.mp e).1) PySem.W.XL.keeps
  (by rfl) (by rfl) (by rfl)
  (fun s e=>PySem.W.recFacts_of (fh.mp e).2) rfl (by assumption) (by decide+kernel)
  ⟨rfl,rfl,rfl,rfl,rfl,by decide+kernel⟩ ?hw ?hc
 (case hw=>w_witness2)
 k_fill
 refine Lm.JP (l:=PySem.Challenge.rw_copykin_k65_whole_known_places_told) (n:=63) (k:=42) (x:="_law_script") (CX:=L2.CX0) (sp:=fun K=>fun vs H Q _=>K65.Ke K (K65.tb 134) vs H Q L2.E0) (tabs:=[134]) rfl (by decide) rfl ⟨rfl,by decide,by decide⟩ (fun w h Y=>Nf Y) ?T ?F (fun K H a ns hl ht hS=>⟨a,ns,rfl,hS,hl,.inl (ht 134 (aT.mpr rfl)),fun _=>rfl⟩) (fun _ _ _ _ z=>z)
 case T=>
  intro w s₀ mg mb h G Y p hp;obtain rfl:=aT.mp hp;have KX:=Nf Y;have T:=PySem.W.km_tabs_of Y 134 (aT.mpr rfl);have F:∃c,K65.BD (L2.KOf KX) "table_list" (K65.top 18) c 134:=by
   dsimp only[L2.KOf];refine' K65.zC ?ta ?tl ?tk ?tq ?th;(case ta=>k_is);(case tl=>k_is);(case tk=>k_is);(case tq=>k_is);(case th=>first |k_is|kernel_rfl)
  obtain⟨c,_,_,_,_,_,_,_,_,_,_,_,_,_,q⟩:=F;exact⟨T,((Ho KX q).tab T).isCodeTable,by kernel_rfl⟩
 case F=>
  intro w mg fa h KX G hmg;refine' K65.all_mk (p:=134) (fI:=60) (cdI:=.ref 59) KX G hmg ?v1 ?v2 ?v3 ?v4 ?v5 ?v6 ?v7 ?v8 ?xm ?f1 ?f2 ?kd0 ?mx ?kI ?lI ?cI ?b1 ?b2 ?b3 ?st1 ?st2 ?bl ?h11 ?h12 ?h13 ?h14 ?h15 ?h16 ?h17 ?h19 ?h22 ?h23 ?h24 ?h26 ?h27 ?h28 ?h29 ?h31 ?h32 ?h33 ?h34 ?h35 ?h36 ?h37 ?h38 ?h39 ?h41 ?h43 ?h44 ?h45 ?h46 ?h47 ?h48 ?h49 ?h50 ?h51 ?h52 ?h53 ?h54 ?h55 ?h18 ?h56
  (case v1=>k_is);(case v2=>k_is);(case v3=>k_is);(case v4=>k_is);(case v5=>k_is);(case v6=>k_is);(case v7=>k_is);(case v8=>k_is)
  (case xm=>kts_exm)
  (case f1=>refine' K65.Di (K65.Dm ?xa ?xb ?xc ?xd ?xe ?xf ?xg ?xh) ?fb ?fc ?fd;(case xa=>k_is);(case xb=>k_is);(case xc=>k_is);(case xd=>k_is);(case xe=>k_is);(case xf=>k_is);(case xg=>k_is);(case xh=>k_is);(case fb=>k_is);(case fc=>k_is);(case fd=>rfl))
  (case f2=>refine' K65.Di (K65.Dm ?xa ?xb ?xc ?xd ?xe ?xf ?xg ?xh) ?fb ?fc ?fd;(case xa=>k_is);(case xb=>k_is);(case xc=>k_is);(case xd=>k_is);(case xe=>k_is);(case xf=>k_is);(case xg=>k_is);(case xh=>k_is);(case fb=>k_is);(case fc=>k_is);(case fd=>rfl))
  (case kd0=>refine' K65.LQ ?l ?l0 ?l1 ?l2 ?l3;(case l=>k_is);(case l0=>k_is);(case l1=>k_is);(case l2=>k_is);(case l3=>k_is))
  (case mx=>first |k_exc|kernel_rfl)
  (case kI=>k_is)
  (case lI=>k_is)
  (case cI=>k_is)
  (case b1=>k_is)
  (case b2=>first |k_is|kernel_rfl)
  (case b3=>first |k_is|kernel_rfl)
  (case st1=>refine'⟨?s1,?s2,?s3,?s4⟩;(case s1=>k_is);(case s2=>first |k_is|kernel_rfl);(case s3=>first |k_is|kernel_rfl);(case s4=>first |k_is|kernel_rfl))
  (case st2=>refine'⟨?s1,?s2,?s3,?s4⟩;(case s1=>k_is);(case s2=>first |k_is|kernel_rfl);(case s3=>first |k_is|kernel_rfl);(case s4=>first |k_is|kernel_rfl))
  (case bl=>
   intro x hx;simp only[R.ju,aI,dy,or_false]at hx;rcases hx with rfl|rfl|rfl|rfl|rfl|rfl|rfl|rfl|rfl|rfl|rfl|rfl|rfl|rfl|rfl|rfl|rfl|rfl|rfl|rfl<;>k_is)
  (case h18=>refine' K65.zC ?ua ?ul ?uk ?uq ?uh;(case ua=>k_is);(case ul=>k_is);(case uk=>k_is);(case uq=>k_is);(case uh=>first |k_is|kernel_rfl))
  all_goals(refine' R.Md ?a ?l ?c ?k;(case a=>k_is);(case l=>k_is);(case c=>k_is);(case k=>k_is))
