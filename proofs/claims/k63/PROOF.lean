import PyProof.Rows.All
import Wide.All
import OpenK.AllK
import Wide.FinOn
import Lean
import PyProof.EqAt
import PyProof.EqKinds
import PyProof.TupleCall
import PyProof.NeKinds
import PySem.Challenge.RW_copykin_k63_refused_tellings
local macro_rules|`(command|abbrev $d:declId $s:optDeclSig $v:declVal)=>`(command|noncomputable def $d:declId $s:optDeclSig $v:declVal)
open Array renaming length_toList → cm, getElem?_eq_some_iff → cq, perm_iff_toList_perm → eQ, mem_toList_iff → jQ, getElem?_setIfInBounds_self_of_lt → qk, find?_toList → tT, ext' → AQ, getElem?_eq_none → EY, getElem?_toList → GR, getD → M9, forIn_toList → Na
open Bool renaming false_ne_true → ao, and_eq_true → az, false_eq_true → aX, or_eq_true → b8, false_and → cT, and_false → dh, eq_iff_iff → eB, true_and → eM, and_eq_true_iff → fh, not_true → gv, false_or → ni, or_true → GQ, and_eq_false_iff → IS
open Classical renaming byContradiction → gD
open False renaming elim → gL
open ForInStep renaming yield → hO
open Function renaming comp → yT
open Int renaming toNat_natCast → aQ, eq_ofNat_of_zero_le → cP, emod_lt_of_pos → cW, emod_nonneg → dw, zero_add → fX, fdiv_eq_ediv_of_nonneg → C8
open Lean.Name renaming str → b9, anonymous → Dm
open List renaming getElem?_eq_getElem → ae, getD_eq_getElem?_getD → af, length_map → ai, size_toArray → aw, getElem?_map → aC, mem_cons_of_mem → aD, range → aE, mem_cons → aG, getElem?_eq_some_iff → aH, mem_of_getElem? → aI, mem_map → aJ, mem_cons_self → aL, mem_singleton → aS, length_append → aU, lookup_cons → aV, length_range → aY, getElem_mem → a6, map_cons → a8, mem_append_right → a9, length_cons → ba, all_eq_true → bg, replicate → bj, mem_range → bp, length_eq_zero_iff → bA, mem_iff_getElem? → bK, getElem_map → bQ, ext_getElem → bR, getElem?_append_right → bU, getElem?_eq_none → bX, getElem?_range → cn, not_mem_nil → cu, any_eq_true → cw, mem_append_left → cz, getElem?_append_left → cB, map_map → cD, nodup_cons → cG, map_append → cH, map_congr_left → cJ, lookup → cS, mem_append → cV, length_take → cY, length_drop → cZ, take_add_one → dI, replicate_succ → dM, foldl_cons → dO, length_singleton → dR, toArray → dX, mem_iff_getElem → d5, length → eL, set_cons_zero → eR, set_cons_succ → eS, pairwise_iff_getElem → eY, append_nil → ff, take_length → fK, getElem_inj → fL, length_filter_le → gw, nodup_append → gB, map_nil → hJ, length_pos_iff → iu, any_cons → iF, mem_filter → iM, find?_cons → iO, getElem?_drop → iR, take_of_length_le → jc, nodup_nil → jd, flatten_cons → je, ext_getElem? → jf, length_replicate → jB, range_succ → kA, length_nil → kB, filter_map → kC, flatMap_append → kK, length_eraseIdx_of_lt → lG, filter_append → lH, pairwise_map → mR, flatMap_cons → mS, append_assoc → mT, map_snd_zip → nv, getElem?_cons_zero → ny, cons_append → nC, mem_erase_of_ne → qL, getElem?_set_ne → qM, mem_map_of_mem → sL, filter_sublist → sM, filterMap_cons → sN, zip_cons_cons → uv, lookup_append → uw, getElem_range → uy, find?_eq_none → uA, take_sublist → ve, eraseIdx_eq_take_drop_succ → xm, flatMap_nil → xq, filter_cons → xr, map_id → xQ, of_mem_zip → yR, nil_append → yS, forIn_nil → AU, getElem?_take_of_lt → Dj, all_cons → Dl, getElem?_cons_succ → EX, range_succ_eq_map → GJ, pairwise_lt_range → GK, getElem?_set_self → GL, any_map → GN, all_map → GO, perm_cons_erase → IW, mem_of_mem_take → IX, toList_toArray → M1, filter_eq_self → M2
open List.Pairwise renaming nil → jV
open List.Perm renaming refl → dU, swap → xn
open List.cons renaming injEq → IY
open Nat renaming le_refl → av, le_trans → aF, ne_of_lt → aK, zero_le → aM, lt_of_lt_of_le → aT, lt_succ_of_lt → bM, not_lt_zero → dv, lt_irrefl → dH, le_succ → dP, lt_succ_self → dW, ne_of_gt → eK, mod_eq_of_lt → eP, le_succ_of_le → fu, lt_trans → fW, le_of_not_lt → hZ, lt_of_le_of_lt → iT, le_of_lt → lE, zero_add → xk, le_of_eq → xl, le_add_right → xP, strongRecOn → AM, le_antisymm → AN, mod_lt → C7, lt_succ_iff_lt_or_eq → EW, succ_mul → IP
open Nat.succ renaming inj → jU
open Ne renaming symm → bE
open Option renaming isSome_iff_exists → cg, bind_some → fE, isSome_some → fS, isNone_iff_eq_none → gU, map_eq_some_iff → iW, map_some → jT, getD_none → vd, isSome_none → IV
open Option.some renaming inj → bc, injEq → fR
open PyProof.Rows renaming IntsAre → bY, callWith_type1 → d0, listUpdate_at → fP, callWith_builtin1 → iQ, AllBare → pJ, subscriptTail_builtinR → sD, get?_update_seq → sI, seqEpoch_at → uN, boot_tuple → xj, boot_list → xp, boot_int → xO, StrsAre → AH, entry_list_sort → ET, slot_list_sort → ID, size_push' → IE, subscriptTail → MP
open PyProof.Rows.F renaming plain_set_update_loop → fZ, entry_set_update_loop → nh
open PySem renaming wpAny_bind → aa, wpAny_pure → aj, starEach → bh, mainGlobals → bu, mem_of_lookup → bw, SetTable → bC, wpAny_holding → bH, wpAny_newObj_type → bW, cellsFrom → cy, wpAny_call_entry → cK, wpAny_mono → cL, compareOp → cX, wpAny_truthy_bool → dk, wpAny_setField_rec → dB, Fin → dG, NameKind → dZ, sysModules → d9, binaryOp → eD, wpAny_callSpecial?_slot → eG, codeAny_builtin → eI, wpAny_Call_Name_kw → eZ, FuncData → fg, bootBuiltins → fJ, plainId_quiet → fO, scanBound → fV, codeAny → gA, wpAny_passesOwn → gK, wpAny_standAt → gM, wpAny_setState_of → gZ, wpAny_seqItems → ix, wpAny_rule → iy, wpAny_field → iz, wpAny_call → iA, strIterType → iB, codeAny_call_builtin → iC, assignEach → iD, wpAny_askSetting → iK, wpAny_attempt → i6, wpAny_pyIter_tuple → jo, pickOrder → jq, excClassObj → jr, wpAny_loadPart_at → jK, recursionLimit → jL, foldedSetIterable → jN, codeAny_mono → jO, Value → jP, call_meets → kF, Within → kG, sliceBounds → lC, GenState → lF, wpAny_richCompare_same_room → mP, noteFrame → ng, builtinsNs → nr, wpAny_pyIter_list → pB, wpAny_of_eq → pC, wpAny_letGo → pD, sizeLine_eq → pE, keywordEach → pF, fits_of_scanBound → pG, atKey_none_of_get → pH, wpAny_newList → pM, wpAny_isInstance → qF, wpAny_eqBool_int → qG, tupleKind → qH, swapsWith → qI, relayAll → qJ, bindArgs → qK, letOwnedTupleGo → sG, wpAny_tryCatch → uJ, wpAny_setField → uK, setField → uL, seqIndex_of → uM, firstArgMember → uO, seqItems? → u9, wpAny_typeOf → AA, standAt → AB, backToKw → AF, Addr → AL, setFlight → C1, onTheHeap → C2, noFill_tuple_add → C3, checkBuiltinCall → C4, Str → Dh, wpAny_updateSeq → ER, wpAny_execs_nil → ES, codeAny_of_tree → EU, Shared → EV, callerA → GF, wpAny_loadPart → IB, wpAny_Name → IC, setsByText → IF, raiseNew → IG, isSubtype_type → IH, isInstance → II, entryFor → IJ, dictSetDefault → IK, closureFor → IL, swapsWithSole → MO, seq_tuple_add → MQ, behindInMarks → MR, attributeBase → MS
open PySem.Around renaming under_plainId → dA, under → Dq
open PySem.AutoSeq1 renaming wpAny_loadPart' → lK
open PySem.Builtin renaming bitAnd → iU, bitXor → kL
open PySem.Builtin.Builtins renaming bindParams → fA
open PySem.Builtin.List renaming listTooLong → gE, listTouch → lJ, listLengthHint → tR, listExtendWith → tS
open PySem.Builtin.SmallTypes renaming nextOf → eA
open PySem.Builtin.Str renaming occurrences → hU, strSliceIndices → uC
open PySem.Calls renaming call_function_entry → mr, Name_function_global → AO, spliced_cons → M7
open PySem.Code renaming quiet_builtin → uB, isFrame → GP
open PySem.EntryCells renaming newEntry → Dc
open PySem.F renaming attrBase_ValueError → fY, slot_tuple_iterator_next → iq, excBase_ValueError → kJ, args_tuple_add_2 → mq, entry_tuple_add → mQ, slot_tuple_add → nu, slot_tuple_lt → qP, slot_dict_setdefault → xi, plainAttrs_list → AS, args_tuple_iterator_next_1 → C9, entry_bexc_ga → Di, entry_tuple_iterator_next → Dp
open PySem.Heap renaming get?_push_of_some → ag, get?_push_size → ax, lt_size → ay, get?_update_other → aN, size_push → bD, get?_update_self → bP, SameBut → dm, size_update → nF, get?_none_of_le → qN, MadeExcOf → qO
open PySem.Heap.SameBut renaming update → bO
open PySem.IsL renaming update → IM
open PySem.Moved renaming trans → IQ
open PySem.NameKind renaming free → bV, cell → cM
open PySem.Obj renaming mapSeq → aZ, data_mapFields → eW, mapFields → fz, isFreed_of_fields → jF, data_mapDictKeys → M0
open PySem.Paired renaming length → mw
open PySem.PyData renaming keyHash → ak
open PySem.SeqAt renaming notIn_listAt → MU, EqAt → MV
open PySem.SeqAt.EqAt renaming str_int → Dd, int_str → De
open PySem.SetTable renaming below → cj, grown → fv, insertAt → sJ, has → AR, orStandIn → GG, relaid → MT
open PySem.SetTable.below renaming go → AI
open PySem.SetTable.probe renaming go → pI
open PySem.Str renaming ofString → aP, length → uP
open PySem.Value renaming ref → bz, none → bL, builtin → iE, str → iP, type → lD, int → w8, bool → AG
open PySem.W renaming Frag → ah, fnOf → aB, keepIn → b7, kitOne → cE, mg_of → cO, nsIn → cU, kia_one → dg, kas_sort → dQ, codeIn → eJ, findIn → fw, kas_descPart → jM, kmHook → kH, looks_findIn → sE, callWith_K → sF, specialIn → tP, methodObj → tQ, findObj → vc, instObj → w9, lookIn → xN, kas_rev → AE, mroIn → AJ, cellsFrom_some → C6, looks_clsIn → GH, codeHd_of_K → GI, kitx_list → IT, kitx_dict → IU, plainGet → MW, openEnds → MX, km_in_of → MY, codeHdIn → MZ
open PySem.W.Hook renaming val → Df, obs → Dg
open PySem.W.KasT renaming ret → vg
open PySem.W.Looks renaming here → AK
open PySem.Within renaming cons → C5
open PySem.pickOrder renaming go → AD
open Sum renaming inr → fo, inl → fq
set_option compiler.extract_closed false
set_option bootstrap.genMatcherCode false
set_option Elab.async false
set_option linter.all false
set_option maxRecDepth 100000
set_option maxHeartbeats 0
variable {es es' bn:Array (Int×jP)}{bv s0 s2 s3 sl dt:Array (Option jP)}{ad cr:Array jP}{d1 led:Bool}{ac:List (List Int)}{ts:List (Nat×Int)}{pins pins' pn:List (AL×PySem.Obj)}{gs ns qs:List Int}{ch fp tabs:List AL}{N ks loose ps:List Dh}{args bmB ds al its' kv out rest us vs ws:List jP}{ep i j k m n t':Nat}{nf:Nat->Dh}{dC d func o0 o1 o2 o3 dL:Option AL}{C CC Ci I L S T a ab ar b be c c' dd dl dx f fI fa it kS kd l nl p pl q r x0:AL}{A:PySem.Around}{e iter o tg:PySem.Expr}{Qf:dG->EV->Prop}{base h h' h0 h1:PySem.Heap}{bo np pos pos' pp:PySem.Pos}{P prog:PySem.Program}{sc sc' scope:PySem.Scope}{s s':EV}{lx qual z:Dh}{mA mN mb mg:Dh->Option jP}{ap ct ce bi oc pm u:jP}{E QQ Q₁ xe:jP->EV->Prop}{K:ah}{w:PySem.World}
namespace L2
open PySem
abbrev bf(s:Stmt):Arguments:=match s with
 |.FunctionDef _ a _ _ _ _ _ _ _ _=>a
 |_=>{posonlyargs:=[],args:=[],vararg:=none,kwonlyargs:=[],kw_defaults:=[],kwarg:=none,defaults:=[]}
abbrev a7(s:Stmt):List Stmt:=match s with
 |.FunctionDef _ _ b _ _ _ _ _ _ _=>b
 |_=>[]
abbrev aO(s:Stmt):Scope:=match s with
 |.FunctionDef _ _ _ _ _ _ sc _ _ _=>sc
 |_=>{kind:=.function,names:=[],isGenerator:=false,isCoroutine:=false}
end L2
namespace K63
open PySem PySem.Spec PySem.Calls PyProof.Rows
abbrev top(i:Nat):Stmt:=PySem.Challenge.pw_copykin_k63_refused_tellings.main.body.getD i (.Pass ⟨0,0,0,0⟩)
abbrev jy(i j:Nat):Stmt:=match top i with
 |.ClassDef _ _ _ b .. =>b.getD j (.Pass ⟨0,0,0,0⟩)
 |s=>s
abbrev vw:Program:=
 {PySem.Challenge.pw_copykin_k63_refused_tellings with main:={PySem.Challenge.pw_copykin_k63_refused_tellings.main with body:=[top 1,top 2,top 3,top 4,top 5,top 7,top 8,top 9,top 10,top 11,top 12,top 13,top 14,top 15,top 16,top 17,top 18,top 19,top 21,top 22,top 23,top 24,top 26,top 27,top 28,top 29,top 31,top 32,top 33,top 34,top 35,top 36,top 37,top 38,top 39,top 41,top 42,top 43,top 44,top 45,top 46,top 47,top 48,top 49,top 50,top 51,top 52,top 53]}}
abbrev loo:List Str:=[]
abbrev xt(s:Shared):Bool:=PySem.W.xlAt vw [] s&&PySem.W.recOk [] s
abbrev lhsA(w:World):=(MX treeTable PySem.Challenge.pw_copykin_k63_refused_tellings w 4796).map
 (PySem.W.openSeen vw loo (importedModules PySem.Challenge.pw_copykin_k63_refused_tellings.main.body) xt true)
abbrev rhsA(_:World):=some (PySem.W.openGood vw loo)
abbrev seen{α:Type _}(_:α):Bool:=true
def laidA:(seen lhsA&&seen rhsA)=true:=by k_qdec
def leftA(w:World):lhsA w=rhsA w:=by
 have _:=laidA;rw[PySem.W.Fast.te9753527399003800689,PySem.W.Fast.te6031200343255712197]
 kernel_rfl
def both{c d e:Type}{o:Option c}{f:c->d}{g:c->e}{a:d}{b:e}(h:o.map f=some a)(k:o.map g=some b):(o.map fun s=>(f s,g s))=some (a,b):=by
 cases o with
 |none=>cases h
 |some x=>injection h with h;injection k with k;rw[<-h,<-k];rfl
end K63
namespace K63
open PySem PySem.Spec PySem.Calls PyProof.Rows L2
set_option hygiene false in
local macro_rules
 | `(#v[$x:str,$t,$r])=>`(⟨ak P $x,.str $x $t,.ref $r⟩)
 | `(#v[295])=>`(.str "copykin.tables" 295)
 | `(#v[364])=>`(.str "copykin.clashes" 364)
 | `(#v[401])=>`(.str "copykin.trees" 401)
 | `(#v[435])=>`(.str "copykin.standing" 435)
 | `(#v[506])=>`(.str "law_copykin_k63_refused_tellings" 506)
 | `(#v[$c:num,$x,$t,$e,$f,$l,$k,$a,$b,$d,$u,$v,$g:num,$i,$m,$z])=>`((nat_lit $c,⟨.type "code",none,(.fields #[.str $x $t,.str $x $e,.str "/claim/cut.py" $f,.int $l 0,.int $k 0,.int 0 0,.int 0 0,.int 3 0,.ref $a,.bool true,.int 181 0,.ref $b,.none,.none,.none,.ref $d,.int $u 0,.int $l 0,.str "/claim/cut.py" $v]),#[]⟩)::(nat_lit $g,⟨.type "function",none,(.func (aB $x $x (bf (top $i)) (a7 (top $i)) (aO (top $i)) .none .none .none $m none (.ref $c) .none)),#[]⟩)::$z)
 | `(#v[$c:num,$x,$t,$e,$f,$l,$k,$a,$b,$d,$u,$v,$g:num,$i,$m,$o,$p,$z])=>`((nat_lit $c,⟨.type "code",none,(.fields #[.str $x $t,.str $x $e,.str "/claim/cut.py" $f,.int $l 0,.int $k 0,.int 0 0,.int 0 0,.int 3 0,.ref $a,.bool true,.int 181 0,.ref $b,.none,.ref $o,.ref $p,.ref $d,.int $u 0,.int $l 0,.str "/claim/cut.py" $v]),#[]⟩)::(nat_lit $g,⟨.type "function",none,(.func (aB $x $x (bf (top $i)) (a7 (top $i)) (aO (top $i)) .none .none .none $m none (.ref $c) .none)),#[]⟩)::$z)
abbrev B5(P:PySem.Params):ah:=
 (nat_lit 2,⟨.none,none,(.dict #[] 0),#[]⟩)::
 (nat_lit 3,⟨.type "dict",none,(.dict #[⟨ak P "__name__",.str "__name__" 165,.str "law_copykin_k63_refused_tellings" 506⟩,⟨ak P "__doc__",.str "__doc__" 166,.none⟩,⟨ak P "__package__",.str "__package__" 167,.none⟩,⟨ak P "__loader__",.str "__loader__" 168,.builtin "__main__.__loader__#opaque"⟩,⟨ak P "__spec__",.str "__spec__" 169,.none⟩,#v["__annotations__",170,6],#v["__builtins__",171,4],⟨ak P "__file__",.str "__file__" 173,.str "/claim/cut.py" 172⟩,⟨ak P "__cached__",.str "__cached__" 174,.none⟩,#v["KinError",206,24],#v["Clash",235,44],#v["Torn",262,63],#v["NoTable",278,75],#v["NoTelling",294,87],⟨ak P "LETTERS",.str "LETTERS" 298,.str "abcdefghijklmnopqrstuvwxyz" 297⟩,⟨ak P "LONGEST_NAME",.str "LONGEST_NAME" 300,.int 8 299⟩,⟨ak P "MOST_PLACES",.str "MOST_PLACES" 302,.int 60 301⟩,⟨ak P "MOST_COPIES",.str "MOST_COPIES" 304,.int 40 303⟩,#v["is_whole",311,96],#v["is_name",317,101],#v["is_reading",324,108],#v["are_readings",330,113],#v["is_copy",337,120],#v["is_table",343,125],#v["need_table",350,132],#v["table_list",356,137],#v["place_count",363,144],#v["KINDS",374,149],#v["first_of_kinds",380,154],#v["clash",392,161],#v["refuse_clash",400,168],#v["group_at",414,175],#v["turned",420,180],#v["grown",426,185],#v["tree",434,192],#v["is_telling",444,199],#v["are_tellings",450,204],#v["need_tellings",459,211],#v["that_read",465,216],#v["refuse_torn",476,223],#v["told_nodes",485,230],#v["stands",493,237],#v["unknown_places",499,242],#v["first_read",505,247],#v["_law_cell_at",515,254],#v["_law_whole",522,261],#v["_law_mixed",530,268],#v["_law_owners",536,273],#v["_law_grown",551,280],#v["_law_nodes",557,285],#v["_law_name",567,292],#v["_law_copies",573,297],#v["_law_built",579,302],#v["_law_no_table",590,309],#v["_law_no_tellings",599,316],#v["_law_truths",610,323],#v["law",626,330]] 57),#[]⟩)::
 (nat_lit 23,⟨.type "dict",none,(.dict #[⟨ak P "__module__",.str "__module__" 196,.str "copykin.errors" 187⟩,⟨ak P "__firstlineno__",.str "__firstlineno__" 200,.int 2 199⟩,#v["__static_attributes__",201,22],#v["__weakref__",203,25],⟨ak P "__doc__",.str "__doc__" 204,.none⟩] 3),#[]⟩)::
 (nat_lit 24,⟨.type "type",none,(.cls {name:="KinError",bases:=[.type "ValueError"],mro:=[.ref 24,.type "ValueError",.type "Exception",.type "BaseException",.type "object"],ns:=23,qualname:="KinError",hasDict:=true,slotNames:=[],subclasses:=[.ref 44,.ref 63,.ref 75,.ref 87],abstract:=false,collection:=none,hasDel:=false}),#[(some (.ref 15)),none,(some (.str "KinError" 189)),(some (.str "KinError" 197)),(some (.builtin "ValueError.__new__")),(some (.bool true))]⟩)::
 (nat_lit 40,⟨.type "code",none,(.fields #[.str "__init__" 219,.str "Clash.__init__" 220,.str "/claim/cut.py" 221,.int 6 0,.int 4 0,.int 0 0,.int 0 0,.int 3 0,.ref 35,.bool true,.int 181 0,.ref 36,.none,.ref 37,.ref 38,.ref 39,.int 226 0,.int 6 0,.str "/claim/cut.py" 227]),#[]⟩)::
 (nat_lit 41,⟨.type "function",none,(.func (aB "__init__" "Clash.__init__" (bf (jy 2 0)) (a7 (jy 2 0)) (aO (jy 2 0)) .none .none .none (.str "copykin.errors" 187) none (.ref 40) .none)),#[]⟩)::
 (nat_lit 43,⟨.type "dict",none,(.dict #[⟨ak P "__module__",.str "__module__" 214,.str "copykin.errors" 187⟩,⟨ak P "__firstlineno__",.str "__firstlineno__" 218,.int 4 217⟩,#v["__init__",228,41],#v["__static_attributes__",232,42],⟨ak P "__doc__",.str "__doc__" 233,.none⟩] 2),#[]⟩)::
 (nat_lit 44,⟨.type "type",none,(.cls {name:="Clash",bases:=[.ref 24],mro:=[.ref 44,.ref 24,.type "ValueError",.type "Exception",.type "BaseException",.type "object"],ns:=43,qualname:="Clash",hasDict:=true,slotNames:=[],subclasses:=[],abstract:=false,collection:=none,hasDel:=false}),#[(some (.ref 28)),none,(some (.str "Clash" 207)),(some (.str "Clash" 215)),(some (.builtin "ValueError.__new__")),(some (.bool true))]⟩)::
 (nat_lit 62,⟨.type "dict",none,(.dict #[⟨ak P "__module__",.str "__module__" 243,.str "copykin.errors" 187⟩,⟨ak P "__firstlineno__",.str "__firstlineno__" 247,.int 11 246⟩,#v["__init__",256,60],#v["__static_attributes__",259,61],⟨ak P "__doc__",.str "__doc__" 260,.none⟩] 2),#[]⟩)::
 (nat_lit 63,⟨.type "type",none,(.cls {name:="Torn",bases:=[.ref 24],mro:=[.ref 63,.ref 24,.type "ValueError",.type "Exception",.type "BaseException",.type "object"],ns:=62,qualname:="Torn",hasDict:=true,slotNames:=[],subclasses:=[],abstract:=false,collection:=none,hasDel:=false}),#[(some (.ref 47)),none,(some (.str "Torn" 236)),(some (.str "Torn" 244)),(some (.builtin "ValueError.__new__")),(some (.bool true))]⟩)::
 (nat_lit 74,⟨.type "dict",none,(.dict #[⟨ak P "__module__",.str "__module__" 270,.str "copykin.errors" 187⟩,⟨ak P "__firstlineno__",.str "__firstlineno__" 274,.int 17 273⟩,#v["__static_attributes__",275,73],⟨ak P "__doc__",.str "__doc__" 276,.none⟩] 2),#[]⟩)::
 (nat_lit 75,⟨.type "type",none,(.cls {name:="NoTable",bases:=[.ref 24],mro:=[.ref 75,.ref 24,.type "ValueError",.type "Exception",.type "BaseException",.type "object"],ns:=74,qualname:="NoTable",hasDict:=true,slotNames:=[],subclasses:=[],abstract:=false,collection:=none,hasDel:=false}),#[(some (.ref 66)),none,(some (.str "NoTable" 263)),(some (.str "NoTable" 271)),(some (.builtin "ValueError.__new__")),(some (.bool true))]⟩)::
 (nat_lit 86,⟨.type "dict",none,(.dict #[⟨ak P "__module__",.str "__module__" 286,.str "copykin.errors" 187⟩,⟨ak P "__firstlineno__",.str "__firstlineno__" 290,.int 19 289⟩,#v["__static_attributes__",291,85],⟨ak P "__doc__",.str "__doc__" 292,.none⟩] 2),#[]⟩)::
 (nat_lit 87,⟨.type "type",none,(.cls {name:="NoTelling",bases:=[.ref 24],mro:=[.ref 87,.ref 24,.type "ValueError",.type "Exception",.type "BaseException",.type "object"],ns:=86,qualname:="NoTelling",hasDict:=true,slotNames:=[],subclasses:=[],abstract:=false,collection:=none,hasDel:=false}),#[(some (.ref 78)),none,(some (.str "NoTelling" 279)),(some (.str "NoTelling" 287)),(some (.builtin "ValueError.__new__")),(some (.bool true))]⟩)::
 #v[95,"is_whole",305,306,307,26,1,90,91,94,309,310,96,11,#v[295],92,93,
 #v[100,"is_name",312,313,314,28,1,97,98,99,315,316,101,12,#v[295],
 #v[107,"is_reading",318,319,320,34,1,102,103,106,322,323,108,13,#v[295],104,105,
 #v[112,"are_readings",325,326,327,36,1,109,110,111,328,329,113,14,#v[295],
 #v[119,"is_copy",331,332,333,40,1,114,115,118,335,336,120,15,#v[295],116,117,
 #v[124,"is_table",338,339,340,44,1,121,122,123,341,342,125,16,#v[295],
 #v[131,"need_table",344,345,346,52,1,126,127,130,348,349,132,17,#v[295],128,129,
 #v[136,"table_list",351,352,353,55,1,133,134,135,354,355,137,18,#v[295],
 #v[143,"place_count",357,358,359,59,1,138,139,142,361,362,144,19,#v[295],140,141,
 (nat_lit 145,⟨.type "tuple",none,(.seq #[.int 0 366,.int 0 367] 0),#[]⟩)::
 (nat_lit 146,⟨.type "tuple",none,(.seq #[.int 0 368,.int 1 369] 0),#[]⟩)::
 (nat_lit 147,⟨.type "tuple",none,(.seq #[.int 1 370,.int 0 371] 0),#[]⟩)::
 (nat_lit 148,⟨.type "tuple",none,(.seq #[.int 1 372,.int 1 373] 0),#[]⟩)::
 (nat_lit 149,⟨.type "tuple",none,(.seq #[.ref 145,.ref 146,.ref 147,.ref 148] 0),#[]⟩)::
 #v[153,"first_of_kinds",375,376,377,66,3,150,151,152,378,379,154,22,#v[364],
 #v[160,"clash",381,382,383,73,1,155,156,159,390,391,161,23,#v[364],157,158,
 #v[167,"refuse_clash",393,394,395,82,1,162,163,166,398,399,168,24,#v[364],164,165,
 #v[174,"group_at",403,404,405,87,2,169,170,173,412,413,175,26,#v[401],171,172,
 #v[179,"turned",415,416,417,93,2,176,177,178,418,419,180,27,#v[401],
 #v[184,"grown",421,422,423,95,1,181,182,183,424,425,185,28,#v[401],
 #v[191,"tree",427,428,429,110,1,186,187,190,432,433,192,29,#v[401],188,189,
 #v[198,"is_telling",437,438,439,117,2,193,194,197,442,443,199,31,#v[435],195,196,
 #v[203,"are_tellings",445,446,447,123,2,200,201,202,448,449,204,32,#v[435],
 #v[210,"need_tellings",451,452,453,129,2,205,206,209,457,458,211,33,#v[435],207,208,
 #v[215,"that_read",460,461,462,135,2,212,213,214,463,464,216,34,#v[435],
 #v[229,"told_nodes",477,478,479,142,2,224,225,228,483,484,230,36,#v[435],226,227,
 #v[236,"stands",486,487,488,147,2,231,232,235,491,492,237,37,#v[435],233,234,
 #v[241,"unknown_places",494,495,496,150,3,238,239,240,497,498,242,38,#v[435],
 #v[246,"first_read",500,501,502,157,2,243,244,245,503,504,247,39,#v[435],
 #v[253,"_law_cell_at",508,509,510,164,2,248,249,252,513,514,254,41,#v[506],250,251,
 #v[267,"_law_mixed",523,524,525,170,2,262,263,266,528,529,268,43,#v[506],264,265,
 #v[272,"_law_owners",531,532,533,172,4,269,270,271,534,535,273,44,#v[506],
 #v[279,"_law_grown",537,538,539,191,2,274,275,278,549,550,280,45,#v[506],276,277,
 #v[284,"_law_nodes",552,553,554,203,5,281,282,283,555,556,285,46,#v[506],
 #v[291,"_law_name",558,559,560,213,2,286,287,290,565,566,292,47,#v[506],288,289,
 #v[296,"_law_copies",568,569,570,217,5,293,294,295,571,572,297,48,#v[506],
 #v[301,"_law_built",574,575,576,233,2,298,299,300,577,578,302,49,#v[506],
 #v[308,"_law_no_table",580,581,582,248,2,303,304,307,588,589,309,50,#v[506],305,306,
 #v[315,"_law_no_tellings",591,592,593,253,2,310,311,314,597,598,316,51,#v[506],312,313,
 #v[322,"_law_truths",600,601,602,258,3,317,318,321,608,609,323,52,#v[506],319,320,
 #v[329,"law",611,612,613,271,1,324,325,328,624,625,330,53,#v[506],326,327,
 []]]]]]]]]]]]]]]]]]]]]]]]]]]]]]]]]]]]]
abbrev B6:List Addr:=[2,3,23,24,40,41,43,44,62,63,74,75,86,87,95,96,100,101,107,108,112,113,119,120,124,125,131,132,136,137,143,144,145,146,147,148,149,153,154,160,161,167,168,174,175,179,180,184,185,191,192,198,199,203,204,210,211,215,216,229,230,236,237,241,242,246,247,253,254,267,268,272,273,279,280,284,285,291,292,296,297,301,302,308,309,315,316,322,323,329,330]
abbrev lhsB(k:PySem.W.Hook)(w:World):=(MX treeTable PySem.Challenge.pw_copykin_k63_refused_tellings w 4796).map (Dg k)
abbrev rhsB(k:PySem.W.Hook)(w:World):=some (Df k w)
def laidB:(seen lhsB&&seen rhsB)=true:=by k_qdec
def leftB(w:World):lhsB (kH K63.B5 K63.B6 (fun _=>by kernel_rfl) [134]) w=rhsB (kH K63.B5 K63.B6 (fun _=>by kernel_rfl) [134]) w:=by
 have _:=laidB;rw[PySem.W.Fast.te16606133349033318005]
 kernel_rfl
end K63
namespace L2
open PySem PySem.Spec PyProof.Rows
noncomputable abbrev Key:=Sum Int Str
abbrev wm:Key->Value->Bool
 |.inl k,v=>Value.isInt k v
 |.inr x,v=>Value.isStrOf x v
abbrev keyH(w:World):Key->Int
 |.inl k=>hashInt k
 |.inr x=>hashStr w x
def eV:∀{k:Key}{v:Value},wm k v=true->(∃i t,k=fq i/\v=w8 i t)\/(∃x t,k=fo x/\v=iP x t)
 |.inl i,v,h=>by obtain⟨t,e⟩:=Value.isInt_shape (k:=i) (v:=v) h;exact .inl ⟨i,t,rfl,e⟩
 |.inr x,v,h=>by obtain⟨t,e⟩:=Value.isStrOf_shape (x:=x) (v:=v) h;exact .inr ⟨x,t,rfl,e⟩
def HL(i:Int)(t:Tok):wm (.inl i) (.int i t)=true:=by simp[wm,Value.isInt]
def HK(x:Str)(t:Tok):wm (.inr x) (.str x t)=true:=by simp[wm,Value.isStrOf]
def key_ll(a b:Int):decide ((fq a:Key)=fq b)=(a==b):=by
 by_cases e:a=b;·subst e;simp
 ·have h:¬(fq a:Key)=fq b:=fun q=>e (fq.inj q);rw[decide_eq_false h];exact(beq_eq_false_iff_ne.mpr e).symm
def key_rr(a b:Str):decide ((fo a:Key)=fo b)=decide (a=b):=by
 by_cases e:a=b;·subst e;simp
 ·have h:¬(fo a:Key)=fo b:=fun q=>e (fo.inj q);rw[decide_eq_false h,decide_eq_false e]
def key_lr(a:Int)(b:Str):decide ((fq a:Key)=fo b)=false:=decide_eq_false (fun q=>nomatch q)
def key_rl(a:Str)(b:Int):decide ((fo a:Key)=fq b)=false:=decide_eq_false (fun q=>nomatch q)
abbrev bS(prog:Program)(w:World):PySem.KeyKind prog w Key where
 is:=wm
 hash:=keyH w
 inj:=fun v a b f d=>by
  rcases eV f with⟨i,t,rfl,rfl⟩ |⟨x,t,rfl,rfl⟩
  ·rcases eV d with⟨j,u,rfl,e⟩ |⟨y,u,rfl,e⟩;·injection e with e1 _;rw[e1]
   ·exact nomatch e
  ·rcases eV d with⟨j,u,rfl,e⟩ |⟨y,u,rfl,e⟩;·exact nomatch e
   ·injection e with e1 _;rw[e1]
 byValue:=fun k v h=>by rcases eV h with⟨i,t,rfl,rfl⟩ |⟨x,t,rfl,rfl⟩<;>rfl
 pyHash:=fun c h=>by
  rcases eV c with⟨i,t,rfl,rfl⟩ |⟨x,t,rfl,rfl⟩;·exact wpAny_pyHash_int h
  ·exact wpAny_pyHash_str h
 eqBool:=fun g c h=>by
  rcases eV g with⟨i,t,rfl,rfl⟩ |⟨x,t,rfl,rfl⟩
  ·rcases eV c with⟨j,u,rfl,rfl⟩ |⟨y,u,rfl,rfl⟩;·rw[key_ll]at h;exact qG h
   ·rw[key_lr]at h;exact De i t y u _ _ _ _ h
  ·rcases eV c with⟨j,u,rfl,rfl⟩ |⟨y,u,rfl,rfl⟩;·rw[key_rl]at h;exact Dd x t j u _ _ _ _ h
   ·rw[key_rr]at h;exact wpAny_eqBool_str h
 «strs»:=fun k x t v h=>by
  rcases eV h with⟨i,u,rfl,e⟩ |⟨y,u,rfl,e⟩;·exact nomatch e
  ·injection e with e1 _
   subst e1;cases v<;>rfl
theorem D7(prog:Program)(w:World)(k:Key)(v:Value):(bS prog w).is k v=wm k v:=rfl
def nV(prog:Program)(w:World)(i:Int)(t:Tok):(bS prog w).is (.inl i) (.int i t)=true:=HL i t
def BL(prog:Program)(w:World)(x:Str)(t:Tok):(bS prog w).is (.inr x) (.str x t)=true:=HK x t
inductive V where
 |non|bl (b:Bool) |int (i:Int) |str (x:Str) |byt (b:Array UInt8) |flt (b:UInt64) |ref (a:Addr) |ty (n:String)
 deriving DecidableEq
abbrev RelV:V->Value->Prop
 |.non,u=>u=bL
 |.bl b,u=>u=AG b
 |.int i,u=>∃t,u=w8 i t
 |.str x,u=>∃t,u=iP x t
 |.byt b,u=>∃t,u=Value.bytes b t
 |.flt b,u=>∃t,u=Value.float b t
 |.ref a,u=>u=bz a
 |.ty n,u=>u=lD n
noncomputable abbrev bG:List V->List Value->Prop:=Paired RelV
theorem bG.length{xs:List V}(r:bG xs us):xs.length=us.length:=mw r
theorem bG.get:∀{xs:List V}{us:List Value}{i:Nat}{x:V},bG xs us->xs[i]? =some x->∃u,us[i]? =some u/\RelV x u
 |_,_,_,_,.nil,e=>by simp at e
 |_,_,0,_,.cons r _,e=>by simp at e;subst e;exact⟨_,rfl,r⟩
 |_,_,i+1,x,.cons _ t,e=>by obtain⟨u,a,b⟩:=bG.get (i:=i) (x:=x) t (by simpa using e);exact⟨u,by simpa using a,b⟩
theorem bG.set{x:V}(r:RelV x u):∀{xs:List V}{us:List Value}(i:Nat),bG xs us->bG (xs.set i x) (us.set i u)
 |_,_,_,.nil=>.nil
 |_,_,0,.cons _ t=>.cons r t
 |_,_,i+1,.cons q t=>.cons q (bG.set r i t)
theorem bG.append:∀{xs ys:List V}{us ws:List Value},bG xs us->bG ys ws->bG (xs++ys) (us++ws)
 |_,_,_,_,.nil,s=>s
 |_,_,_,_,.cons r t,s=>.cons r (bG.append t s)
theorem bG.take:∀{xs:List V}{us:List Value}(n:Nat),bG xs us->bG (xs.take n) (us.take n)
 |_,_,0,_=>.nil
 |_,_,_+1,.nil=>.nil
 |_,_,n+1,.cons r t=>.cons r (bG.take n t)
theorem bG.drop:∀{xs:List V}{us:List Value}(n:Nat),bG xs us->bG (xs.drop n) (us.drop n)
 |_,_,0,r=>r
 |_,_,_+1,.nil=>.nil
 |_,_,n+1,.cons _ t=>bG.drop n t
abbrev tN:Option V->Option Value->Prop
 |some v,some u=>RelV v u
 |none,none=>True
 |_,_=>False
abbrev KV{κ:Type}:List (κ×V)->List (κ×Value)->Prop:=Paired fun(p:κ×V)(q:κ×Value)=>p.1=q.1/\RelV p.2 q.2
abbrev kV:Key->V
 |.inl i=>.int i
 |.inr x=>.str x
inductive HO where
 |lst (xs:List V)
 |tup (xs:List V)
 |dK (kvs:List (Key×V)) |dT (kvs:List (List Key×V))
 |set (S:Int->Bool) (n:Nat)
 |ins (C dx:Addr) (fs:List (Str×V))
 |own (x:Addr)
 |xd (fs:List (Str×V))
 |met (f x:Addr)
 |rng (lo hi:Int)
 |frz (o:Obj) (u:HO)
 |tbl (ps:Array Value)
 |ext (φ:Heap->Prop)
noncomputable abbrev Hp:=Addr->Option HO
abbrev upd(H:Hp)(a:Addr)(o:HO):Hp:=fun b=>if b=a then some o else H b
def aq{H:Hp}{o:HO}:upd H a o a=some o:=by unfold upd;rw[if_pos rfl]
def aW{H:Hp}{o:HO}(h:b≠a):upd H a o b=H b:=by unfold upd;rw[if_neg h]
def ne_of{H:Hp}{o u:HO}(h:H a=some o)(h':H b=some u)(d:o≠u):a≠b:=by intro e;subst e;rw[h]at h';exact d (bc h')
def bI{H:Hp}{o:HO}(h:H a=some o)(h':H b=none):a≠b:=by intro e;subst e;rw[h]at h';cases h'
section
variable(P:Program)(w:World)
abbrev dz(H:Hp)(h:Heap)(a:Addr):HO->Prop
 |.lst xs=>xs.length<=sizeLine/\∃(al:List Value)(n:Nat),bG xs al/\h.get? a=some {cls:=.type "list",data:=.seq al.toArray n}
 |.tup xs=>xs.length<=sizeLine/\∃al:List Value,bG xs al/\IsTup h a al.toArray
 |.dK kvs=>kvs.length<=sizeLine/\(a==d9)=false/\∃vs,KV kvs vs/\h.DictOf (bS P w) a vs
 |.dT kvs=>kvs.length<=sizeLine/\(a==d9)=false/\∃xs:List (List Key×Addr×Value),
   Paired (fun(p:List Key×V)(q:List Key×Addr×Value)=>p.1=q.1/\H q.2.1=some (.tup (p.1.map kV))/\RelV p.2 q.2.2) kvs xs/\
   ∃o es ep,h.get? a=some o/\o.ExactDict/\o.data=.dict es ep/\es.toList=xs.map (entryOfKey (qH (bS P w)))/\(xs.map (·.1)).Nodup
 |.set S n=>h.SetOf (intKind P w) a S n
 |.ins C dx fs=>H dx=some (.own a)/\fs.length<=1000/\dx≠a/\h.get? a=some (w9 C dx)/\
   ∃mA,h.Ns1 dx mA/\(∀f,tN (fs.lookup f) (mA f))/\kG mA (fs.map (·.1))
 |.own _=>∃o,h.get? a=some o
 |.xd fs=>∃mA,h.Ns1 a mA/\∀f,tN (fs.lookup f) (mA f)
 |.rng lo hi=>∃t u v,h.get? a=some {cls:=.type "range",data:=.fields #[.int lo t,.int hi u,.int 1 v]}
 |.frz o u=>h.get? a=some o/\dz H h a u
 |.tbl ps=>h.get? a=some {cls:=.none,data:=.fields ps}
 |.met f x=>h.get? a=some (tQ (.ref f) (.ref x))
 |.ext φ=>φ h/\(∃o,h.get? a=some o)/\∀h1 h2:Heap,φ h1->(∀o,h1.get? a=some o->h2.get? a=some o)->φ h2
def HOk(H:Hp)(h:Heap):Prop:=∀a o,H a=some o->dz P w H h a o
end
section
variable {H H':Hp}{a:Addr}{o:HO}
theorem dz.lt(x:dz P w H h a o):a<h.objs.size:=by
 cases o with
 |lst xs=>obtain⟨_,_,_,_,e⟩:=x;exact ay e
 |tup xs=>obtain⟨_,_,_,p⟩:=x;exact p.lt
 |dK kvs=>obtain⟨_,_,_,_,o,_,_,e,_⟩:=x;exact ay e
 |dT kvs=>obtain⟨_,_,_,_,o,_,_,e,_⟩:=x;exact ay e
 |set S n=>obtain⟨o,_,_,_,e,_⟩:=x;exact ay e
 |ins C dx fs=>obtain⟨_,_,_,e,_⟩:=x;exact ay e
 |own y=>obtain⟨_,e⟩:=x;exact ay e
 |xd fs=>obtain⟨_,⟨_,_,_,e,_⟩,_⟩:=x;exact ay e
 |rng lo hi=>obtain⟨_,_,_,e⟩:=x;exact ay e
 |frz ob u=>obtain⟨e,_⟩:=x;exact ay e
 |tbl ps=>exact ay (show h.get? a=some _ from x)
 |met f y=>exact ay (show h.get? a=some _ from x)
 |ext φ=>obtain⟨_,⟨_,e⟩,_⟩:=x;exact ay e
theorem Paired.rG{e g:Type}{F G:e->g->Prop}:∀{c:List e}{d:List g},Paired F c d->(∀a b,F a b->G a b)->Paired G c d
 |_,_,.nil,_=>.nil
 |_,_,.cons r t,f=>.cons (f _ _ r) (Paired.rG t f)
def dz.sR(x:dz P w H h a o)(k:∀b u,(b=a\/H b=some (.own a))->h.get? b=some u->h'.get? b=some u)
  (B:∀b,H b=some (.own a)->H' b=some (.own a))(D:∀b xs,H b=some (.tup xs)->H' b=some (.tup xs)):dz P w H' h' a o:=by
 induction o with
 |lst xs=>obtain⟨z,l,n,r,e⟩:=x;exact⟨z,l,n,r,k _ _ (.inl rfl) e⟩
 |tup xs=>obtain⟨z,l,r,g,e,c⟩:=x;exact⟨z,l,r,g,k _ _ (.inl rfl) e,c⟩
 |dK kvs=>obtain⟨z,y,E,r,g,j,i,e,c⟩:=x;exact⟨z,y,E,r,g,j,i,k _ _ (.inl rfl) e,c⟩
 |dT kvs=>obtain⟨z,y,xs,r,g,j,i,e,c⟩:=x;exact⟨z,y,xs,Paired.rG r fun p q z=>⟨z.1,D _ _ z.2.1,z.2.2⟩,g,j,i,k _ _ (.inl rfl) e,c⟩
 |set S n=>obtain⟨g,j,i,t,e,c⟩:=x;exact⟨g,j,i,t,k _ _ (.inl rfl) e,c⟩
 |ins C dx fs=>obtain⟨d,z,ne,e,m,⟨od,j,i,A,c⟩,r⟩:=x;exact⟨B _ d,z,ne,k _ _ (.inl rfl) e,m,⟨od,j,i,k _ _ (.inr d) A,c⟩,r⟩
 |own y=>obtain⟨g,e⟩:=x;exact⟨g,k _ _ (.inl rfl) e⟩
 |xd fs=>obtain⟨m,⟨od,j,i,e,c⟩,r⟩:=x;exact⟨m,⟨od,j,i,k _ _ (.inl rfl) e,c⟩,r⟩
 |rng lo hi=>obtain⟨t,u,v,e⟩:=x;exact⟨t,u,v,k _ _ (.inl rfl) e⟩
 |frz g u ih=>obtain⟨e,q⟩:=x;exact⟨k _ _ (.inl rfl) e,ih q⟩
 |tbl ps=>have e:h.get? a=some {cls:=.none,data:=.fields ps}:=x;show h'.get? a=some {cls:=.none,data:=.fields ps};exact k a _ (.inl rfl) e
 |met f y=>have e:h.get? a=some (tQ (.ref f) (.ref y)):=x;show h'.get? a=some (tQ (.ref f) (.ref y));exact k a _ (.inl rfl) e
 |ext φ=>obtain⟨p,⟨o,e⟩,s⟩:=x;exact⟨s _ _ p fun o q=>k _ _ (.inl rfl) q,⟨o,k _ _ (.inl rfl) e⟩,s⟩
theorem HOk.lt(x:HOk P w H h)(e:H a=some o):a<h.objs.size:=(x a o e).lt
def HOk.fresh(x:HOk P w H h)(e:h.objs.size<=a):H a=none:=by
 cases q:H a with
 |none=>rfl
 |some u=>exact absurd (aT (x.lt q) e) (dH _)
def HOk.kept(x:HOk P w H h)(k:∀b u,h.get? b=some u->h'.get? b=some u):HOk P w H h':=fun a o e=>
 (x a o e).sR (fun b u _ q=>k b u q) (fun _ q=>q) fun _ _ q=>q
def HOk.laid(x:HOk P w H h)(k:∀b u,h.get? b=some u->h'.get? b=some u)(hp:h.objs.size<=a)(f:dz P w (upd H a o) h' a o):HOk P w (upd H a o) h':=fun b u e=>by
 have d:=x.fresh hp;by_cases hb:b=a;·subst hb;rw[aq]at e;cases e;exact f
 ·rw[aW hb]at e;exact(x b u e).sR (fun c v _ q=>k c v q) (fun c q=>by rw[aW (bI q d)];exact q) fun c g q=>by rw[aW (bI q d)];exact q
end
def Rd(H:Hp)(a:Addr)(u:HO):Prop:=H a=some u\/∃o,H a=some (.frz o u)
def Rd.ok{H:Hp}{u:HO}(r:Rd H a u)(x:HOk P w H h):dz P w H h a u:=by
 rcases r with r|⟨o,r⟩;·exact x a u r
 ·obtain⟨_,q⟩:=x a _ r;exact q
abbrev Mut:Option HO->Prop
 |some (.lst _)=>True
 |some (.dK _)=>True
 |some (.dT _)=>True
 |some (.set _ _)=>True
 |some (.ins _ _ _)=>True
 |some (.ext _)=>True
 |_=>False
section
variable {H:Hp}{x e:Addr}{o':HO}
def HOk.write(ok:HOk P w H h)(a:Mut (H x))(f:e=x\/H e=some (.own x))(k:∀b u,b≠e->h.get? b=some u->h'.get? b=some u)(j:∃u,h'.get? e=some u)
  (m:dz P w (upd H x o') h' x o'):HOk P w (upd H x o') h':=fun b u q=>by
 have g:∀c y,H c=some (.own y)->c≠x:=fun c y r z=>by subst z;rw[r]at a;exact a
 have n:∀c d,H c=some (.tup d)->c≠x:=fun c d r z=>by subst z;rw[r]at a;exact a
 by_cases hb:b=x;·subst hb;rw[aq]at q;cases q;exact m
 ·rw[aW hb]at q;by_cases hbe:b=e
  ·have i:H b=some (.own x):=by
    rcases f with z|z;·exact absurd (hbe.trans z) hb
    ·rw[hbe];exact z
   rw[q]at i;cases i;obtain⟨v,l⟩:=j;exact⟨v,by rw[hbe];exact l⟩
  ·refine(ok b u q).sR (fun c v hc r=>k c v ?_ r) (fun c r=>by rw[aW (g c b r)];exact r) fun c d r=>by rw[aW (n c d r)];exact r
   rcases hc with rfl|hc;·exact hbe
   ·rintro rfl;rcases f with z|z;·exact g c b hc z
    ·rw[hc]at z;cases z;exact hb rfl
end
structure Un(fs ex:List Addr)(H H':Hp)(h h':Heap):Prop where
 keep:∀b o,h.get? b=some o->H b=none->b∉fs->b∉ex->h'.get? b=some o
 slot:∀b o,h.get? b=some o->H b=none->b∈fs->b∉ex->∃sl,h'.get? b=some {o with slots:=sl}
 free:∀b o,h.get? b=some o->H b=none->b∉ex->H' b=none
 there:∀b o,h.get? b=some o->b∉ex->∃o',h'.get? b=some o'
 tups:∀b xs,H b=some (.tup xs)->H' b=some (.tup xs)
 frzs:∀b o u,H b=some (.frz o u)->H' b=some (.frz o u)
 tbls:∀b ps,H b=some (.tbl ps)->∃more,H' b=some (.tbl (ps++more))
section
variable {fs fs' ex ex':List Addr}{H H1 H2:Hp}{h2:Heap}{a x e:Addr}{o:HO}
def Un.any(u:Un fs ex H H1 h h1){ob:Obj}(q:h.get? b=some ob)(n:H b=none)(a:b∉ex):∃sl,h1.get? b=some {ob with slots:=sl}:=by
 by_cases hb:b∈fs;·exact u.slot b ob q n hb a
 ·exact⟨ob.slots,u.keep b ob q n hb a⟩
def Un.kept(k:∀b u,h.get? b=some u->h'.get? b=some u):Un fs ex H H h h':=
 ⟨fun b a q _ _ _=>k b a q,fun b a q _ _ _=>⟨a.slots,k b a q⟩,fun _ _ _ n _=>n,fun b a q _=>⟨a,k b a q⟩,fun _ _ q=>q,fun _ _ _ q=>q,fun _ c q=>⟨#[],by rw[q];simp⟩⟩
def Un.refl:Un fs ex H H h h:=Un.kept fun _ _ q=>q
def Un.laid(k:∀b u,h.get? b=some u->h'.get? b=some u)(hp:h.objs.size<=a)(c:H a=none):Un fs ex H (upd H a o) h h' where
 keep:=fun b u q _ _ _=>k b u q
 slot:=fun b u q _ _ _=>⟨u.slots,k b u q⟩
 free:=fun b u q n _=>by rw[aW (aK (aT (ay q) hp))];exact n
 there:=fun b u q _=>⟨u,k b u q⟩
 tups:=fun b d q=>by rw[aW (bI q c)];exact q
 frzs:=fun b u d q=>by rw[aW (bI q c)];exact q
 tbls:=fun b e q=>⟨#[],by rw[aW (bI q c),q];simp⟩
def Un.write(a:Mut (H x))(g:e=x\/H e=some (.own x))(k:∀b u,b≠e->h.get? b=some u->h'.get? b=some u)(i:∃u,h'.get? e=some u):Un fs ex H (upd H x o) h h':=by
 have f:∀b,H b=none->b≠x:=fun b n z=>by subst z;rw[n]at a;exact a
 have d:∀b,H b=none->b≠e:=fun b n z=>by
  subst z;rcases g with r|r;·exact f b n r
  ·rw[n]at r;cases r
 have c:∀b u,H b=some u->¬Mut (some u)->b≠x:=fun b u q j z=>by subst z;rw[q]at a;exact j a
 refine⟨fun b u q n _ _=>k b u (d b n) q,fun b u q n _ _=>⟨u.slots,k b u (d b n) q⟩,fun b u q n _=>by rw[aW (f b n)];exact n,fun b u q _=>?_,
  fun b l q=>by rw[aW (c b _ q fun z=>z)];exact q,fun b u l q=>by rw[aW (c b _ q fun z=>z)];exact q,fun b m q=>⟨#[],by rw[aW (c b _ q fun z=>z),q];simp⟩⟩
 by_cases hbe:b=e;·subst hbe;exact i
 ·exact⟨u,k b u hbe q⟩
end
abbrev trk(h:Heap)(H:Hp):List Addr:=(aE h.objs.size).filter fun a=>(H a).isSome
abbrev B3(h:Heap)(H:Hp):Heap:=PySem.W.hideAll h (trk h H)
def HU(h:Heap)(H:Hp):(B3 h H).objs.size=h.objs.size:=PySem.W.hideAll_size _ _
def wt{H:Hp}{o:Obj}(e:h.get? b=some o)(n:H b=none):(B3 h H).get? b=some o:=
 PySem.W.hideAll_get _ e fun a=>by have q:(H b).isSome=true:=(iM.mp a).2;rw[n]at q;simp at q
def of_hidT{H:Hp}{o:Obj}(e:(B3 h H).get? b=some o):h.get? b=some o/\H b=none:=by
 have a:h.get? b=some o:=PySem.W.of_hideAll (trk h H) e;refine⟨a,?_⟩;cases q:H b with
 |none=>rfl
 |some x=>have c:b∈trk h H:=iM.mpr ⟨bp.mpr (ay a),by simp[q]⟩;have z:(B3 h H).get? b=none:=PySem.W.hideAll_none (trk h H) c;rw[z]at e;cases e
structure Mod(K:ah)(mg:Str->Option Value)(base:Heap):Prop where
 kin:K.In base
 glob:base.Ns bu mg
 blt:∃mb,base.Ns nr mb/\∀x:Str,x≠"__name__"->mb x=fJ x
 nolimit:base.NoLimit
structure Cx where
 prog:Program
 w:World
 K:ah
 mg:Str->Option Value
 base:Heap
 A:Around
 N:List Str
 s₀:Shared
 H₀:Hp
 env:Env
 outer:List Env
 stack:List Env
 ex:List Addr
 fn:Str->Bool
 calm:Bool
 pn:List (Addr×Obj)
 xe:Value->Shared->Prop
abbrev frs(l:List Env):List Addr:=l.filterMap (·.frame)
noncomputable abbrev Cx.fs(X:Cx):List Addr:=frs X.outer
def Vis(sc:Scope)(x:Str):Prop:=sc.names.lookup x=some .local\/sc.names.lookup x=some .cell\/sc.names.lookup x=some .free
def Loc(sc:Scope)(x:Str):Prop:=sc.names.lookup x=some .local\/sc.names.lookup x=some .cell
def Look(env:Env)(h:Heap)(m:Str->Option Value)(x:Str)(u:Value):Prop:=
 (env.kindOf x=some .local/\m x=some u)\/((env.kindOf x=some .cell\/env.kindOf x=some .free)/\∃c,env.cells.lookup x=some c/\h.IsCell c (some u))
structure Cx.Ok(X:Cx):Prop where
 mod:Mod X.K X.mg X.base
 kind:X.env.scope.kind=.function
 glob:X.env.globals=bu
 blt:X.env.builtins=nr
 above:X.s₀.heap.objs.size<=X.env.locals
 inj:∀x y c,X.env.cells.lookup x=some c->X.env.cells.lookup y=some c->x=y
 has:∀x,(X.env.kindOf x=some .cell\/X.env.kindOf x=some .free)->∃c,X.env.cells.lookup x=some c
 cab:∀x c,X.fn x=true->X.env.cells.lookup x=some c->X.s₀.heap.objs.size<=c
 hd:X.calm=true->X.A.handled=none
 frames:X.A.frames=some X.stack
 stk:X.stack=X.outer\/(X.stack=X.env::X.outer/\X.env.frame=some X.env.locals)
 exf:∀b∈X.ex,b≠X.env.locals/\∀x c,X.env.cells.lookup x=some c->c≠b
 bs:∀b o,X.base.get? b=some o->X.s₀.heap.get? b=some o/\X.H₀ b=none
 bsz:X.base.objs.size<=X.s₀.heap.objs.size
 noex:∀b o,X.base.get? b=some o->b∉X.ex
 exfs:∀b∈X.ex,b∉X.fs
 wx:X.s₀.heap.FunFrames X.base X.outer
 frf:∀b∈X.fs,X.H₀ b=none
structure Inv(X:Cx)(pins:List (Addr×Obj))(σ:List (Option V))(H:Hp)(s:Shared):Prop where
 ok:X.Ok
 os:s.os=X.s₀.os
 bare:pJ s.gens
 base:Un X.fs X.ex X.H₀ H X.s₀.heap s.heap
 loc:∃m,s.heap.Ns X.env.locals m/\∀(i:Nat)(x:Str)(v:V),X.N[i]? =some x->σ[i]? =some (some v)->Vis X.env.scope x->∃u,RelV v u/\Look X.env s.heap m x u
 cell:∀x c,X.env.cells.lookup x=some c->∃v,s.heap.IsCell c v
 free:H X.env.locals=none
 freeC:∀x c,X.env.cells.lookup x=some c->H c=none
 pin:∀p∈X.pn++pins,s.heap.get? p.1=some p.2/\H p.1=none/\p.1≠X.env.locals/\p.1∉X.fs/\∀v,p.2.data≠.cell v
 hok:HOk X.prog X.w H s.heap
 len:σ.length=X.N.length
section
variable {X:Cx}{pins:List (Addr×Obj)}{σ:List (Option V)}{H H':Hp}{s:Shared}
def Cx.Ok.nofr(ok:X.Ok){o:Obj}(e:X.base.get? b=some o):b∉X.fs:=fun a=>by have :=(ok.wx.mem a).1;rw[e]at this;cases this
theorem Inv.bs(I:Inv X pins σ H s):∀b o,X.base.get? b=some o->s.heap.get? b=some o/\H b=none:=fun b o e=>
 ⟨I.base.keep b o (I.ok.bs b o e).1 (I.ok.bs b o e).2 (I.ok.nofr e) (I.ok.noex b o e),I.base.free b o (I.ok.bs b o e).1 (I.ok.bs b o e).2 (I.ok.noex b o e)⟩
def Inv.bk(I:Inv X pins σ H s):∀b o,X.base.get? b=some o->s.heap.get? b=some o:=fun b o e=>(I.bs b o e).1
theorem Inv.mod(I:Inv X pins σ H s):Mod X.K X.mg X.base:=I.ok.mod
def Inv.kIn(I:Inv X pins σ H s):X.K.In s.heap:=I.ok.mod.kin.keeps I.bk
theorem Inv.nolimit(I:Inv X pins σ H s):s.heap.NoLimit:=I.ok.mod.nolimit.keeps I.bk
theorem Inv.lt(I:Inv X pins σ H s):X.env.locals<s.heap.objs.size:=let⟨_,hn,_⟩:=I.loc;hn.lt
def Inv.sz(I:Inv X pins σ H s):X.s₀.heap.objs.size<=s.heap.objs.size:=aF I.ok.above (lE I.lt)
def Inv.nofs(I:Inv X pins σ H s)(h:s.heap.objs.size<=a):a∉X.fs:=fun b=>by obtain⟨_,o,c,_⟩:=I.ok.wx.mem b;exact absurd (aT (ay c) (aF I.sz h)) (dH _)
def Inv.cne(I:Inv X pins σ H s):∀x c,X.env.cells.lookup x=some c->c≠X.env.locals:=fun x c e z=>by obtain⟨v,o,b,a⟩:=I.cell x c e;obtain⟨m,⟨i,h,g,f,d,_⟩,_⟩:=I.loc;rw[z,f]at b;cases b;rw[d]at a;cases a
theorem Inv.wx(I:Inv X pins σ H s):s.heap.FunFrames X.base X.outer:=by
 have all:∀(l:List Env),(∀b∈frs l,b∈X.fs)->X.s₀.heap.FunFrames X.base l->s.heap.FunFrames X.base l:=by
  intro l
  induction l with
  |nil=>intro _ _;trivial
  |cons env r ih=>intro d h;obtain⟨g,⟨L,o,hf,i,j,f⟩,k⟩:=h;have a:L∈X.fs:=d L (by unfold frs;rw[sN,hf];exact aL);obtain⟨m,e⟩:=I.base.slot L o j (I.ok.frf L a) a fun z=>I.ok.exfs L z a;exact⟨g,⟨L,_,hf,i,e,f⟩,ih (fun b c=>d b (by unfold frs;rw[sN,hf];exact aD _ c)) k⟩
 exact all X.outer (fun _ c=>c) I.ok.wx
theorem Inv.stack(I:Inv X pins σ H s):s.heap.FunFrames X.base X.stack:=by
 rcases I.ok.stk with e|⟨e,hf⟩;·rw[e];exact I.wx
 ·rw[e];obtain⟨m,a,_⟩:=I.loc;refine .cons (by rw[I.ok.kind];decide) hf a ?_ I.wx;exact qN (aF I.ok.bsz I.ok.above)
def Inv.DA(I:Inv X pins σ H s):∀b∈frs X.stack,b∈X.env.locals::X.fs:=fun b a=>by
 rcases I.ok.stk with e|⟨e,hf⟩;·rw[e]at a;exact aD _ a
 ·rw[e]at a;unfold frs at a;rw[sN,hf]at a;exact a
def Inv.y6(I:Inv X pins σ H s):∀b∈frs X.stack,H b=none:=fun b hb=>by
 rcases aG.mp (I.DA b hb)with e|hb;·rw[e];exact I.free
 ·obtain⟨_,o,a,_⟩:=I.ok.wx.mem hb;exact I.base.free b o a (I.ok.frf b hb) fun z=>I.ok.exfs b z hb
def Inv.step{g':Array lF}{d':Drawn}(I:Inv X pins σ H s)
  (t:∀b∈ch,(b∈X.ex\/X.s₀.heap.objs.size<=b)/\b≠X.env.locals/\(∀x c,X.env.cells.lookup x=some c->c≠b)/\∀p∈X.pn++pins,p.1≠b)
  (B:∀b o,b≠X.env.locals->b∉X.fs->b∉ch->s.heap.get? b=some o->H b=none->h'.get? b=some o)
  (slot:∀b o,b≠X.env.locals->b∈X.fs->b∉ch->s.heap.get? b=some o->H b=none->∃sl,h'.get? b=some {o with slots:=sl}) (free:∀b o,b∉ch->s.heap.get? b=some o->H b=none->H' b=none)
  (R:∀b o,b∉ch->s.heap.get? b=some o->∃o',h'.get? b=some o')
  (S:∀b xs,H b=some (.tup xs)->H' b=some (.tup xs)) (F:∀b o u,H b=some (.frz o u)->H' b=some (.frz o u)) (Q:∀b ps,H b=some (.tbl ps)->∃more,H' b=some (.tbl (ps++more)))
  (O:∀m,s.heap.Ns X.env.locals m->h'.Ns X.env.locals m) (L:HOk X.prog X.w H' h') (G:pJ g'):
  Inv X pins σ H' {s with heap:=h',gens:=g',drawn:=d',toks:=t'}:=by
 have neL:∀b o,X.s₀.heap.get? b=some o->b≠X.env.locals:=fun b o e=>aK (aT (ay e) I.ok.above);have y:∀b o,X.s₀.heap.get? b=some o->b∉X.ex->b∉ch:=fun b o e a g=>by
  rcases(t b g).1 with z|z;·exact a z
  ·exact absurd (aT (ay e) z) (dH _)
 have C:∀x c,X.env.cells.lookup x=some c->∀v,s.heap.IsCell c v->h'.IsCell c v:=fun x c e v ⟨o,h,A⟩=>by
  have w:c∉ch:=fun z=>(t c z).2.2.1 x c e rfl;by_cases hc:c∈X.fs;·obtain⟨sl,q⟩:=slot c o (I.cne x c e) hc w h (I.freeC x c e);exact⟨_,q,A⟩
  ·exact⟨o,B c o (I.cne x c e) hc w h (I.freeC x c e),A⟩
 refine⟨I.ok,I.os,G,⟨fun b o e n g a=>?_,fun b o e n g a=>?_,fun b o e n a=>?_,fun b o e a=>?_,fun b xs e=>S b xs (I.base.tups b xs e),fun b o xs e=>F b o xs (I.base.frzs b o xs e),fun b ps e=>?_⟩,?_,fun x c e=>?_,?_,fun x c e=>?_,fun p hp=>?_,L,I.len⟩;·exact B b o (neL b o e) g (y b o e a) (I.base.keep b o e n g a) (I.base.free b o e n a)
 ·obtain⟨sl,f⟩:=I.base.slot b o e n g a;obtain⟨P,j⟩:=slot b _ (neL b o e) g (y b o e a) f (I.base.free b o e n a);exact⟨P,j⟩
 ·obtain⟨o',f⟩:=I.base.there b o e a;exact free b o' (y b o e a) f (I.base.free b o e n a)
 ·obtain⟨o',f⟩:=I.base.there b o e a;exact R b o' (y b o e a) f
 ·obtain⟨M,f⟩:=I.base.tbls b ps e;obtain⟨N,j⟩:=Q b _ f;exact⟨M++N,by rw[j,Array.append_assoc]⟩
 ·obtain⟨m,K,J⟩:=I.loc;refine⟨m,O m K,fun i x v f j E=>?_⟩;obtain⟨u,r,l⟩:=J i x v f j E;refine⟨u,r,?_⟩;rcases l with l|⟨k,c,e,z⟩;·exact .inl l
  ·exact .inr ⟨k,c,e,C x c e _ z⟩
 ·obtain⟨v,z⟩:=I.cell x c e;exact⟨v,C x c e v z⟩
 ·obtain⟨m,⟨o,_,_,h,_⟩,_⟩:=I.loc;exact free _ o (fun z=>(t _ z).2.1 rfl) h I.free
 ·obtain⟨v,o,h,A⟩:=I.cell x c e;exact free c o (fun z=>(t c z).2.2.1 x c e rfl) h (I.freeC x c e)
 ·obtain⟨e,n,ne,D,d⟩:=I.pin p hp;have w:p.1∉ch:=fun z=>(t p.1 z).2.2.2 p hp rfl;exact⟨B p.1 p.2 ne D w e n,free p.1 p.2 w e n,ne,D,d⟩
def Inv.un(I:Inv X pins σ H s)(u:Un X.fs [] H H' s.heap h')(j:HOk X.prog X.w H' h'):Inv X pins σ H' {s with heap:=h',toks:=t'}:=by obtain⟨m,⟨o,p,l,c,r⟩,_⟩:=id I.loc;obtain⟨v,h⟩:=u.any c I.free (by simp);exact I.step (g':=s.gens) (d':=s.drawn) (ch:=[]) (fun _ z=>nomatch z) (fun b o _ a _ e n=>u.keep b o e n a (by simp)) (fun b o _ a _ e n=>u.slot b o e n a (by simp)) (fun b o _ e n=>u.free b o e n (by simp)) (fun b o _ e=>u.there b o e (by simp)) u.tups u.frzs u.tbls (fun q i=>by obtain⟨t,g,f,d,k⟩:=i;rw[c]at d;cases d;exact⟨_,g,f,h,k⟩) j I.bare
def Inv.call{g':Array lF}{d':Drawn}(I:Inv X pins σ H s)(u:Un (frs X.stack) ch H H' s.heap h')(t:HOk X.prog X.w H' h')(l:pJ g')
  (f:∀b∈ch,(b∈X.ex\/X.s₀.heap.objs.size<=b)/\b≠X.env.locals/\(∀x c,X.env.cells.lookup x=some c->c≠b)/\∀p∈X.pn++pins,p.1≠b):
  Inv X pins σ H' {s with heap:=h',gens:=g',drawn:=d',toks:=t'}:=by
 obtain⟨m,⟨o,y,w,g,r⟩,_⟩:=id I.loc;obtain⟨C,d⟩:=u.any g I.free fun z=>(f _ z).2.1 rfl;exact I.step (ch:=ch) f (fun b o d k a e n=>u.keep b o e n (fun z=>(aG.mp (I.DA b z)).elim d k) a) (fun b o _ _ a e n=>u.any e n a) (fun b o a e n=>u.free b o e n a) (fun b o a e=>u.there b o e a) u.tups u.frzs u.tbls (fun A q=>by obtain⟨B,j,i,h,v⟩:=q;rw[g]at h;cases h;exact⟨_,j,i,d,v⟩) t l
def Inv.turned(I:Inv X pins σ H s)(k:∀b o,b≠it->s.heap.get? b=some o->h'.get? b=some o)(y:H it=none)(d:it≠X.env.locals)
  (i:it∈X.ex\/X.s₀.heap.objs.size<=it)(j:∀x c,X.env.cells.lookup x=some c->c≠it)(l:∀p∈X.pn++pins,p.1≠it):Inv X pins σ H {s with heap:=h',toks:=t'}:=by
 have f:∀b u,H b=some u->b≠it:=fun b u e z=>by rw[z,y]at e;cases e
 refine I.step (g':=s.gens) (d':=s.drawn) (ch:=[it]) (fun b t=>?_) (fun b o _ _ a e _=>k b o (fun z=>a (by simp[z])) e) (fun b o _ _ a e _=>⟨o.slots,k b o (fun z=>a (by simp[z])) e⟩) (fun _ _ _ _ n=>n)
  (fun b o a e=>⟨o,k b o (fun z=>a (by simp[z])) e⟩) (fun _ _ e=>e) (fun _ _ _ e=>e) (fun b B e=>⟨#[],by rw[e];simp⟩) (fun m w=>?_) (fun b u e=>?_) I.bare
 ·have e:b=it:=by simpa using t
  subst e;exact⟨i,d,j,l⟩
 ·obtain⟨o,h,g,A,r⟩:=w;exact⟨o,h,g,k _ o (bE d) A,r⟩
 ·refine(I.hok b u e).sR (fun c v a q=>k c v ?_ q) (fun _ q=>q) fun _ _ q=>q;rcases a with z|z;·rw[z];exact f b u e
  ·exact f c _ z
def Inv.tok(I:Inv X pins σ H s)(t:Nat):Inv X pins σ H {s with toks:=t}:=I.un (h':=s.heap) (t':=t) Un.refl I.hok
theorem Inv.kept(I:Inv X pins σ H s)(k:∀b u,s.heap.get? b=some u->h'.get? b=some u):Inv X pins σ H {s with heap:=h',toks:=t'}:=I.un (Un.kept k) (I.hok.kept k)
theorem Inv.laid{o:HO}(I:Inv X pins σ H s)(k:∀b u,s.heap.get? b=some u->h'.get? b=some u)(hp:s.heap.objs.size<=a)(c:dz X.prog X.w (upd H a o) h' a o):
  Inv X pins σ (upd H a o) {s with heap:=h',toks:=t'}:=I.un (Un.laid k hp (I.hok.fresh hp)) (I.hok.laid k hp c)
theorem Inv.write{x e:Addr}{o:HO}(I:Inv X pins σ H s)(d:Mut (H x))(a:e=x\/H e=some (.own x))(k:∀b u,b≠e->s.heap.get? b=some u->h'.get? b=some u)(c:∃u,h'.get? e=some u)
  (f:dz X.prog X.w (upd H x o) h' x o):Inv X pins σ (upd H x o) {s with heap:=h',toks:=t'}:=I.un (Un.write d a k c) (I.hok.write d a k c f)
def Inv.zw(I:Inv X pins σ H s)(h:∀p∈pins',s.heap.get? p.1=some p.2/\H p.1=none/\p.1≠X.env.locals/\p.1∉X.fs/\∀v,p.2.data≠.cell v):Inv X pins' σ H s:=
 ⟨I.ok,I.os,I.bare,I.base,I.loc,I.cell,I.free,I.freeC,fun p hp=>(cV.mp hp).elim (fun z=>I.pin p (cz _ z)) (h p),I.hok,I.len⟩
def vR(e:N.Nodup){x:Str}(a:N[i]? =some x)(b:N[j]? =some x):i=j:=by obtain⟨f,c⟩:=aH.mp a;obtain⟨g,d⟩:=aH.mp b;exact(fL e).mp (c.trans d.symm)
def G2{M:Model}{x:Str}{v:V}{Q:Unit->Shared->Prop}(I:Inv X pins σ H s)(R:X.N.Nodup)(hi:X.N[i]? =some x)(l:Loc X.env.scope x)(r:RelV v u)
  (h:∀s',Inv X pins (σ.set i (some v)) H s'->(∃a,dm a s.heap s'.heap/\(a=X.env.locals\/X.env.cells.lookup x=some a))->Q () s')(hf:X.fn x=true\/X.env.scope.names.lookup x=some .local:=by first |exact .inl rfl|exact .inr rfl|assumption):wpAny M A (storeName X.env x u) Q E s:=by
 obtain⟨a5,G,W⟩:=id I.loc;have a1:(X.env.scope.kind== .class||(X.env.scope.kind== .module&&X.env.locals != X.env.globals))=false:=by rw[I.ok.kind];rfl
 have U:i<σ.length:=by rw[I.len];exact(aH.mp hi).1
 have cne:=I.cne;have a0:∀{a:Addr}{w:Heap},(∃o,s.heap.get? a=some o/\H a=none)->dm a s.heap w->HOk X.prog X.w H w:=fun{a w} ha f b ob e=>by
  obtain⟨_,_,T⟩:=ha;refine(I.hok b ob e).sR (fun c C hc q=>(f.2 c ?_).trans q) (fun _ q=>q) fun _ _ q=>q;rintro rfl;rcases hc with rfl|hc;·rw[T]at e;cases e
  ·rw[T]at hc;cases hc
 rcases l with hk|hk
 ·refine wpAny_storeName_local hk G (fun w a2 f=>?_) a1;obtain⟨oL,_,_,a3,_⟩:=id G;refine h _ ⟨I.ok,I.os,I.bare,⟨fun b o e n t l=>?_,fun b o e n t l=>?_,I.base.free,fun b o e l=>?_,I.base.tups,I.base.frzs,I.base.tbls⟩,⟨_,a2,fun j y P g m D=>?_⟩,fun y c e=>?_,I.free,I.freeC,fun p hp=>?_,a0 ⟨oL,a3,I.free⟩ f,by simpa using I.len⟩ ⟨_,f,.inl rfl⟩;·exact(f.2 b (aK (aT (ay e) I.ok.above))).trans (I.base.keep b o e n t l)
  ·obtain⟨N,g⟩:=I.base.slot b o e n t l;exact⟨N,(f.2 b (aK (aT (ay e) I.ok.above))).trans g⟩
  ·obtain⟨K,g⟩:=I.base.there b o e l;exact⟨K,(f.2 b (aK (aT (ay e) I.ok.above))).trans g⟩
  ·by_cases hj:j=i;·subst hj;rw[hi]at g;cases g;rw[GL U]at m;cases m;exact⟨u,r,.inl ⟨hk,by simp⟩⟩
   ·rw[qM (bE hj)]at m;obtain⟨O,L,q⟩:=W j y P g m D;refine⟨O,L,?_⟩;rcases q with⟨k,e⟩ |⟨k,c,e,z⟩;·refine .inl ⟨k,?_⟩;have :y≠x:=fun e=>hj (vR R g (e▸hi));simp[this,e]
    ·exact .inr ⟨k,c,e,z.sameBut f (cne y c e)⟩
  ·obtain⟨C,z⟩:=I.cell y c e;exact⟨C,z.sameBut f (cne y c e)⟩
  ·obtain⟨e,n,ne,J,d⟩:=I.pin p hp;exact⟨(f.2 p.1 ne).trans e,n,ne,J,d⟩
 ·have F:X.fn x=true:=by
   rcases hf with z|z;·exact z
   ·rw[z]at hk;cases hk
  obtain⟨c,hc⟩:=I.ok.has x (.inl hk);obtain⟨C,z⟩:=I.cell x c hc;refine wpAny_storeName_cell I.ok.kind hk hc z (fun w S f=>?_);obtain⟨Z,Y,a4⟩:=id z;refine h {s with heap:=w} ⟨I.ok,I.os,I.bare,⟨fun b o e n t l=>?_,fun b o e n t l=>?_,I.base.free,fun b o e l=>?_,I.base.tups,I.base.frzs,I.base.tbls⟩,⟨a5,G.sameBut f (bE (cne x c hc)),fun j y P g m D=>?_⟩,fun y B e=>?_,I.free,I.freeC,fun p hp=>?_,a0 ⟨Z,Y,I.freeC x c hc⟩ f,by simpa using I.len⟩ ⟨c,f,.inr hc⟩;·exact(f.2 b (aK (aT (ay e) (I.ok.cab x c F hc)))).trans (I.base.keep b o e n t l)
  ·obtain⟨N,g⟩:=I.base.slot b o e n t l;exact⟨N,(f.2 b (aK (aT (ay e) (I.ok.cab x c F hc)))).trans g⟩
  ·obtain⟨K,g⟩:=I.base.there b o e l;exact⟨K,(f.2 b (aK (aT (ay e) (I.ok.cab x c F hc)))).trans g⟩
  ·by_cases hj:j=i;·subst hj;rw[hi]at g;cases g;rw[GL U]at m;cases m;exact⟨u,r,.inr ⟨.inl hk,c,hc,S⟩⟩
   ·rw[qM (bE hj)]at m;obtain⟨O,L,q⟩:=W j y P g m D;refine⟨O,L,?_⟩;rcases q with q|⟨k,B,e,z'⟩;·exact .inl q
    ·refine .inr ⟨k,B,e,z'.sameBut f ?_⟩;rintro rfl;exact hj (vR R g (I.ok.inj _ _ _ e hc▸hi))
  ·by_cases hcc:B=c;·subst hcc;exact⟨_,S⟩
   ·obtain⟨w2,z2⟩:=I.cell y B e;exact⟨w2,z2.sameBut f hcc⟩
  ·obtain⟨e,n,ne,J,d⟩:=I.pin p hp;refine⟨(f.2 p.1 ?_).trans e,n,ne,J,d⟩;intro q;rw[q,Y]at e;have q':Z=p.2:=bc e;exact d C (by rw[<-q'];exact a4)
def vq{M:Model}{x:Str}{v:V}{Q:Unit->Shared->Prop}(I:Inv X pins σ H s)(b:X.N.Nodup)(hi:X.N[i]? =some x)(c:Loc X.env.scope x)(r:RelV v u)
  (h:∀s',Inv X pins (σ.set i (some v)) H s'->Q () s')(hf:X.fn x=true\/X.env.scope.names.lookup x=some .local:=by first |exact .inl rfl|exact .inr rfl|assumption):wpAny M A (storeName X.env x u) Q E s:=
 G2 I b hi c r (fun s' a _=>h s' a) hf
def Inv.call'(I:Inv X pins σ H s)(f:s'.os=s.os)(u:Un (frs X.stack) ch H H' s.heap s'.heap)(g:HOk X.prog X.w H' s'.heap)(d:pJ s'.gens)
  (a:∀b∈ch,(b∈X.ex\/X.s₀.heap.objs.size<=b)/\b≠X.env.locals/\(∀x c,X.env.cells.lookup x=some c->c≠b)/\∀p∈X.pn++pins,p.1≠b):Inv X pins σ H' s':=by
 obtain⟨i,g',d',t',h⟩:=s';have e:h=s.os:=f;subst e;exact I.call (g':=g') (t':=t') (d':=d') u g d a
end
noncomputable abbrev XK:=Value->Option Addr->Hp->Prop
noncomputable abbrev St:=List (Option V)
noncomputable abbrev VK:=V->Hp->Prop
noncomputable abbrev TE:=St->Hp->VK->Prop
noncomputable abbrev TT:=St->Hp->(Bool->Hp->Prop)->Prop
noncomputable abbrev TA:=St->Hp->(List V->Hp->Prop)->Prop
structure Ends where
 nx:St->Hp->Prop
 rt:VK
 bk:St->Hp->Prop:=fun _ _=>False
 ct:St->Hp->Prop:=fun _ _=>False
noncomputable abbrev TS:=Ends->St->Hp->Prop
def EP(X:Cx)(pins:List (Addr×Obj))(σ:St)(Q:VK)(u:Value)(s':Shared):Prop:=∃v H',Inv X pins σ H' s'/\RelV v u/\Q v H'
def TP(X:Cx)(pins:List (Addr×Obj))(σ:St)(Q:Bool->Hp->Prop)(b:Bool)(s':Shared):Prop:=∃H',Inv X pins σ H' s'/\Q b H'
def AP(X:Cx)(pins:List (Addr×Obj))(σ:St)(Q:List V->Hp->Prop)(us:List Value)(s':Shared):Prop:=∃vs H',Inv X pins σ H' s'/\bG vs us/\Q vs H'
def SP(X:Cx)(pins:List (Addr×Obj))(D:Ends)(f:Flow)(s':Shared):Prop:=
 match f with
 |.next=>∃a H',Inv X pins a H' s'/\D.nx a H'
 |.brk=>∃a H',Inv X pins a H' s'/\D.bk a H'
 |.cont=>∃a H',Inv X pins a H' s'/\D.ct a H'
 |.ret u=>∃v a H',Inv X pins a H' s'/\RelV v u/\D.rt v H'
def PE(X:Cx)(e:Expr)(t:TE):Prop:=
 ∀(pins:List (Addr×Obj))(s:Shared)(σ:St)(H:Hp)(Q:VK),Inv X pins σ H s->t σ H Q->wpAny (model X.prog X.w) X.A (eval e X.env) (EP X pins σ Q) X.xe s
def PT(X:Cx)(e:Expr)(t:TT):Prop:=
 ∀(pins:List (Addr×Obj))(s:Shared)(σ:St)(H:Hp)(Q:Bool->Hp->Prop),Inv X pins σ H s->t σ H Q->wpAny (model X.prog X.w) X.A (isTrue e X.env (eval e X.env)) (TP X pins σ Q) X.xe s
def PW(X:Cx)(e:Expr)(t:TT):Prop:=
 ∀(a:Sem Value)(pins:List (Addr×Obj))(s:Shared)(σ:St)(H:Hp)(Q:Bool->Hp->Prop),Inv X pins σ H s->t σ H Q->wpAny (model X.prog X.w) X.A (isTrue e X.env a) (TP X pins σ Q) X.xe s
def PW.pt{X:Cx}{t:TT}(h:PW X e t):PT X e t:=h _
def PA(X:Cx)(es:List Expr)(t:TA):Prop:=
 ∀(pos:Pos)(pins:List (Addr×Obj))(s:Shared)(σ:St)(H:Hp)(Q:List V->Hp->Prop),Inv X pins σ H s->t σ H Q->wpAny (model X.prog X.w) X.A (spliced (backTo pos (bh es X.env))) (AP X pins σ Q) X.xe s
def PS(X:Cx)(st:Stmt)(t:TS):Prop:=
 ∀(pins:List (Addr×Obj))(s:Shared)(σ:St)(H:Hp)(D:Ends),Inv X pins σ H s->t D σ H->wpAny (model X.prog X.w) X.A (exec st X.env) (SP X pins D) X.xe s
def PSs(X:Cx)(st:List Stmt)(t:TS):Prop:=
 ∀(pins:List (Addr×Obj))(s:Shared)(σ:St)(H:Hp)(D:Ends),Inv X pins σ H s->t D σ H->wpAny (model X.prog X.w) X.A (execs st X.env) (SP X pins D) X.xe s
def thn{c:Type}{t:Sem c}{Q b:c->Shared->Prop}{M:Model}(h:wpAny M A t Q E s)(d:∀a s,Q a s->b a s):wpAny M A t b E s:=cL h d fun _ _ x=>x
section
variable {X:Cx}
def pK(i:Nat):TE:=fun σ H Q=>∃v,σ[i]? =some (some v)/\Q v H
def tC(v:V):TE:=fun _ H Q=>Q v H
def Kz{x:Str}(g:X.N[i]? =some x)(p:Vis X.env.scope x)(b:(x==("__debug__":Str))=false:=by decide) (j:(x==("__classdict__":Str))=false:=by decide):PE X (.Name x pos) (pK i):=by
 intro q s t H Q I h;obtain⟨v,e,h⟩:=h;obtain⟨m,o,k⟩:=I.loc;obtain⟨u,r,l⟩:=k i x v g e p;have a:EP X q t Q u s:=⟨v,H,I,r,h⟩;rcases l with⟨hk,n⟩ |⟨hk,c,d,f⟩;·exact IC (wpAny_loadName_local I.ok.kind hk o n a) b
 ·rcases hk with hk|hk;·exact IC (wpAny_loadName_cell I.ok.kind hk d f a) b
  ·exact IC (wpAny_loadName_free I.ok.kind hk d f a j) b
def KJ{i j pos}:PE X (.Constant (.int i) j pos) (tC (.int i)):=fun _ _ _ H _ I h=>wpAny_Constant_int ⟨.int i,H,I.tok _,⟨_,rfl⟩,h⟩
def pe_bl{b j pos}:PE X (.Constant (.bool b) j pos) (tC (.bl b)):=fun _ _ _ H _ I h=>Constant_bool ⟨.bl b,H,I,rfl,h⟩
def KH{j pos}:PE X (.Constant .none j pos) (tC .non):=fun _ _ _ H _ I h=>Constant_none ⟨.non,H,I,rfl,h⟩
def KC{x j pos}:PE X (.Constant (.str x) j pos) (tC (.str x)):=fun _ _ _ H _ I h=>Calls.Constant_str ⟨.str x,H,I.tok _,⟨_,rfl⟩,h⟩
def Gl(X:Cx)(x:Str):Prop:=X.env.kindOf x=some .globalImplicit
def mK{d:St}{H:Hp}{x:Str}{Q:Value->Shared->Prop}(I:Inv X pins d H s)(b:Gl X x)(c:X.mg x=some u)(h:Q u s)
  (a:(x==("__debug__":Str))=false:=by decide):wpAny (model X.prog X.w) X.A (eval (.Name x pos) X.env) Q E s:=
 AO I.ok.kind b (Calls.loadGlobal_global (by rw[I.ok.glob];exact I.mod.glob.keeps I.bk) c h) a
def mL{i:St}{H:Hp}{x:Str}{Q:Value->Shared->Prop}(I:Inv X pins i H s)(d:Gl X x)(e:X.mg x=none)(g:fJ x=some u)(h:Q u s)
  (f:x≠"__name__":=by decide) (c:(x==("__debug__":Str))=false:=by decide):wpAny (model X.prog X.w) X.A (eval (.Name x pos) X.env) Q E s:=by
 obtain⟨j,a,b⟩:=I.mod.blt;exact AO I.ok.kind d (Calls.loadGlobal_builtin (by rw[I.ok.glob];exact I.mod.glob.keeps I.bk) e (by rw[I.ok.blt];exact a.keeps I.bk) ((b x f).trans g) h) c
def Fz{x:Str}{v:V}(b:Gl X x)(c:X.mg x=some u)(r:RelV v u)(a:(x==("__debug__":Str))=false:=by decide):PE X (.Name x pos) (tC v):=
 fun _ _ _ H _ I h=>mK I b c ⟨v,H,I,r,h⟩ a
def FC{x:Str}{v:V}(b:Gl X x)(c:X.mg x=none)(e:fJ x=some u)(r:RelV v u)(d:x≠"__name__":=by decide) (a:(x==("__debug__":Str))=false:=by decide):PE X (.Name x pos) (tC v):=
 fun _ _ _ H _ I h=>mL I b c e ⟨v,H,I,r,h⟩ d a
variable {a b:Expr}{ta tb:TE}
variable {tA tB':TT}{rest:List Expr}
def tAnd(t u:TT):TT:=fun σ H Q=>t σ H fun c H1=>if c=true then u σ H1 Q else Q false H1
def tOr(t u:TT):TT:=fun σ H Q=>t σ H fun c H1=>if c=true then Q true H1 else u σ H1 Q
def tNot(t:TT):TT:=fun σ H Q=>t σ H fun c H1=>Q (!c) H1
def Fu(b:PT X a tA):PW X (.BoolOp .And [a] pos) tA:=by
 intro i d s f H Q I h;refine isTrue_and (thn (b d s f H Q I h) fun c g e=>?_);cases c with
 |true=>exact isTrue_and_nil e
 |false=>exact e
def pw_or1(b:PT X a tA):PW X (.BoolOp .Or [a] pos) tA:=by
 intro i d s f H Q I h;refine isTrue_or (thn (b d s f H Q I h) fun c g e=>?_);cases c with
 |false=>exact isTrue_or_nil e
 |true=>exact e
def DM(j:PT X a tA)(k:PW X (.BoolOp .And (b::rest) pos) tB'):PW X (.BoolOp .And (a::b::rest) pos) (tAnd tA tB'):=by
 intro m f s i H Q I h;refine isTrue_and (thn (j f s i H _ I h) fun c l ⟨d,e,g⟩=>?_);cases c with
 |true=>exact k m f l i d Q e g
 |false=>exact⟨d,e,g⟩
def pw_or(j:PT X a tA)(k:PW X (.BoolOp .Or (b::rest) pos) tB'):PW X (.BoolOp .Or (a::b::rest) pos) (tOr tA tB'):=by
 intro m f s i H Q I h;refine isTrue_or (thn (j f s i H _ I h) fun c l ⟨d,e,g⟩=>?_);cases c with
 |true=>exact⟨d,e,g⟩
 |false=>exact k m f l i d Q e g
def pt_not(d:PT X a tA):PT X (.UnaryOp .Not a pos) (tNot tA):=by intro e s f H Q I h;exact isTrue_not (d e s f H (fun c b=>Q (!c) b) I h)
def JB(ta tb:TE):TE:=fun σ H Q=>ta σ H fun x H1=>∃c,x=.bl c/\if c=true then tb σ H1 Q else Q (.bl false) H1
def tOrV(ta tb:TE):TE:=fun σ H Q=>ta σ H fun x H1=>∃c,x=.bl c/\if c=true then Q (.bl true) H1 else tb σ H1 Q
def Jv(ta:TE):TE:=fun σ H Q=>ta σ H fun x H1=>∃c,x=.bl c/\Q (.bl (!c)) H1
def DS{op}{t:TE}(h:PE X a t):PE X (.BoolOp op [a] pos) t:=fun c s d H Q I b=>BoolOp_one (h c s d H Q I b)
def KY(j:PE X a ta)(k:PE X (.BoolOp .And (b::rest) pos) tb):PE X (.BoolOp .And (a::b::rest) pos) (JB ta tb):=by
 intro g s i H Q I h;refine BoolOp_and (thn (j g s i H _ I h) fun v m ⟨x,e,f,l,d⟩=>?_);obtain⟨c,rfl,d⟩:=d;cases l;refine dk ?_;cases c with
 |true=>exact k g m i e Q f d
 |false=>exact⟨.bl false,e,f,rfl,d⟩
def pe_or(j:PE X a ta)(k:PE X (.BoolOp .Or (b::rest) pos) tb):PE X (.BoolOp .Or (a::b::rest) pos) (tOrV ta tb):=by
 intro g s i H Q I h;refine BoolOp_or (thn (j g s i H _ I h) fun v m ⟨x,e,f,l,d⟩=>?_);obtain⟨c,rfl,d⟩:=d;cases l;refine dk ?_;cases c with
 |false=>exact k g m i e Q f d
 |true=>exact⟨.bl true,e,f,rfl,d⟩
def pe_not(f:PE X a ta):PE X (.UnaryOp .Not a pos) (Jv ta):=by intro g s j H Q I h;refine UnaryOp_ (thn (f g s j H _ I h) fun v k ⟨x,d,e,i,b⟩=>?_);obtain⟨c,rfl,b⟩:=b;cases i;exact not_of (dk ⟨.bl (!c),d,e,rfl,b⟩)
def tIf(t:TT)(ta tb:TE):TE:=fun σ H Q=>t σ H fun c H1=>if c=true then ta σ H1 Q else tb σ H1 Q
def KL{c:Expr}(n:PT X c tA)(l:PE X a ta)(m:PE X b tb):PE X (.IfExp c a b pos) (tIf tA ta tb):=by
 intro e s f H Q I h;refine wpAny_IfExp (thn (n e s f H _ I h) fun d k ⟨g,i,j⟩=>?_);cases d with
 |true=>exact l e k f g Q i j
 |false=>exact m e k f g Q i j
end
def SqL(K:ah)(H:Hp)(a:Addr)(xs:List V):Prop:=
 Rd H a (.lst xs)\/
  ∃(o:Obj)(al:Array Value)(n:Nat),K.lookup a=some o/\o.cls=.type "list"/\o.dict=none/\o.data=.seq al n/\al.size<=sizeLine/\bG xs al.toList
def SqT(K:ah)(H:Hp)(a:Addr)(xs:List V):Prop:=
 Rd H a (.tup xs)\/
  ∃(o:Obj)(al:Array Value)(n:Nat),K.lookup a=some o/\o.cls=.type "tuple"/\o.data=.seq al n/\al.size<=sizeLine/\bG xs al.toList
abbrev absV:Value->Option V
 |.none=>some .non
 |.bool b=>some (.bl b)
 |.int i _=>some (.int i)
 |.str x _=>some (.str x)
 |.bytes b _=>some (.byt b)
 |.float b _=>some (.flt b)
 |.ref a=>some (.ref a)
 |.type n=>some (.ty n)
 |_=>none
def RelV.abs{x:V}(r:RelV x u):absV u=some x:=by
 cases x with
 |non=>cases r;rfl
 |bl _=>cases r;rfl
 |int _=>obtain⟨t,rfl⟩:=r;rfl
 |str _=>obtain⟨t,rfl⟩:=r;rfl
 |byt _=>obtain⟨t,rfl⟩:=r;rfl
 |flt _=>obtain⟨t,rfl⟩:=r;rfl
 |ref _=>cases r;rfl
 |ty _=>cases r;rfl
def RelV.inj{x y:V}(r:RelV x u)(q:RelV y u):x=y:=bc (r.abs.symm.trans q.abs)
theorem bG.inj{xs ys:List V}(h:bG xs us):bG ys us->xs=ys:=by
 induction h generalizing ys with
 |nil=>intro k;cases k;rfl
 |cons r k ih=>
  intro w;cases w with
  |cons r' w'=>rw[r.inj r',ih w']
section
variable {X:Cx}{pins:List (Addr×Obj)}{σ:St}{H:Hp}{s:Shared}{a:Addr}{xs ys:List V}
def SqL.of(h:H a=some (.lst xs)):SqL K H a xs:=.inl (.inl h)
def SqT.of(h:H a=some (.tup xs)):SqT K H a xs:=.inl (.inl h)
def Inv.list(I:Inv X pins σ H s)(h:SqL X.K H a xs):∃al:List Value,bG xs al/\PlainL s.heap a al.toArray/\xs.length<=sizeLine:=by
 rcases h with h|⟨o,al,n,d,b,c,f,g,r⟩;·obtain⟨z,al,n,r,e⟩:=h.ok I.hok;exact⟨al,r,⟨_,n,e,rfl,rfl,rfl⟩,z⟩
 ·refine⟨al.toList,r,⟨o,n,I.kIn a o d,b,c,by simpa using f⟩,?_⟩;have e:=r.length;simp only[cm]at e;lia
def Inv.tuple(I:Inv X pins σ H s)(h:SqT X.K H a xs):∃al:List Value,bG xs al/\IsTup s.heap a al.toArray/\xs.length<=sizeLine:=by
 rcases h with h|⟨o,al,n,c,b,d,f,r⟩;·obtain⟨z,al,r,p⟩:=h.ok I.hok;exact⟨al,r,p,z⟩
 ·refine⟨al.toList,r,⟨o,I.kIn a o c,b,n,by simpa using d⟩,?_⟩;have e:=r.length;simp only[cm]at e;lia
def Inv.BV(I:Inv X pins σ H s)(h:SqL X.K H a xs)(h':SqL X.K H a ys):xs=ys:=by
 obtain⟨f,r,⟨o,n,e,_,_,d⟩,_⟩:=I.list h;obtain⟨g,i,⟨k,j,c,_,_,b⟩,_⟩:=I.list h';rw[e]at c;cases c;rw[d]at b;injection b with d1 _
 have :f=g:=by simpa using congrArg Array.toList d1
 subst this;exact r.inj i
def Inv.sP(I:Inv X pins σ H s)(h:SqT X.K H a xs)(h':SqT X.K H a ys):xs=ys:=by
 obtain⟨f,r,⟨o,e,_,n,d⟩,_⟩:=I.tuple h;obtain⟨g,i,⟨k,c,_,j,b⟩,_⟩:=I.tuple h';rw[e]at c;cases c;rw[d]at b;injection b with d1 _
 have :f=g:=by simpa using congrArg Array.toList d1
 subst this;exact r.inj i
end
section
variable {X:Cx}{st:Stmt}{rest:List Stmt}{t u:TS}{te:TE}
def A4:TS:=fun D σ H=>D.nx σ H
def mz(t u:TS):TS:=fun D σ H=>t {D with nx:=u D} σ H
def zv:PSs X [] A4:=fun _ _ a H _ I h=>ES ⟨a,H,I,h⟩
def qV(d:PS X st t)(e:PSs X rest u):PSs X (st::rest) (mz t u):=by
 intro a s i H D I h;refine wpAny_execs_cons (thn (d a s i H {D with nx:=u D} I h) fun f g q=>?_);cases f with
 |next =>obtain⟨j,b,c,q⟩:=q;exact e a g j b D c q
 |ret v=>exact q
 |brk=>exact q
 |cont=>exact q
def JA:TS:=fun D σ H=>D.bk σ H
def tCont:TS:=fun D σ H=>D.ct σ H
def Fv:PS X (.Pass pos) A4:=fun _ _ a H _ I h=>wpAny_Pass ⟨a,H,I,h⟩
def Ku:PS X (.Break pos) JA:=fun _ _ a H _ I h=>wpAny_Break ⟨a,H,I,h⟩
def Bk:PS X (.Continue pos) tCont:=fun _ _ a H _ I h=>wpAny_Continue ⟨a,H,I,h⟩
def Inv.quiet{a:St}{H:Hp}(I:Inv X pins a H s):interactive X.env=false:=by simp[interactive,I.ok.kind]
def Jx(te:TE):TS:=fun D σ H=>te σ H fun _ H1=>D.nx σ H1
def Fw(d:PE X e te)(f:qI e none pos.line X.env=pure false:=by rfl):PS X (.Expr e pos) (Jx te):=by intro g s a H D I h;exact wpAny_Expr_any (thn (d g s a H _ I h) fun v k ⟨x,b,c,j,i⟩=>⟨a,b,c,i⟩) I.quiet f
def tRet(te:TE):TS:=fun D σ H=>te σ H D.rt
def Ks(d:PE X e te):PS X (.Return (some e) pos) (tRet te):=by intro f s a H D I h;exact wpAny_Return_some (thn (d f s a H _ I h) fun v j ⟨x,b,c,i,g⟩=>⟨x,a,b,c,i,g⟩)
def Jt:TS:=fun D _ H=>D.rt .non H
def ps_retN:PS X (.Return none pos) Jt:=fun _ _ a H _ I h=>wpAny_Return_none ⟨.non,a,H,I,rfl,h⟩
def Jw(c:TT)(t u:TS):TS:=fun D σ H=>c σ H fun b H1=>if b=true then t D σ H1 else u D σ H1
def ps_if{c:Expr}{a b:List Stmt}{l:TT}(o:PT X c l)(m:PSs X a t)(n:PSs X b u):PS X (.If c a b pos) (Jw l t u):=by
 intro e s f H D I h;refine wpAny_If (thn (o e s f H _ I h) fun d k ⟨g,i,j⟩=>?_);cases d with
 |true=>exact m e k f g D i j
 |false=>exact n e k f g D i j
end
noncomputable abbrev TG:=V->St->Hp->(St->Hp->Prop)->Prop
noncomputable abbrev TGs:=List V->St->Hp->(St->Hp->Prop)->Prop
def PG(X:Cx)(b:Expr)(t:TG):Prop:=
 ∀(pins:List (Addr×Obj))(s:Shared)(σ:St)(H:Hp)(v:V)(u:Value)(Q:St->Hp->Prop),Inv X pins σ H s->RelV v u->t v σ H Q->
  wpAny (model X.prog X.w) X.A (assign b X.env u) (fun _ s'=>∃a H',Inv X pins a H' s'/\Q a H') X.xe s
def PGs(X:Cx)(ts:List Expr)(t:TGs):Prop:=
 ∀(pins:List (Addr×Obj))(s:Shared)(σ:St)(H:Hp)(vs:List V)(us:List Value)(Q:St->Hp->Prop),Inv X pins σ H s->bG vs us->t vs σ H Q->
  wpAny (model X.prog X.w) X.A (assignInOrder ((iD ts X.env).map (·.2)) us) (fun _ s'=>∃a H',Inv X pins a H' s'/\Q a H') X.xe s
noncomputable abbrev TSet:=V->V->V->Hp->(Hp->Prop)->Prop
def PSet(X:Cx)(t:TSet):Prop:=
 ∀(pins:List (Addr×Obj))(s:Shared)(σ:St)(H:Hp)(o i v:V)(b a u:Value)(Q:Hp->Prop),Inv X pins σ H s->RelV o b->RelV i a->RelV v u->t o i v H Q->
  wpAny (model X.prog X.w) X.A (setItem b a u) (fun _ s'=>∃H',Inv X pins σ H' s'/\Q H') X.xe s
section
variable {X:Cx}
def iV(i:Nat):TG:=fun v σ H Q=>Q (σ.set i (some v)) H
def zx{x:Str}(b:X.N.Nodup)(hi:X.N[i]? =some x)(c:Loc X.env.scope x)(hf:X.fn x=true\/X.env.scope.names.lookup x=some .local:=by first |exact .inl rfl|exact .inr rfl|assumption):PG X (.Name x pos) (iV i):=by intro d s f H v u Q I r h;exact wpAny_assign_Name (vq I b hi c r (fun e a=>⟨_,H,a,h⟩) hf)
def gNil:TGs:=fun vs σ H Q=>vs=[]/\Q σ H
def LX(t:TG)(u:TGs):TGs:=fun vs σ H Q=>∃v r,vs=v::r/\t v σ H fun a H'=>u r a H' Q
def pgs_nil:PGs X [] gNil:=by intro b s a H d c Q I r h;obtain⟨e,h⟩:=h;subst e;cases r;exact assignInOrder_nil ⟨a,H,I,h⟩
def Ky{a:List Expr}{t:TG}{u:TGs}(g:PG X e t)(i:PGs X a u)
  (j:(iD (e::a) X.env).map (·.2)=assign e X.env::(iD a X.env).map (·.2):=by rfl):PGs X (e::a) (LX t u):=by
 intro b s m H q o Q I r h;obtain⟨v,p,f,h⟩:=h;subst f;cases r with
 |cons r rr=>rw[j];refine assignInOrder_cons (thn (g b s m H _ _ _ I r h) fun _ l ⟨n,c,d,k⟩=>?_);exact i b l n c _ _ Q d rr k
def gTup(K:ah)(n:Nat)(t:TGs):TG:=fun v σ H Q=>∃a xs,v=.ref a/\SqT K H a xs/\xs.length=n/\t xs σ H Q
def pg_tup{c:List Expr}{t:TGs}(p:X.calm=true)(h:PGs X c t)
  (w:(iD c X.env).length=n:=by rfl) (x:(iD c X.env).findIdx? (·.1)=none:=by rfl):PG X (.Tuple c k pos) (gTup X.K n t):=by
 intro f s i H v u Q I r d;obtain⟨a,A,l,hq,q,d⟩:=d;subst l;cases r;obtain⟨C,g,y,B⟩:=I.tuple hq;refine assign_Tuple_tuple (I.ok.hd p) y (by simp[w,<-q,g.length]) x fun m z=>?_;have j:Inv X f i H {s with heap:=m}:=I.kept (t':=s.toks) fun b o e=>z b o (aK (ay e)) e;exact h f _ i H A _ Q j (by simpa using g) d
def gSub(to b:TE)(t:TSet):TG:=fun v σ H Q=>to σ H fun o H1=>b σ H1 fun i H2=>t o i v H2 fun a=>Q σ a
def pg_sub{i:Expr}{f e:TE}{t:TSet}(q:PE X o f)(hi:PE X i e)(w:PSet X t)
  (p:∀v,assign (.Subscript o i pos) X.env v=(do
   let a<-holding [v] (eval o X.env)
   let b<-holding [v,a] (eval i X.env)
   AB pos
   holding [v,a,b] (setItem a b v)
   release [v,a,b] []):=by intro _;rfl):PG X (.Subscript o i pos) (gSub f e t):=by
 intro d s c H v u Q I r h;rw[p];refine aa (bH (thn (q d s c H _ I h) fun a E ⟨x,g,l,C,z⟩=>?_));refine aa (bH (thn (hi d E c g _ l z) fun b F ⟨y,j,m,D,A⟩=>?_));refine aa (gM (aa (bH (thn (w d F c j x y v a b u _ m C D r A) fun _ G ⟨k,n,B⟩=>?_))));exact wpAny_release ⟨c,k,n,B⟩
def qm(te:TE)(g:TG):TS:=fun D σ H=>te σ H fun x H1=>g x σ H1 D.nx
def DO{b:TE}{g:TG}(j:PE X e b)(k:PG X tg g)(l:MO [tg] e pos.line X.env=pure false:=by rfl) (m:swappedStores [tg] e X.env=pure none:=by rfl)
  (i:(iD [tg] X.env).map (·.2)=[assign tg X.env]:=by rfl):PS X (.Assign [tg] e pos) (qm b g):=by
 intro a s c H D I h;refine wpAny_Assign_stores (thn (j a s c H _ I h) fun v p ⟨x,d,f,o,n⟩=>?_) l m;rw[i];exact thn (k a p c d x v _ f o n) fun _ r q=>q
def ps_set{x:Str}{a:TE}(f:X.N.Nodup)(hi:X.N[i]? =some x)(k:Loc X.env.scope x)(g:PE X e a)(j:qI e (some (.Name x pos')) pos.line X.env=pure false:=by rfl) (hf:X.fn x=true\/X.env.scope.names.lookup x=some .local:=by first |exact .inl rfl|exact .inr rfl|assumption):
  PS X (.Assign [.Name x pos'] e pos) (qm a (iV i)):=by
 intro l s o H D I h;refine wpAny_Assign_Name (thn (g l s o H _ I h) fun v p ⟨y,b,c,n,m⟩=>?_) j;exact vq c f hi k n (fun q d=>⟨_,b,d,m⟩) hf
end
section
variable {X:Cx}
def Js(c:TT)(tb:TS):TS:=fun D σ H=>∃W:Nat->St->Hp->Prop,(∃m,W m σ H)/\∀m σ H,W m σ H->
 c σ H fun b H1=>if b=true then ∃N:St->Hp->Prop,(∀d H',N d H'->∃a,a<m/\W a d H')/\tb {D with nx:=N,ct:=N,bk:=D.nx} σ H1 else D.nx σ H1
def Kr{c:Expr}{w:List Stmt}{y:TT}{tb:TS}(hp:PassesOwn (model X.prog X.w) X.A X.env X.xe)(C:PT X c y)(B:PSs X w tb):PS X (.While c w [] pos) (Js y tb):=by
 intro o s O H D I h;obtain⟨W,⟨E,L⟩,K⟩:=h;refine wpAny_While (codeAny_whileLoop (fun n F=>∃z q,Inv X o z q F/\W n z q) ?_ E ⟨O,H,I,L⟩);rintro n G ⟨i,r,A,M⟩;refine gK hp (thn (C o G i r _ A (K n i r M)) fun b J ⟨t,u,e⟩=>?_);cases b with
 |true=>
  obtain⟨N,x,e⟩:=e;rw[if_pos rfl];refine gK hp (thn (B o J i t _ u e) fun f P g=>?_);cases f with
  |next =>obtain⟨d,a,j,m⟩:=g;obtain⟨l,k,p⟩:=x d a m;exact⟨l,k,d,a,j,p⟩
  |cont=>obtain⟨d,a,j,m⟩:=g;obtain⟨l,k,p⟩:=x d a m;exact⟨l,k,d,a,j,p⟩
  |brk=>exact g
  |ret v=>exact g
 |false=>rw[if_neg ao];exact ES ⟨i,t,u,e⟩
end
structure It where
 go:Nat->Hp->Prop
 yld:Nat->Hp->V->Hp->Prop
 stop:Nat->Hp->Prop
def oY(X:Cx)(pins:List (Addr×Obj))(H:Hp)(b:Addr):Prop:=
 H b=none/\b≠X.env.locals/\b∉X.fs/\(b∈X.ex\/X.s₀.heap.objs.size<=b)/\(∀x c,X.env.cells.lookup x=some c->c≠b)/\∀p∈X.pn++pins,p.1≠b
def Inv.z9{X:Cx}{f:St}{H H':Hp}(I:Inv X pins f H s)(a:s.heap.objs.size<=b)(d:H' b=none):oY X pins H' b:=by
 refine⟨d,eK (aT I.lt a),I.nofs a,.inr (aF I.sz a),fun x c e z=>?_,fun p hp z=>?_⟩;·obtain⟨v,q⟩:=I.cell x c e;exact absurd (aT q.lt (by rw[z];exact a)) (dH _)
 ·exact absurd (aT (ay (I.pin p hp).1) (by rw[z];exact a)) (dH _)
structure Turn(P:Program)(w:World)(K:ah)(tg:Expr)(J:It)(fp:List Addr)(it:Addr)(tn:Nat->Heap->Prop):Prop where
 mem:it∈fp
 obj:∀i h,tn i h->∀b∈fp,∃o,h.get? b=some o/\∀v,o.data≠.cell v
 keep:∀i h h',tn i h->(∀b∈fp,∀o,h.get? b=some o->h'.get? b=some o)->tn i h'
 item:∀(X:Cx),X.prog=P->X.w=w->X.K=K->X.calm=true->∀(i:Nat)(pins:List (Addr×Obj))(s:Shared)(σ:St)(H:Hp)(E:Value->Shared->Prop),Inv X pins σ H s->(∀b∈fp,oY X pins H b)->tn i s.heap->J.go i H->
  wpAny (model P w) X.A (pyNext (.ref it)) (fun r s1=>∃u,r=some u/\
   wpAny (model P w) X.A (sG tg (.ref it) u) (fun _ s2=>∃x H',Inv X pins σ H' s2/\RelV x u/\J.yld i H x H'/\tn (i+1) s2.heap/\∀b∈fp,H' b=none) E s1) E s
 done:∀(X:Cx),X.prog=P->X.w=w->X.K=K->X.calm=true->∀(i:Nat)(pins:List (Addr×Obj))(s:Shared)(σ:St)(H:Hp)(E:Value->Shared->Prop),Inv X pins σ H s->(∀b∈fp,oY X pins H b)->tn i s.heap->J.stop i H->
  wpAny (model P w) X.A (pyNext (.ref it)) (fun r s1=>r=none/\Inv X pins σ H s1) E s
 self:∀(A:Around)(i:Nat)(s:Shared)(Q:Value->Shared->Prop)(E:Value->Shared->Prop),tn i s.heap->Q (.ref it) s->wpAny (model P w) A (pyIter (.ref it)) Q E s
noncomputable abbrev TI:=St->Hp->(It->Hp->Prop)->Prop
def PIE(X:Cx)(pins:List (Addr×Obj))(σ:St)(tg:Expr)(R:It->Hp->Prop)(a:Value)(s2:Shared):Prop:=
 ∃(it:Addr)(fp:List Addr)(tn:Nat->Heap->Prop)(J:It)(H':Hp),a=.ref it/\Inv X pins σ H' s2/\Turn X.prog X.w X.K tg J fp it tn/\tn 0 s2.heap/\(∀b∈fp,oY X pins H' b)/\R J H'
def PI(X:Cx)(tg iter:Expr)(wi:TI):Prop:=
 ∀(pins:List (Addr×Obj))(s:Shared)(σ:St)(H:Hp)(R:It->Hp->Prop),Inv X pins σ H s->wi σ H R->
  wpAny (model X.prog X.w) X.A (eval iter X.env) (fun v a=>wpAny (model X.prog X.w) X.A (pyIter v) (PIE X pins σ tg R) X.xe a) X.xe s
def Ga{M:Model}{o:Obj}{n:String}{vs:Array Value}{Q:Unit->Shared->Prop}(e:s.heap.get? it=some o)(b:o.cls=.type n)(c:o.data=.fields vs)
  (d:["enumerate","zip","dict_itemiterator","dict_reverseitemiterator","odict_iterator","itertools.zip_longest","itertools.pairwise"].contains n=false)(a:Q () s):wpAny M A (sG tg (.ref it) u) Q E s:=by
 unfold sG;cases tg<;>first
  |exact aj a
  | (cases u<;>first
    |exact aj a
    | (refine aa (wpAny_load e ?_)
       rw[b,c];show wpAny M A (if(["enumerate","zip","dict_itemiterator","dict_reverseitemiterator","odict_iterator","itertools.zip_longest","itertools.pairwise"].contains n&&vs[0]? ==some (rawInt _))=true then _ else _) Q E s;rw[if_neg (by intro h;rw[d,cT]at h;cases h)];exact aj a))
abbrev Itl(K:ah)(a:Addr):It:=
 ⟨fun i H=>∃xs x,SqL K H a xs/\xs[i]? =some x,fun i H x H'=>H'=H/\∀xs,SqL K H a xs->xs[i]? =some x,fun i H=>∃xs,SqL K H a xs/\xs.length<=i⟩
abbrev Itt(K:ah)(a:Addr):It:=
 ⟨fun i H=>∃xs x,SqT K H a xs/\xs[i]? =some x,fun i H x H'=>H'=H/\∀xs,SqT K H a xs->xs[i]? =some x,fun i H=>∃xs,SqT K H a xs/\xs.length<=i⟩
abbrev Itr(lo:Int)(n:Nat):It:=⟨fun i _=>i<n,fun i H x H'=>H'=H/\x=.int (lo+i),fun i _=>n<=i⟩
def xT(a j:Addr):Turn P w K tg (Itl K a) [j] j (fun i h=>h.IsListIter j a i) where
 mem:=by simp
 obj:=fun i h f b g=>by
  have e:b=j:=by simpa using g
  subst e;obtain⟨o,e,c,d⟩:=f;exact⟨o,e,fun v z=>by rw[d]at z;cases z⟩
 keep:=fun i h l f k=>f.at fun o e=>k j (by simp) o e
 item:=by intro X A C y G i J s M H E I hf f B;subst A C y;obtain⟨Y,x,hq,D⟩:=B;obtain⟨U,F,p,T⟩:=I.list hq;obtain⟨u,R,V⟩:=F.get D;obtain⟨m,n,Q,q,r,t⟩:=hf j (by simp);refine wpAny_pyNext_list_item f p.isList (x:=u) (by simpa using R) fun l L W=>?_;have N:Inv X J M H {s with heap:=l}:=I.turned (t':=s.toks) (fun b o g e=>(W.2 b g).trans e) m n q r t;obtain⟨o,e,c,d⟩:=id L;exact⟨u,rfl,Ga (s:={s with heap:=l}) e c d (by decide) ⟨x,H,N,V,⟨rfl,fun ys S=>by rw[I.BV S hq];exact D⟩,L,fun b g=>(hf b g).1⟩⟩
 done:=by intro X A C y G i J s M H E I hf f B;subst A C y;obtain⟨Y,hq,D⟩:=B;obtain⟨U,F,p,T⟩:=I.list hq;obtain⟨m,n,Q,q,r,t⟩:=hf j (by simp);have Z:=F.length;exact wpAny_pyNext_list_end (I.ok.hd G) f p.isList (by simp;lia) fun l O=>⟨rfl,I.turned (t':=s.toks) (fun b o g e=>O b o g e) m n q r t⟩
 self:=fun _ _ _ _ _ f h=>wpAny_pyIter_listiter f h
def Dv(a j:Addr):Turn P w K tg (Itt K a) [j] j (fun i h=>h.IsTupleIter j a i) where
 mem:=by simp
 obj:=fun i h f b g=>by
  have e:b=j:=by simpa using g
  subst e;obtain⟨o,e,c,d⟩:=f;exact⟨o,e,fun v z=>by rw[d]at z;cases z⟩
 keep:=fun i h l f k=>f.at fun o e=>k j (by simp) o e
 item:=by intro X A C y J i L s N H E I hf f B;subst A C y;obtain⟨Y,x,hq,D⟩:=B;obtain⟨F,G,p,U⟩:=I.tuple hq;obtain⟨u,S,V⟩:=G.get D;obtain⟨m,n,R,q,r,t⟩:=hf j (by simp);refine wpAny_pyNext_tuple_item f (show s.heap.IsTuple a F.toArray from p) (x:=u) (by simpa using S) fun l M W=>?_;have O:Inv X L N H {s with heap:=l}:=I.turned (t':=s.toks) (fun b o g e=>(W.2 b g).trans e) m n q r t;obtain⟨o,e,c,d⟩:=id M;exact⟨u,rfl,Ga (s:={s with heap:=l}) e c d (by decide) ⟨x,H,O,V,⟨rfl,fun ys T=>by rw[I.sP T hq];exact D⟩,M,fun b g=>(hf b g).1⟩⟩
 done:=by intro X A C y J i L s N H E I hf f B;subst A C y;obtain⟨Y,hq,D⟩:=B;obtain⟨F,G,p,U⟩:=I.tuple hq;obtain⟨m,n,R,q,r,t⟩:=hf j (by simp);have Z:=G.length;exact wpAny_pyNext_tuple_end (I.ok.hd J) f (show s.heap.IsTuple a F.toArray from p) (by simp;lia) fun l Q=>⟨rfl,I.turned (t':=s.toks) (fun b o g e=>Q b o g e) m n q r t⟩
 self:=fun _ _ _ _ _ f h=>wpAny_pyIter_tupleiter f h
def Dw(c:Addr)(lo:Int)(n:Nat):Turn P w K tg (Itr lo n) [c] c (fun i h=>IsRangeIter h c (lo+(i:Nat)*1) ((n:Int)-(i:Nat)) 1) where
 mem:=by simp
 obj:=fun i h a b d=>by
  have e:b=c:=by simpa using d
  subst e;exact⟨_,a,fun v z=>by have M:Data.fields _=Data.cell v:=z;cases M⟩
 keep:=fun i h f a k=>k c (by simp) _ a
 item:=by intro X r y q u i A s C H E I hf a x;subst r y q;obtain⟨g,j,G,l,m,p⟩:=hf c (by simp);have W:=Walks.range (prog:=X.prog) (w:=X.w) (I.ok.hd u) c lo 1 n;refine W.item i s _ _ x a fun v f tk J B L=>?_;obtain⟨t,rfl⟩:=J;have D:Inv X A C H {s with heap:=f,toks:=tk}:=I.turned (fun b o d e=>L b o (by simpa using d) e) g j l m p;refine⟨_,rfl,Ga (s:={s with heap:=f,toks:=tk}) (n:="range_iterator") B rfl rfl (by decide) ⟨.int (lo+i),H,D,⟨t,?_⟩,⟨rfl,rfl⟩,B,fun b d=>(hf b d).1⟩⟩;rw[Int.mul_one]
 done:=by intro X r y q u i A s C H E I hf a x;subst r y q;obtain⟨g,j,G,l,m,p⟩:=hf c (by simp);exact wpAny_pyNext_range_end (I.ok.hd u) a (by have :n<=i:=x;lia) fun f F=>⟨rfl,I.turned (t':=s.toks) (fun b o d e=>F b o d e) g j l m p⟩
 self:=fun _ _ _ _ _ a h=>wpAny_pyIter_rangeiter a h
section
variable {X:Cx}
def LS(K:ah)(tl:TE):TI:=fun σ H R=>tl σ H fun x H1=>∃a,x=.ref a/\(∃xs,SqL K H1 a xs)/\R (Itl K a) H1
def pi_list{l:Expr}{f:TE}(j:PE X l f):PI X tg l (LS X.K f):=by
 intro k s r H R I h;refine thn (j k s r H _ I h) fun v d ⟨x,g,c,n,m⟩=>?_;obtain⟨a,e,⟨y,hq⟩,q⟩:=m;subst e;cases n;obtain⟨u,w,p,t⟩:=c.list hq;refine pB p.isList ?_;refine⟨d.heap.objs.size,[d.heap.objs.size],_,_,g,rfl,c.kept (t':=d.toks) fun b o e=>ag _ e,xT a _,⟨_,ax _ rfl,rfl,rfl⟩,fun b i=>?_,q⟩;have e:b=d.heap.objs.size:=by simpa using i
 subst e;exact c.z9 (av _) (c.hok.fresh (av _))
def Bi{c:St}{H:Hp}{R:It->Hp->Prop}{lo hi:Int}{t u v:Tok}{tk:Nat}(I:Inv X pins c H s)(g: -(2^62)<=lo)(h:lo<2^62)(i: -(2^62)<=hi)(j:hi<2^62)
  (q:R (Itr lo (hi-lo).toNat) H):wpAny (model X.prog X.w) X.A (pyIter (.ref s.heap.objs.size)) (PIE X pins c tg R) E {s with heap:=s.heap.push {cls:=.type "range",data:=.fields #[.int lo t,.int hi u,.int 1 v]},toks:=tk}:=by
 refine wpAny_pyIter_range (IsRange.new ..) (small_one g h i j) ?_;have a:Inv X pins c H {s with heap:=s.heap.push {cls:=.type "range",data:=.fields #[.int lo t,.int hi u,.int 1 v]},toks:=tk}:=I.kept fun b o e=>ag _ e;refine⟨(s.heap.push {cls:=.type "range",data:=.fields #[.int lo t,.int hi u,.int 1 v]}).objs.size,[(s.heap.push {cls:=.type "range",data:=.fields #[.int lo t,.int hi u,.int 1 v]}).objs.size],_,_,H,rfl,
  a.kept (t':=tk) fun b o e=>ag _ e,Dw _ lo (hi-lo).toNat,?_,fun b k=>?_,q⟩
 ·have d:lo+((0:Nat):Int)*1=lo:=by simp
  have f:(((hi-lo).toNat:Nat):Int)-((0:Nat):Int)=Builtin.Range.rangeSize lo hi 1:=by rw[rangeSize_one];split <;>lia
  show IsRangeIter _ _ (lo+((0:Nat):Int)*1) ((((hi-lo).toNat:Nat):Int)-((0:Nat):Int)) 1;rw[d,f];exact ax _ rfl
 ·have e:b=(s.heap.push {cls:=.type "range",data:=.fields #[.int lo t,.int hi u,.int 1 v]}).objs.size:=by simpa using k
  subst e;exact a.z9 (av _) (a.hok.fresh (av _))
def LR(ta:TA):TI:=fun σ H R=>ta σ H fun vs H1=>∃j:Int,vs=[.int j]∧-(2^62)<=j/\j<2^62/\R (Itr 0 j.toNat) H1
def LQ(ta:TA):TI:=fun σ H R=>ta σ H fun vs H1=>∃i j:Int,vs=[.int i,.int j]/\(-(2^62)<=i/\i<2^62∧-(2^62)<=j/\j<2^62)/\R (Itr i (j-i).toNat) H1
def Hm{a:Expr}{c:TA}{p:Pos}(g:Gl X "range")(i:X.mg "range"=none)(f:PA X [a] c)(k:bh [a] X.env=[(false,eval a X.env)]:=by rfl):PI X tg (.Call (.Name "range" p) [a] [] pos) (LR c):=by
 intro l s o H R I h;refine Call_ (mL I g i boot_range (d0 (thn (f pos l s o H _ I h) fun w v ⟨x,u,d,n,b⟩=>?_) k rfl));obtain⟨j,e,b,m,q⟩:=b;subst e;cases n with
 |cons r rr=>cases rr;obtain⟨t,rfl⟩:=r;exact call_range_1 (Bi d (by lia) (by lia) b m (by simpa using q))
def Hl{a b:Expr}{f:TA}{p:Pos}(l:Gl X "range")(m:X.mg "range"=none)(k:PA X [a,b] f)(n:bh [a,b] X.env=[(false,eval a X.env),(false,eval b X.env)]:=by rfl) (d:bh [b] X.env=[(false,eval b X.env)]:=by rfl):
  PI X tg (.Call (.Name "range" p) [a,b] [] pos) (LQ f):=by
 intro o s y H R I h;refine Call_ (mL I l m boot_range (d0 (thn (k pos o s y H _ I h) fun C A ⟨D,z,g,x,c⟩=>?_) (by rw[n,d]) (by rw[d];rfl)));obtain⟨i,j,e,⟨c,u,v,w⟩,q⟩:=c;subst e;cases x with
 |cons r rr=>
  cases rr with
  |cons r' rr=>cases rr;obtain⟨t,rfl⟩:=r;obtain⟨B,rfl⟩:=r';exact call_range_2 (Bi g c u v w q)
def tFor(wi:TI)(g:TG)(tb:TS):TS:=fun D σ H=>wi σ H fun J H1=>∃W:Nat->Nat->St->Hp->Prop,(∃m,W 0 m σ H1)/\∀i m σ H,W i m σ H->
 (J.stop i H/\D.nx σ H)\/(J.go i H/\∃N:St->Hp->Prop,(∀b H',N b H'->∃a,a<m/\W (i+1) a b H')/\∀x H',J.yld i H x H'->g x σ H' fun c H2=>tb {D with nx:=N,ct:=N,bk:=D.nx} c H2)
abbrev jt(fp:List Addr)(h:Heap):List (Addr×Obj):=fp.filterMap fun b=>(h.get? b).map fun o=>(b,o)
def i0{o:Obj}(a:b∈fp)(e:h.get? b=some o):(b,o)∈jt fp h:=List.mem_filterMap.mpr ⟨b,a,by rw[e];rfl⟩
def sZ{p:Addr×Obj}(hp:p∈jt fp h):p.1∈fp/\h.get? p.1=some p.2:=by
 obtain⟨b,c,e⟩:=List.mem_filterMap.mp hp;cases q:h.get? b with
 |none=>rw[q]at e;cases e
 |some o=>rw[q]at e;have a:(b,o)=p:=bc e;subst a;exact⟨c,q⟩
def Inv.pinned{f:St}{H:Hp}(I:Inv X pins f H s)(hf:∀b∈fp,oY X pins H b)(j:∀b∈fp,∃o,s.heap.get? b=some o/\∀v,o.data≠.cell v):Inv X (pins++jt fp s.heap) f H s:=
 I.zw fun p hp=>(cV.mp hp).elim (fun z=>I.pin p (a9 _ z)) fun z=>by obtain⟨c,e⟩:=sZ z;obtain⟨g,h,i,_⟩:=hf p.1 c;obtain⟨o,a,d⟩:=j p.1 c;rw[e]at a;cases a;exact⟨e,g,h,i,d⟩
def Inv.iG{b:List (Addr×Obj)}{a:St}{H:Hp}(I:Inv X (pins++b) a H s):Inv X pins a H s:=I.zw fun p hp=>I.pin p (a9 _ (cz _ hp))
def ps_for{C:List Stmt}{O:TI}{g:TG}{tb:TS}(hp:PassesOwn (model X.prog X.w) X.A X.env X.xe)(G:X.calm=true)(hi:PI X tg iter O)(hg:PG X tg g)(d:PSs X C tb)
  (hs:∀x,jN iter X.env x=pure x:=by intro _;rfl):PS X (.For tg iter C [] pos) (tFor O g tb):=by
 intro l a3 P H D I a1;refine wpAny_For (thn (hi l a3 P H _ I a1) fun a8 s1 h1=>thn h1 fun b3 s2 h2=>?_) hs;obtain⟨it,p,tn,b1,Q,e,S,T,a4,E,W,⟨m0,w0⟩,a6⟩:=h2;subst e
 --what stays true of the iterator's objects through the loop
 have y:∀{j:Hp},(∀b∈p,j b=none)->∀b∈p,oY X l j b:=fun hn b d=>⟨hn b d,(E b d).2⟩;refine codeAny_forLoop_any (fun n J=>∃i r j,Inv X l r j J/\tn i J.heap/\(∀b∈p,j b=none)/\W i n r j) ?_ m0 ⟨0,P,Q,S,a4,fun b d=>(E b d).1,w0⟩;rintro n K ⟨i,s,t,A,M,F,w3⟩;rcases a6 i n s t w3 with⟨a5,qn⟩ |⟨go,N,hN,step⟩;·refine gK hp (thn (T.done X rfl rfl rfl G i l K s t X.xe A (y F) M a5) fun a2 s4 ⟨u,U⟩=>?_);subst u;exact ES ⟨s,t,U,qn⟩
 ·refine gK hp (thn (T.item X rfl rfl rfl G i l K s t X.xe A (y F) M go) fun a2 s4 ⟨a7,u,h4⟩=>?_);subst u;refine gK hp (thn h4 fun _ L ⟨x,z,V,r5,y5,w,a0⟩=>?_);have Y:=V.pinned (y a0) (T.obj _ _ w);refine gK hp (thn (hg _ L s z x a7 _ Y r5 (step x z y5)) fun _ s6 ⟨b0,R,Z,q6⟩=>?_);refine gK hp (thn (d _ s6 b0 R _ Z q6) fun f v k=>?_);have B:∀{h:St}{a:Hp},Inv X (l++jt p L.heap) h a v->N h a->∃m,m<n/\∃i r j,Inv X l r j v/\tn i v.heap/\(∀b∈p,j b=none)/\W i m r j:=fun{h a} c q=>by obtain⟨m',hm,w7⟩:=hN h a q;refine⟨m',hm,i+1,h,a,c.iG,T.keep _ _ _ w fun b d o e=>(c.pin (b,o) (a9 _ (a9 _ (i0 d e)))).1,fun b d=>?_,w7⟩;obtain⟨o,e,b2⟩:=T.obj _ _ w b d;exact(c.pin (b,o) (a9 _ (a9 _ (i0 d e)))).2.1
  cases f with
  |next =>obtain⟨h,a,c,q⟩:=k;exact B c q
  |cont=>obtain⟨h,a,c,q⟩:=k;exact B c q
  |brk=>obtain⟨h,a,c,k⟩:=k;exact⟨h,a,c.iG,k⟩
  |ret a8=>obtain⟨x7,h,a,c,r7,k⟩:=k;exact⟨x7,h,a,c.iG,r7,k⟩
end
noncomputable abbrev R2:=V->V->Hp->VK->Prop
def OpR(X:Cx)(f:Value->Value->Sem Value)(r:R2):Prop:=
 ∀(pins:List (Addr×Obj))(s:Shared)(σ:St)(H:Hp)(x y:V)(v u:Value)(Q:VK),Inv X pins σ H s->RelV x v->RelV y u->r x y H Q->
  wpAny (model X.prog X.w) X.A (f v u) (EP X pins σ Q) X.xe s
def UnR(X:Cx)(f:Value->Sem Value)(r:V->Hp->VK->Prop):Prop:=
 ∀(pins:List (Addr×Obj))(s:Shared)(σ:St)(H:Hp)(x:V)(v:Value)(Q:VK),Inv X pins σ H s->RelV x v->r x H Q->
  wpAny (model X.prog X.w) X.A (f v) (EP X pins σ Q) X.xe s
def fC(X:Cx)(f:Value)(r:List V->Hp->VK->Prop):Prop:=
 ∀(pins:List (Addr×Obj))(s:Shared)(σ:St)(H:Hp)(xs:List V)(us:List Value)(Q:VK),Inv X pins σ H s->bG xs us->r xs H Q->
  wpAny (model X.prog X.w) X.A (call f us) (EP X pins σ Q) X.xe s
def TruR(X:Cx)(r:V->Hp->(Bool->Hp->Prop)->Prop):Prop:=
 ∀(pins:List (Addr×Obj))(s:Shared)(σ:St)(H:Hp)(x:V)(v:Value)(Q:Bool->Hp->Prop),Inv X pins σ H s->RelV x v->r x H Q->
  wpAny (model X.prog X.w) X.A (truthy v) (TP X pins σ Q) X.xe s
def tOp(r:R2)(ta tb:TE):TE:=fun σ H Q=>ta σ H fun x H1=>tb σ H1 fun y H2=>r x y H2 Q
def tUn(r:V->Hp->VK->Prop)(ta:TE):TE:=fun σ H Q=>ta σ H fun x H1=>r x H1 Q
def rI(C:Int->Int->Prop)(g:Int->Int->V):R2:=fun x y H Q=>∃i j,x=.int i/\y=.int j/\C i j/\Q (g i j) H
def rI0(g:Int->Int->V):R2:=fun x y H Q=>∃i j,x=.int i/\y=.int j/\Q (g i j) H
def rU(g:Int->V):V->Hp->VK->Prop:=fun x H Q=>∃i,x=.int i/\Q (g i) H
section
variable {X:Cx}{a b c:Expr}{ta tb tc:TE}
def binT(g:PE X a ta)(i:PE X b tb){c:St}{H:Hp}{R:V->V->Hp->Prop}(I:Inv X pins c H s)
  (h:ta c H fun x H1=>tb c H1 fun y H2=>R x y H2){Q:Value->Shared->Prop}{f:Value->Value->Sem Value}
  (hf:∀v u s2 x y H2,Inv X pins c H2 s2->RelV x v->RelV y u->R x y H2->wpAny (model X.prog X.w) X.A (f v u) Q X.xe s2):
  wpAny (model X.prog X.w) X.A (eval a X.env) (fun v o=>wpAny (model X.prog X.w) X.A (eval b X.env) (fun u p=>wpAny (model X.prog X.w) X.A (f v u) Q X.xe p) X.xe o) X.xe s:=by
 refine thn (g pins s c H _ I h) fun v n ⟨x,H1,d,l,j⟩=>?_;refine thn (i pins n c H1 _ d j) fun u s2 ⟨y,H2,e,m,k⟩=>?_;exact hf v u s2 x y H2 e l m k
def pe_op{op:Operator}{r:R2}(g:OpR X (eD op) r)(e:PE X a ta)(f:PE X b tb):PE X (.BinOp a op b pos) (tOp r ta tb):=by intro i s m H Q I h;exact wpAny_BinOp (binT e f I h fun v u l x y c d j k q=>g i l m c x y v u Q d j k q)
def pe_un{op:UnaryOp}{r:V->Hp->VK->Prop}(g:UnR X (unaryOp op) r)(f:PE X a ta):PE X (.UnaryOp op a pos) (tUn r ta):=by intro b s c H Q I h;exact UnaryOp_ (thn (f b s c H _ I h) fun v k ⟨x,d,e,j,i⟩=>g b k c d x v Q e j i)
def opI{f:Value->Value->Sem Value}{C:Int->Int->Prop}{g:Int->Int->Int}
  (b:∀(i j:Int)(t u:Tok)(s:Shared)(Q:Value->Shared->Prop)(E:Value->Shared->Prop),C i j->Q (.int (g i j) s.toks) {s with toks:=s.toks+1}->wpAny (model X.prog X.w) X.A (f (.int i t) (.int j u)) Q E s):
  OpR X f (rI C fun i j=>.int (g i j)):=by
 intro k s l H x y v u Q I c d h;obtain⟨i,j,rfl,rfl,a,q⟩:=h;obtain⟨t,rfl⟩:=c;obtain⟨e,rfl⟩:=d;exact b i j t e s _ _ a ⟨.int (g i j),H,I.tok _,⟨_,rfl⟩,q⟩
def opI0{f:Value->Value->Sem Value}{g:Int->Int->Int}
  (a:∀(i j:Int)(t u:Tok)(s:Shared)(Q:Value->Shared->Prop)(E:Value->Shared->Prop),Q (.int (g i j) s.toks) {s with toks:=s.toks+1}->wpAny (model X.prog X.w) X.A (f (.int i t) (.int j u)) Q E s):
  OpR X f (rI0 fun i j=>.int (g i j)):=by
 intro e s k H x y v u Q I b c h;obtain⟨i,j,rfl,rfl,q⟩:=h;obtain⟨t,rfl⟩:=b;obtain⟨d,rfl⟩:=c;exact a i j t d s _ _ ⟨.int (g i j),H,I.tok _,⟨_,rfl⟩,q⟩
def opB0{f:Value->Value->Sem Value}{g:Int->Int->Bool}
  (a:∀(i j:Int)(t u:Tok)(s:Shared)(Q:Value->Shared->Prop)(E:Value->Shared->Prop),Q (.bool (g i j)) s->wpAny (model X.prog X.w) X.A (f (.int i t) (.int j u)) Q E s):
  OpR X f (rI0 fun i j=>.bl (g i j)):=by
 intro e s k H x y v u Q I b c h;obtain⟨i,j,rfl,rfl,q⟩:=h;obtain⟨t,rfl⟩:=b;obtain⟨d,rfl⟩:=c;exact a i j t d s _ _ ⟨.bl (g i j),H,I,rfl,q⟩
def CDiv(i j:Int):Prop:=0<j/\j<1073741824
def MN(i j:Int):Prop:=0<=j/\j<=1000000/\i.natAbs<2^64
def EO(i j:Int):Prop:=(-(2^64)<i/\i<2^64)\/(-(2^64)<j/\j<2^64)
def EO.ok{i j:Int}(h:EO i j):IntMulOk i j:=by
 rcases h with⟨a,b⟩ |⟨a,b⟩;·exact .of_left (intBits_le_64 a b)
 ·exact .of_right (intBits_le_64 a b)
def Du(k:Nat):(0:Int)<=2^k:=by rw[two_pow_cast];exact Int.natCast_nonneg _
def op_add:OpR X (eD .Add) (rI0 fun i j=>.int (i+j)):=opI0 fun _ _ _ _ _ _ _ q=>add_int q
def op_sub:OpR X (eD .Sub) (rI0 fun i j=>.int (i-j)):=opI0 fun _ _ _ _ _ _ _ q=>sub_int q
def op_mul:OpR X (eD .Mult) (rI EO fun i j=>.int (i*j)):=opI fun _ _ _ _ _ _ _ a q=>mul_int q a.ok
def op_fdiv:OpR X (eD .FloorDiv) (rI CDiv fun i j=>.int (i/j)):=opI fun i j _ _ _ _ _ a q=>by have b:(0:Int)<j:=a.1;have c:j<1073741824:=a.2;exact floordiv_int (by lia) (by rw[C8 i (by lia)];exact q) (.inl (PyProof.noPylong_small (by lia)))
def op_mod:OpR X (eD .Mod) (rI (fun _ j=>0<j) fun i j=>.int (i%j)):=opI fun i j _ _ _ _ _ a q=>by have b:(0:Int)<j:=a;exact mod_int' (by lia) (by rw[Int.fmod_eq_emod_of_nonneg i (by lia)];exact q)
def op_pow:OpR X (eD .Pow) (rI MN fun i j=>.int (i^j.toNat)):=opI fun _ _ _ _ _ _ _ a q=>pow_int_small a.1 a.2.1 a.2.2 q
def op_shl:OpR X (eD .LShift) (rI MN fun i j=>.int (i*2^j.toNat)):=opI fun _ _ _ _ _ _ _ a q=>lshift_int_small a.1 a.2.1 a.2.2 q
def op_shr:OpR X (eD .RShift) (rI (fun _ j=>0<=j) fun i j=>.int (i/2^j.toNat)):=opI fun i j _ _ _ _ _ a q=>
 rshift_int a (by rw[C8 i (Du _)];exact q)
def op_and:OpR X (eD .BitAnd) (rI0 fun i j=>.int (iU i j)):=opI0 fun _ _ _ _ _ _ _ q=>and_int q
def op_xor:OpR X (eD .BitXor) (rI0 fun i j=>.int (kL i j)):=opI0 fun _ _ _ _ _ _ _ q=>xor_int q
def unI{f:Value->Sem Value}{g:Int->Int}
  (a:∀(i:Int)(t:Tok)(s:Shared)(Q:Value->Shared->Prop)(E:Value->Shared->Prop),Q (.int (g i) s.toks) {s with toks:=s.toks+1}->wpAny (model X.prog X.w) X.A (f (.int i t)) Q E s):
  UnR X f (rU fun i=>.int (g i)):=by
 intro c s d H x v Q I b h;obtain⟨i,rfl,q⟩:=h;obtain⟨t,rfl⟩:=b;exact a i t s _ _ ⟨.int (g i),H,I.tok _,⟨_,rfl⟩,q⟩
def un_neg:UnR X (unaryOp .USub) (rU fun i=>.int (-i)):=unI fun _ _ _ _ _ q=>neg_int q
end
section
variable {X:Cx}{a b c:Expr}{ta tb tc:TE}
def wC{b:St}{H:Hp}{Q:VK}{k a:Bool}(I:Inv X pins b H s)(q:Q (.bl k) H)(e:k=a):EP X pins b Q (.bool a) s:=by subst e;exact⟨.bl k,H,I,rfl,q⟩
def op_lt:OpR X (cX .Lt) (rI0 fun i j=>.bl (decide (i<j))):=opB0 fun _ _ _ _ _ _ _ q=>lt_int q
def op_le:OpR X (cX .LtE) (rI0 fun i j=>.bl (decide (i<=j))):=opB0 fun _ _ _ _ _ _ _ q=>le_int q
def op_gt:OpR X (cX .Gt) (rI0 fun i j=>.bl (decide (j<i))):=opB0 fun _ _ _ _ _ _ _ q=>gt_int q
def op_ge:OpR X (cX .GtE) (rI0 fun i j=>.bl (decide (j<=i))):=opB0 fun _ _ _ _ _ _ _ q=>ge_int q
def Ht:OpR X (cX .In) (fun x y H Q=>∃i j,x=.str i/\y=.str j/\Q (.bl (!(hU j i 0 j.length 1).isEmpty)) H):=by intro c s e H x y v u Q I a b h;obtain⟨i,j,rfl,rfl,q⟩:=h;obtain⟨t,rfl⟩:=a;obtain⟨d,rfl⟩:=b;exact in_str (wC I q rfl)
def op_isN:OpR X (cX .Is) (fun x y H Q=>y=.non/\Q (.bl (decide (x=.non))) H):=by
 intro c s d H x y v u Q I a b h;obtain⟨rfl,q⟩:=h;cases b;refine is_none_gen (wC I q ?_);cases x<;>first
  | (cases a;rfl)
  | (obtain⟨t,rfl⟩:=a;rfl)
def op_notN:OpR X (cX .IsNot) (fun x y H Q=>y=.non/\Q (.bl (!decide (x=.non))) H):=by
 intro c s d H x y v u Q I a b h;obtain⟨rfl,q⟩:=h;cases b;refine isnot_none_gen (wC I q ?_);cases x<;>first
  | (cases a;rfl)
  | (obtain⟨t,rfl⟩:=a;rfl)
def OpR.or{f:Value->Value->Sem Value}{r b:R2}(h:OpR X f r)(h':OpR X f b):OpR X f (fun x y H Q=>r x y H Q\/b x y H Q):=by
 intro a s e H x y v u Q I c d q;rcases q with q|q;·exact h a s e H x y v u Q I c d q
 ·exact h' a s e H x y v u Q I c d q
def pe_cmpR{op:CmpOp}{r:R2}(i:OpR X (cX op) r)(e:PE X a ta)(f:PE X b tb)(g:MR op b=false):PE X (.Compare a [op] [b] pos) (tOp r ta tb):=by intro j s n H Q I h;exact wpAny_Compare1 (binT e f I h fun v u m x y c d k l q=>i j m n c x y v u Q d k l q) g
def tV(t:TE):TT:=fun σ H Q=>t σ H fun x H'=>∃k,x=.bl k/\Q k H'
def pt_cmpR{op:CmpOp}{r:R2}(t:OpR X (cX op) r)(o:PE X a ta)(p:PE X b tb)(q:MR op b=false):PT X (.Compare a [op] [b] pos) (tV (tOp r ta tb)):=by
 intro d s f H Q I h;refine wpAny_isTrue_Compare1 (thn (o d s f H _ I h) fun v F ⟨x,g,l,C,w⟩=>thn (p d F f g _ l w) fun u G ⟨y,i,m,D,A⟩=>
  thn (t d G f i x y v u _ m C D A) fun c J ⟨z,j,n,E,k,e,B⟩=>?_) q
 subst e;cases E;exact dk ⟨j,n,B⟩
def vo(r c:R2)(ta tb tc:TE):TE:=fun σ H Q=>ta σ H fun x H1=>tb σ H1 fun y H2=>r x y H2 fun z a=>∃k,z=.bl k/\
 (if k=true then tc σ a fun d b=>c y d b Q else Q (.bl false) a)
def KQ{op i:CmpOp}{r n:R2}(G:OpR X (cX op) r)(J:OpR X (cX i) n)(C:PE X a ta)(D:PE X b tb)(E:PE X c tc)
  (F:lastMarks [op,i] [b,c]=false:=by with_unfolding_all rfl):PE X (.Compare a [op,i] [b,c] pos) (vo r n ta tb tc):=by
 intro f s g H Q I h;refine Compare_chain (thn (C f s g H _ I h) fun v R ⟨x,p,w,N,K⟩=>chain_link (thn (D f R g p _ w K) fun u S ⟨y,q,A,o,L⟩=>
  thn (G f S g q x y v u _ A N o L) fun d T ⟨z,j,l,O,k,e,m⟩=>?_)) F
 subst e;cases O;refine dk ?_;cases k with
 |false=>exact ite_ff ⟨.bl false,j,l,rfl,m⟩
 |true=>exact ite_tt (chain_last (thn (E f T g j _ l m) fun V U ⟨W,t,B,P,M⟩=>J f U g t y W u V Q B o P M))
def Kq{op g:CmpOp}{r m:R2}(J:OpR X (cX op) r)(K:OpR X (cX g) m)(D:PE X a ta)(E:PE X b tb)(F:PE X c tc)
  (G:lastMarks [op,g] [b,c]=false:=by with_unfolding_all rfl):PT X (.Compare a [op,g] [b,c] pos) (tV (vo r m ta tb tc)):=by
 intro d s f H a1 I h;refine isTrue_chain (thn (D d s f H _ I h) fun v U ⟨a0,o,w,Q,M⟩=>test_link (thn (E d U f o _ w M) fun u V ⟨y,p,x,n,N⟩=>
  thn (J d V f p a0 y v u _ x Q n N) fun a2 W ⟨a3,i,j,R,k,e,l⟩=>?_)) G
 subst e;cases R;refine dk ?_;cases k with
 |false=>obtain⟨k',B,L⟩:=l;cases B;exact ite_ff ⟨i,j,L⟩
 |true=>refine ite_tt (test_last (thn (F d W f i _ j l) fun Z Y ⟨z',q,z,S,O⟩=>thn (K d Y f q y z' u Z _ z n S O) fun d' s5 ⟨z2,t,A,T,k2,C,P⟩=>?_));subst C;cases T;exact dk ⟨t,A,P⟩
def Iy(K:ah)(x:V)(H:Hp)(k:Bool):Prop:=
 match x with
 |.non=>k=false
 |.bl b=>k=b
 |.int i=>k=(i != 0)
 |.str y=>y.length<=sizeLine/\k=((y.length:Int) != 0)
 |.byt y=>y.size<=sizeLine/\k=((y.size:Int) != 0)
 |.ref p=>(∃xs,SqL K H p xs/\k= !xs.isEmpty)\/(∃xs,SqT K H p xs/\k= !xs.isEmpty)\/∃kvs,H p=some (.dK kvs)/\k= !kvs.isEmpty
 |_=>False
def Ek{κ:Type}{a:List (κ×V)}{vs:List (κ×Value)}(r:KV a vs):(!vs.isEmpty)= !a.isEmpty:=by cases r<;>rfl
def wo{xs:List V}(r:bG xs al):(!al.toArray.isEmpty)= !xs.isEmpty:=by cases r<;>simp
def qr:(sizeLine:Nat)<2^63:=by rw[pE];decide
def Jo:TruR X (fun x H Q=>∃k,Iy X.K x H k/\Q k H):=by
 intro C s D H x v Q I f h;obtain⟨k,e,q⟩:=h;have A:=qr;have B:sizeLine=16777216:=pE;cases x with
 |non=>cases f;have a:k=false:=e;subst a;exact truthy_none ⟨H,I,q⟩
 |bl b=>cases f;have a:k=b:=e;subst a;exact dk ⟨H,I,q⟩
 |int i=>obtain⟨t,rfl⟩:=f;have a:k=(i != 0):=e;subst a;exact PySem.P.truthy_int ⟨H,I,q⟩
 |str y=>obtain⟨t,rfl⟩:=f;obtain⟨w,a⟩:y.length<=sizeLine/\k=((y.length:Int) != 0):=e;subst a;exact PySem.P.truthy_str (by lia) ⟨H,I.tok _,q⟩
 |byt y=>obtain⟨t,rfl⟩:=f;obtain⟨w,a⟩:y.size<=sizeLine/\k=((y.size:Int) != 0):=e;subst a;exact PySem.W.truthy_bytes (by lia) ⟨H,I.tok _,q⟩
 |ref p=>
  cases f;have a:(∃c,SqL X.K H p c/\k= !c.isEmpty)\/(∃c,SqT X.K H p c/\k= !c.isEmpty)\/∃d,H p=some (.dK d)/\k= !d.isEmpty:=e;rcases a with⟨c,g,a⟩ |⟨c,g,a⟩ |⟨d,g,a⟩;·subst a;obtain⟨z,r,l,o⟩:=I.list g;have n:=r.length;exact wpAny_truthy_list l.isList (by simp only[aw];lia) ⟨H,I.tok _,by rw[wo r];exact q⟩
  ·subst a;obtain⟨z,r,l,o⟩:=I.tuple g;have n:=r.length;exact truthy_tuple l (by simp only[aw];lia) ⟨H,I.tok _,by rw[wo r];exact q⟩
  ·subst a;obtain⟨o,u,j,r,m⟩:d.length<=sizeLine/\(p==d9)=false/\∃j,KV d j/\s.heap.DictOf (bS X.prog X.w) p j:=I.hok p _ g;have n:d.length=j.length:=mw r;exact wpAny_truthy_dict u m (by lia) ⟨H,I.tok _,by rw[Ek r];exact q⟩
 |_=>exact(show False from e).elim
def jZ(f:PE X a ta)(g:∀c,isTrue a X.env c=(do let v<-c;AB a.pos;holding [v] (truthy v))):
  PT X a (fun σ H Q=>ta σ H fun x H'=>∃k,Iy X.K x H' k/\Q k H'):=by
 intro b s σ H Q I h;exact isTrue_plain (thn (f b s σ H _ I h) fun v l ⟨x,d,e,j,i⟩=>Jo b l σ d x v Q e j i) (g _)
def DZ:OpR X (eD .Add) (fun x y H Q=>∃i j,x=.str i/\y=.str j/\i.length+j.length<=sizeLine/\Q (.str (i++j)) H):=by intro e s f H x y v u Q I b c h;obtain⟨i,j,rfl,rfl,a,q⟩:=h;obtain⟨t,rfl⟩:=b;obtain⟨d,rfl⟩:=c;exact add_str (fun d tk=>⟨.str (i++j),H,I.tok _,⟨_,rfl⟩,q⟩) a
def vals1{x:V}(r:bG [x] us):∃u,us=[u]/\RelV x u:=by
 cases r with
 |cons r1 r2=>cases r2;exact⟨_,rfl,r1⟩
def vals2{x y:V}(r:bG [x,y] us):∃u a,us=[u,a]/\RelV x u/\RelV y a:=by
 cases r with
 |cons r1 r2=>
  cases r2 with
  |cons r3 r4=>cases r4;exact⟨_,_,rfl,r1,r3⟩
def tK(a:X.calm=true):fC X (.builtin "min") (fun xs H Q=>∃i j,xs=[.int i,.int j]/\Q (.int (if j<i then j else i)) H):=by
 intro c s g H xs e Q I r h;obtain⟨i,j,rfl,q⟩:=h;obtain⟨u,f,rfl,⟨t,rfl⟩,⟨d,rfl⟩⟩:=vals2 r;refine min_two_ints (I.ok.hd a) fun b tk k=>⟨_,H,I.kept k,?_,q⟩;by_cases hj:j<i;·rw[if_pos hj,if_pos hj];exact⟨_,rfl⟩
 ·rw[if_neg hj,if_neg hj];exact⟨_,rfl⟩
def Ij:fC X (.type "int") (fun xs H Q=>(∃i,xs=[.int i]/\Q (.int i) H)\/∃k,xs=[.bl k]/\Q (.int (if k then 1 else 0)) H):=by
 intro b s d H xs c Q I r h;rcases h with⟨i,rfl,q⟩ |⟨k,rfl,q⟩;·obtain⟨u,rfl,t,rfl⟩:=vals1 r;exact call_int_int ⟨.int i,H,I,⟨_,rfl⟩,q⟩
 ·obtain⟨u,rfl,a⟩:=vals1 r;cases a;exact call_int_bool ⟨.int (if k then 1 else 0),H,I.tok _,⟨_,rfl⟩,q⟩
end
structure ObjM(h:Heap)(x dx C:Addr)(mA:Str->Option Value):Prop where
 obj:h.get? x=some (w9 C dx)
 ns:h.Ns1 dx mA
 ne:dx≠x
def HG(n:h.Ns1 dx mA):∃od,h.get? dx=some od/\∀name,xN name od=some (mA name):=by
 obtain⟨o,b,l,j,d,f,_,i⟩:=n;refine⟨o,j,fun name=>?_⟩;have e:=i name;unfold nsFind findBy at e;rw[<-tT]at e;unfold xN;rw[d];dsimp only;split;·rename_i y q;rw[q]at e;exact congrArg some e
 ·rename_i q;rw[q]at e;have a:b.toList.any (·.refKey)=false:=by rw[List.any_eq_false];intro y k;obtain⟨z,t,g⟩:=f y (jQ.mp k);simp[DictEntry.refKey,g]
  have c:¬b.toList.any (·.refKey)=true:=by rw[a];exact ao
  rw[if_neg c];exact congrArg some e
def ObjM.look{x:Addr}(I:ObjM h x dx C mA):∃od,PySem.W.InstAt h x (w9 C dx) C (some od)/\∀name,xN name od=some (mA name):=
 let⟨od,ho,hl⟩:=HG I.ns
 ⟨od,⟨I.obj,rfl,rfl,ho⟩,hl⟩
abbrev mF(f:Str)(v:V):List (Str×V)->List (Str×V)
 | []=>[(f,v)]
 | (g,x)::r=>if g=f then(g,v)::r else(g,x)::mF f v r
theorem t8(f g:Str)(v:V):∀fs:List (Str×V),(mF f v fs).lookup g=if g=f then some v else fs.lookup g
 | []=>by
  show cS g [(f,v)]=_;by_cases h:g=f;·have a:(g==f)=true:=beq_iff_eq.mpr h;simp only[cS,a,if_pos h]
  ·have a:(g==f)=false:=beq_eq_false_iff_ne.mpr h;simp only[cS,a,if_neg h]
 | (k,x)::r=>by
  have b:=t8 f g v r;rw[show mF f v ((k,x)::r)=(if k=f then(k,v)::r else(k,x)::mF f v r)from rfl];by_cases hk:k=f
  ·rw[if_pos hk];by_cases h:g=k;·have a:(g==k)=true:=beq_iff_eq.mpr h;simp only[cS,a,if_pos (h.trans hk)]
   ·have a:(g==k)=false:=beq_eq_false_iff_ne.mpr h;simp only[cS,a,if_neg (fun e:g=f=>h (e.trans hk.symm))]
  ·rw[if_neg hk];by_cases h:g=k;·have a:(g==k)=true:=beq_iff_eq.mpr h;simp only[cS,a,if_neg (fun e:g=f=>hk (h.symm.trans e))]
   ·have a:(g==k)=false:=beq_eq_false_iff_ne.mpr h;simp only[cS,a];exact b
theorem tj(f:Str)(v:V):∀fs:List (Str×V),f∈(mF f v fs).map (·.1)/\∀g,g∈fs.map (·.1)->g∈(mF f v fs).map (·.1)
 | []=>⟨by simp[mF],fun g h=>by simp at h⟩
 | (k,x)::r=>by
  obtain⟨a,b⟩:=tj f v r;rw[show mF f v ((k,x)::r)=(if k=f then(k,v)::r else(k,x)::mF f v r)from rfl];by_cases hk:k=f;·rw[if_pos hk];subst hk;exact⟨by simp,fun g h=>by simpa using h⟩
  ·rw[if_neg hk];refine⟨?_,fun g h=>?_⟩;·rw[a8];exact aD _ a
   ·rw[a8]at h⊢;rcases aG.mp h with e|e;·exact aG.mpr (.inl e)
    ·exact aD _ (b g e)
def tN.some_of{v:V}{o:Option Value}(r:tN (some v) o):∃u,o=some u/\RelV v u:=by
 cases o with
 |none=>exact(show False from r).elim
 |some u=>exact⟨u,rfl,r⟩
section
variable {H H':Hp}{a C dx:Addr}{fs fs':List (Str×V)}
def ins_get(b:HOk P w H h)(e:H a=some (.ins C dx fs)):∃mA,ObjM h a dx C mA/\(∀f,tN (fs.lookup f) (mA f))/\kG mA (fs.map (·.1))/\fs.length<=1000/\H dx=some (.own a):=by obtain⟨d,z,ne,c,mA,n,r,q⟩:=(show dz P w H h a (.ins C dx fs)from b a _ e);exact⟨mA,⟨c,n,ne⟩,r,q,z,d⟩
end
structure Cls(K:ah)(C:Addr):Prop where
 pg:MW K C Str.empty=true
 hd:PySem.W.hasDictIn K C=true
 po:PySem.W.plainOver K C=true
 sa:fw K (.ref C) "__setattr__"=some (some (.builtin "object.__setattr__"))
def Cls.get(c:Cls K C)(f:Str):MW K C f=true:=c.pg
structure Meth(K:ah)(C:Addr)(m:Str)(f:Addr):Prop where
 at_:fw K (.ref C) m=some (some (.ref f))
 fn:PySem.W.isFn K (.ref f)=true
 kp:b7 K (.ref f)=true
section
variable {X:Cx}{pins:List (Addr×Obj)}{σ:St}{H:Hp}{s:Shared}{E:Value->Shared->Prop}{Q:Value->Shared->Prop}{c:Value}{b:Bool}
inductive nq (K:ah) (H:Hp):V->Value->Prop where
 |non:nq K H .non (.type "NoneType")
 |bl (x:Bool):nq K H (.bl x) (.type "bool")
 |int (i:Int):nq K H (.int i) (.type "int")
 |str (x:Str):nq K H (.str x) (.type "str")
 |flt (x:UInt64):nq K H (.flt x) (.type "float")
 |lst {a:Addr} {xs:List V} (e:H a=some (.lst xs)):nq K H (.ref a) (.type "list")
 |frz {a:Addr} {o:Obj} {xs:List V} (e:H a=some (.frz o (.lst xs))):nq K H (.ref a) (.type "list")
 |tup {a:Addr} {xs:List V} (e:H a=some (.tup xs)):nq K H (.ref a) (.type "tuple")
 |dK {a:Addr} {kvs:List (Key×V)} (e:H a=some (.dK kvs)):nq K H (.ref a) (.type "dict")
 |dT {a:Addr} {kvs:List (List Key×V)} (e:H a=some (.dT kvs)):nq K H (.ref a) (.type "dict")
 |ins {a C dx:Addr} {fs:List (Str×V)} (e:H a=some (.ins C dx fs)) (cl:Cls K C) (ha:fw K (.ref C) "__class__"=some (some (.builtin "object.__class__")))
   (hn:tP K (.builtin "object.__class__") "__get__"=some (some (.builtin "getset_descriptor.__get__"))) (htk:PySem.W.takesIn K (.builtin "object.__class__")=some true)
   (hm:AJ K C (.type "object")=some true):nq K H (.ref a) (.ref C)
def yp{x:V}{t:Value}(I:Inv X pins σ H s)(d:RelV x u)(ty:nq X.K H x t)(e:cE X.K t c=some b)(h:∀tk,Q (.bool b) {s with toks:=tk}):
  wpAny (model X.prog X.w) A (call (.builtin "isinstance") [u,c]) Q E s:=by
 cases ty with
 |non=>cases(show u=bL from d);exact dg PySem.W.kitx_none I.kIn True.intro e (fun z=>nomatch z) h
 |bl y=>cases(show u=AG y from d);exact dg PySem.W.kitx_bool I.kIn True.intro e (fun z=>nomatch z) h
 |int i=>obtain⟨t,q⟩:=(show ∃t,u=w8 i t from d);cases q;exact dg PySem.W.kitx_int I.kIn True.intro e (fun z=>nomatch z) h
 |str y=>obtain⟨t,q⟩:=(show ∃t,u=iP y t from d);cases q;exact dg PySem.W.kitx_str I.kIn True.intro e (fun z=>nomatch z) h
 |flt y=>obtain⟨t,q⟩:=(show ∃t,u=Value.float y t from d);cases q;exact dg PySem.W.kitx_float I.kIn True.intro e (fun z=>nomatch z) h
 | @lst a g ea=>cases(show u=bz a from d);obtain⟨_,_,n,_,f⟩:=(show dz X.prog X.w H s.heap a (.lst g)from I.hok a _ ea);exact dg IT I.kIn ⟨_,f,rfl⟩ e (fun z=>nomatch z) h
 | @frz a ob g ea=>cases(show u=bz a from d);obtain⟨_,_,_,n,_,f⟩:=(show dz X.prog X.w H s.heap a (.frz ob (.lst g))from I.hok a _ ea);exact dg IT I.kIn ⟨_,f,rfl⟩ e (fun z=>nomatch z) h
 | @tup a g ea=>cases(show u=bz a from d);obtain⟨_,_,_,p⟩:=(show dz X.prog X.w H s.heap a (.tup g)from I.hok a _ ea);obtain⟨o,f,j,_⟩:=p;exact dg PySem.W.kitx_tuple I.kIn ⟨o,f,j⟩ e (fun z=>nomatch z) h
 | @dK a kvs ea=>cases(show u=bz a from d);obtain⟨_,_,r,_,p⟩:=(show dz X.prog X.w H s.heap a (.dK kvs)from I.hok a _ ea);obtain⟨o,l,k,f,j,_⟩:=p;exact dg IU I.kIn ⟨o,f,j.1⟩ e (fun z=>nomatch z) h
 | @dT a kvs ea=>cases(show u=bz a from d);obtain⟨_,_,g,_,o,l,k,f,j,_⟩:=(show dz X.prog X.w H s.heap a (.dT kvs)from I.hok a _ ea);exact dg IU I.kIn ⟨o,f,j.1⟩ e (fun z=>nomatch z) h
 | @ins a C dx fs ea cl ha hn htk hm=>cases(show u=bz a from d);obtain⟨m,O,_⟩:=ins_get I.hok ea;obtain⟨od,J,_⟩:=O.look;exact dg (PySem.W.kitx_own (cl.get _) cl.hd ha hn htk hm) I.kIn J e (fun z=>nomatch z) h
end
structure i5(k:Nat)(A:Around):Prop where
 hd:A.handled=none
 dp:A.depth+3*k+5<jL
 un:A.units+16*k+200<cLine
def i5.mono(r:i5 k A)(h:j<=k):i5 j A:=⟨r.hd,by have :=r.dp;lia,by have :=r.un;lia⟩
theorem i5.deeper(r:i5 (k+1) A)(env:Env):i5 k (A.deeper env):=
 ⟨r.hd,by have :=r.dp;show A.depth+1+3*k+5<_;lia,by have :=r.un;show A.units+3+16*k+200<_;lia⟩
def Eb{a:List (Str×Value)}:(A.under (.builtin "type.__call__" ⟨.ref C::us,a⟩)).depth=A.depth+1:=by first |rfl|simp[Dq,Code.weight,Code.isCreation,Code.isGuard,Code.isCaller,Code.frames,GP,guardIds]
def Ea{a:List (Str×Value)}:(A.under (.builtin "type.__call__" ⟨.ref C::us,a⟩)).units=A.units+1:=by first |rfl|simp[Dq,Code.cUnits,Code.frames,GP]
def i5.make(r:i5 (k+1) A)(C:Addr)(us:List Value)(a:List (Str×Value)):i5 k (A.under (.builtin "type.__call__" ⟨.ref C::us,a⟩)):=
 ⟨r.hd,by have :=r.dp;rw[Eb];lia,by have :=r.un;rw[Ea];lia⟩
theorem i5.depth(r:i5 k A):A.depth<jL:=by have :=r.dp;lia
theorem i5.units(r:i5 k A):A.units+64<cLine:=by have :=r.un;lia
def vm:TA:=fun _ H Q=>Q [] H
def mU(ta:TE)(a:TA):TA:=fun σ H Q=>ta σ H fun x H1=>a σ H1 fun xs H2=>Q (x::xs) H2
section
variable {X:Cx}{es:List Expr}{te:TE}{t:TA}
def k9:PA X [] vm:=fun _ _ _ _ H Q I h=>Calls.spliced_nil ⟨[],H,I,.nil,h⟩
def gV(j:PE X e te)(k:PA X es t)(l:bh (e::es) X.env=(false,eval e X.env)::bh es X.env:=by rfl):PA X (e::es) (mU te t):=by intro b a s c H Q I h;rw[l];show wpAny _ _ (spliced ((false,eval e X.env)::backTo b (bh es X.env))) _ _ s;refine M7 (thn (j a s c H _ I h) fun u q ⟨x,d,g,o,m⟩=>?_);exact thn (k b a q c d _ g m) fun w v ⟨r,f,i,p,n⟩=>⟨x::r,f,i,.cons o p,n⟩
def tTup(t:TA):TE:=fun σ H Q=>t σ H fun xs H1=>xs.length<=sizeLine/\∀p,H1 p=none->Q (.ref p) (upd H1 p (.tup xs))
def tLst(t:TA):TE:=fun σ H Q=>t σ H fun xs H1=>xs.length<=sizeLine/\∀p,H1 p=none->Q (.ref p) (upd H1 p (.lst xs))
def KA{x1}(h:PA X es t):PE X (.Tuple es x1 pos) (tTup t):=by intro f s j H Q I hq;refine wpAny_Tuple_spliced (thn (h pos f s j H _ I hq) fun g a ⟨i,c,d,r,z,q⟩=>⟨by rw[<-r.length];exact z,?_⟩);have hf:c a.heap.objs.size=none:=d.hok.fresh (av _);refine⟨.ref a.heap.objs.size,upd c a.heap.objs.size (.tup i),d.laid (t':=a.toks) (fun b u e=>ag _ e) (av _) ?_,rfl,q _ hf⟩;exact⟨z,g,r,⟨_,ax _ rfl,rfl,_,rfl⟩⟩
def KI(h:PA X es t):PE X (.List es pos) (tLst t):=by intro f s j H Q I hq;refine wpAny_List_spliced (thn (h pos f s j H _ I hq) fun g a ⟨i,c,d,r,z,q⟩=>⟨by rw[<-r.length];exact z,?_⟩);have hf:c a.heap.objs.size=none:=d.hok.fresh (av _);refine⟨.ref a.heap.objs.size,upd c a.heap.objs.size (.lst i),d.laid (t':=a.toks) (fun b u e=>ag _ e) (av _) ?_,rfl,q _ hf⟩;exact⟨z,g,0,r,ax _ rfl⟩
end
noncomputable abbrev Sp:=List V->Hp->VK->XK->Prop
noncomputable abbrev CXT:=List Env->Hp->Shared->XK->Value->Shared->Prop
structure EN(P:Program)(w:World)(K:ah)(mg:Str->Option Value)(base:Heap)(A:Around)(outer:List Env)(s:Shared)(H:Hp):Prop where
 frames:A.frames=some outer
 mod:Mod K mg base
 bs:∀b o,base.get? b=some o->s.heap.get? b=some o/\H b=none
 bsz:base.objs.size<=s.heap.objs.size
 wx:s.heap.FunFrames base outer
 frf:∀b∈frs outer,H b=none
 hok:HOk P w H s.heap
 bare:pJ s.gens
def CE(outer:List Env)(P:Program)(w:World)(H:Hp)(s:Shared)(Q:VK)(u:Value)(s':Shared):Prop:=
 ∃v H',s'.os=s.os/\pJ s'.gens/\Un (frs outer) [] H H' s.heap s'.heap/\HOk P w H' s'.heap/\RelV v u/\Q v H'
def CR(CX:CXT)(outer:List Env)(P:Program)(w:World)(H:Hp)(s:Shared)(Q:VK)(E:XK)(r:Result)(s':Shared):Prop:=
 match r with
 |.ok (.ret u)=>CE outer P w H s Q u s'
 |.ok _=>False
 |.error e=>CX outer H s E e s'
structure jm(P:Program)(w:World)(K:ah)(mg:Str->Option Value)(base:Heap)(CX:CXT)(k:Nat)(f:Addr)(fd:fg)(ps:List Str)(sp:Sp):Prop where
 len:∀vs H Q E,sp vs H Q E->vs.length=ps.length
 run:∀(A:Around)(outer:List Env)(s:Shared)(H:Hp)(args:Args)(us:List Value)(vs:List V)(Q:VK)(E:XK),i5 k A->EN P w K mg base A outer s H->BindsTo s fd args (ps.zip us)->bG vs us->sp vs H Q E->
  gA (model P w) A (.call (.ref f) args) (CR CX outer P w H s Q E) s
def EN.make{outer:List Env}{H:Hp}(e:EN P w K mg base A outer s H)(C:Addr)(us:List Value)(a:List (Str×Value)):
  EN P w K mg base (A.under (.builtin "type.__call__" ⟨.ref C::us,a⟩)) outer s H:=⟨by first |exact e.frames| (simpa[Dq,Code.envs,GP,pushEnvs]using e.frames),e.mod,e.bs,e.bsz,e.wx,e.frf,e.hok,e.bare⟩
section
variable {X:Cx}{pins:List (Addr×Obj)}{σ:St}{H:Hp}{s s':Shared}
def Inv.env0(I:Inv X pins σ H s):EN X.prog X.w X.K X.mg X.base X.A X.stack s H:=
 ⟨I.ok.frames,I.ok.mod,I.bs,aF I.ok.bsz I.sz,I.stack,I.y6,I.hok,I.bare⟩
def Inv.after{Q:VK}(I:Inv X pins σ H s)(h:CE X.stack X.prog X.w H s Q u s'):EP X pins σ Q u s':=by obtain⟨v,a,i,c,un,f,r,q⟩:=h;obtain⟨e,g,d,t,j⟩:=s';obtain rfl:j=s.os:=i;exact⟨v,a,I.call (h':=e) (g':=g) (d':=d) (t':=t) (ch:=[]) un f c (fun b z=>absurd z (by simp)),r,q⟩
end
def A5(sp:Sp)(am:List V)(E:XK)(t:TA):TE:=fun σ H Q=>t σ H fun vs H1=>sp (vs++am) H1 Q E
def Binds(K:ah)(fd:fg)(ps:List Str)(ds:List Value):Prop:=
 ∀(s:Shared)(us:List Value),K.In s.heap->(us++ds).length=ps.length->BindsTo s fd ⟨us,[]⟩ (ps.zip (us++ds))
def Binds.all{a:fg}(h:∀us:List Value,us.length=ps.length->qK a ⟨us,[]⟩=pure (ps.zip us)):Binds K a ps []:=fun s us _ b=>by rw[ff]at b⊢;exact .of_eq (h us b)
section
variable {X:Cx}{CX:CXT}{f C:Addr}{fd:fg}{ps:List Str}{sp:Sp}{am:List V}{ds:List Value}{E:XK}{x m:Str}{p apos:Pos}{es:List Expr}{ta:TE}{t:TA}
structure Mk(K:ah)(C f:Addr):Prop where
 makes:PySem.W.makesIn K C=true
 init:fw K (.ref C) "__init__"=some (some (.ref f))
 fn:PySem.W.isFn K (.ref f)=true
 kp:b7 K (.ref C)=true
end
structure u7(N P:List Str)(sc:Scope):Prop where
 kind:sc.kind=.function
 co:sc.isCoroutine=false
 gen:sc.isGenerator=false
 nd:N.Nodup
 pre:N.take P.length=P
 par:∀x∈P,sc.names.lookup x=some .local\/sc.names.lookup x=some .cell
 nofree:∀y∈sc.names,y.2≠.free
theorem yK{b:Str->Option dZ}{x:Str}:∀{binds:List (Str×Value)}{m:Str->Option Value},(∀v,(x,v)∉binds)->bindL b binds m x=m x
 | [],_,_=>rfl
 | (n,v)::r,m,h=>by
  unfold bindL;rw[yK fun w a=>h w (aD _ a)];split
  ·have :x≠n:=by rintro rfl;exact h v aL
   simp[this]
  ·rfl
theorem yM{b:Str->Option dZ}{x:Str}:∀{binds:List (Str×Value)}{m:Str->Option Value},(∀v,(x,v)∉binds)->bindC b binds m x=m x
 | [],_,_=>rfl
 | (n,v)::r,m,h=>by
  unfold bindC;rw[yM fun w a=>h w (aD _ a)];split;·rfl
  ·have :x≠n:=by rintro rfl;exact h v aL
   simp[this]
theorem yL{a:Str->Option dZ}{x:Str}{v:Value}:∀{P:List Str}{vs:List Value}{i:Nat}{m:Str->Option Value},P.Nodup->P[i]? =some x->vs[i]? =some v->a x=some .local->
  bindL a (P.zip vs) m x=some v
 | [],_,_,_,_,h,_,_=>by simp at h
 |_::_,[],_,_,_,_,h,_=>by simp at h
 |p::P,w::vs,0,m,nd,h1,h2,hk=>by simp at h1 h2;subst h1;subst h2;show bindL a ((p,w)::P.zip vs) m p=_;unfold bindL;rw[yK fun v b=>(cG.mp nd).1 (yR b).1,if_pos hk];simp
 |p::P,w::vs,i+1,m,nd,h1,h2,hk=>by show bindL a ((p,w)::P.zip vs) m x=_;unfold bindL;exact yL (i:=i) (cG.mp nd).2 (by simpa using h1) (by simpa using h2) hk
theorem yN{a:Str->Option dZ}{x:Str}{v:Value}:∀{P:List Str}{vs:List Value}{i:Nat}{m:Str->Option Value},P.Nodup->P[i]? =some x->vs[i]? =some v->a x≠some .local->
  bindC a (P.zip vs) m x=some v
 | [],_,_,_,_,h,_,_=>by simp at h
 |_::_,[],_,_,_,_,h,_=>by simp at h
 |p::P,w::vs,0,m,nd,h1,h2,hk=>by simp at h1 h2;subst h1;subst h2;show bindC a ((p,w)::P.zip vs) m p=_;unfold bindC;rw[yM fun v b=>(cG.mp nd).1 (yR b).1,if_neg hk];simp
 |p::P,w::vs,i+1,m,nd,h1,h2,hk=>by show bindC a ((p,w)::P.zip vs) m x=_;unfold bindC;exact yN (i:=i) (cG.mp nd).2 (by simpa using h1) (by simpa using h2) hk
abbrev start(N:List Str)(vs:List V):St:=vs.map some++bj (N.length-vs.length) none
abbrev Ai(CX:CXT)(P:Program)(w:World)(K:ah)(mg:Str->Option Value)(base:Heap)(N:List Str)(qual:Str)(scope:Scope)(f:Addr)(cd:Value)(A:Around)(outer:List Env)(s:Shared)(H:Hp)(E:XK):Cx where
 prog:=P
 w:=w
 K:=K
 mg:=mg
 base:=base
 A:=A.deeper (envOfC qual scope s.heap.objs.size f cd)
 N:=N
 s₀:=s
 H₀:=H
 env:=envOfC qual scope s.heap.objs.size f cd
 outer:=outer
 stack:=envOfC qual scope s.heap.objs.size f cd::outer
 ex:=[]
 calm:=true
 fn:=fun _=>true
 pn:=[]
 xe:=fun e s'=>wpAny (model P w) (A.deeper (envOfC qual scope s.heap.objs.size f cd)) (leaving (envOfC qual scope s.heap.objs.size f cd) e) (fun _ a=>CX outer H s E e a) (fun b a=>CX outer H s E b a) s'
def Cr{x:Str}(h:sc.names.lookup x=some .cell):∃c,(cy n sc.names []).lookup x=some c:=by have q:=C6 sc.names n [] (.inl h);exact cg.mp q
def HR{CX:CXT}{cd:Value}{outer:List Env}{B:Shared}{H:Hp}{E:XK}{vs:List V}
  (S:u7 N ps scope)(D:A.handled=none)(g:EN P w K mg base A outer s H)(I:vs.length=ps.length)(r:bG vs us)
  (x:InCallC s s.heap.objs.size (bindL (envOfC qual scope s.heap.objs.size f cd).kindOf (ps.zip us) fun _=>none) (cy (s.heap.objs.size+1) scope.names []) (bindC (envOfC qual scope s.heap.objs.size f cd).kindOf (ps.zip us) fun _=>none) B):
  Inv (Ai CX P w K mg base N qual scope f cd A outer s H E) [] (start N vs) H B:=by
 have J:ps.length<=N.length:=by have :=congrArg eL S.pre;rw[cY]at this;lia
 obtain⟨j,tk,rfl,m⟩:=x.done;have l:∀b:Addr,b∉(Ai CX P w K mg base N qual scope f cd A outer s H E).ex:=fun b z=>absurd (show b∈([]:List Addr)from z) (by simp);refine⟨⟨g.mod,S.kind,rfl,rfl,av _,fun y z c j d=>?_,fun y hy=>?_,fun y c _ h=>?_,fun _=>D,Around.frames_deeper g.frames,.inr ⟨rfl,rfl⟩,fun b z=>absurd z (l b),g.bs,g.bsz,fun b _ _=>l b,fun b z=>absurd z (l b),g.wx,g.frf⟩,
  rfl,g.bare,Un.kept m,⟨_,x.toInCall.ns,fun i y v j d G=>?_⟩,fun y c h=>⟨_,x.cell y c h⟩,g.hok.fresh (av _),fun y c h=>?_,fun p hp=>absurd (show p∈([]:List (Addr×Obj))from hp) (by simp),g.hok.kept m,?_⟩
 ·exact name_of_addr x.apart (bw j) (bw d)
 ·have hy:scope.names.lookup y=some .cell\/scope.names.lookup y=some .free:=hy;rcases hy with hy|hy;·exact Cr hy
  ·exact absurd rfl (S.nofree _ (bw hy))
 ·exact lE (x.above y c (bw h))
 ·have hi:i<vs.length:=by
   unfold start at d;by_cases hi:i<vs.length;·exact hi
   ·rw[bU (by simpa using hi)]at d;rw[List.getElem?_replicate]at d;split at d<;>cases d
  have C:vs[i]? =some v:=by
   unfold start at d;rw[cB (by simpa using hi),aC]at d;cases e:vs[i]? with
   |none=>rw[e]at d;cases d
   |some a=>rw[e]at d;cases d;rfl
  obtain⟨u,o,F⟩:=r.get C;have hp:ps[i]? =some y:=by rw[<-S.pre,Dj (by lia)];exact j
  have t:ps.Nodup:=by rw[<-S.pre];exact S.nd.sublist (ve _ _)
  refine⟨u,F,?_⟩;rcases S.par y (aI hp)with k|k;·exact .inl ⟨k,yL t hp o k⟩
  ·obtain⟨c,e⟩:=Cr (n:=s.heap.objs.size+1) k;refine .inr ⟨.inl k,c,e,?_⟩;have q:=x.cell y c e;rw[yN t hp o (by show scope.names.lookup y≠_;rw[k];decide)]at q;exact q
 ·exact g.hok.fresh (lE (x.above y c (bw h)))
 ·unfold start;show _=N.length;rw[aU,ai,jB];lia
def fn_of{CX:CXT}{name:Str}{B:Arguments}{h:List Stmt}{dV kV:Value}{an od:Option Addr}
  {sp:Sp}(X:K.lookup f=some ⟨oc,od,.func (aB name qual B h scope dV kV bi pm an ap ct),bv⟩)(L:eJ K ap qual=true)(S:u7 N ps scope)
  (len:∀vs H Q E,sp vs H Q E->vs.length=ps.length)
  (G:∀(A:Around)(c:List Env)(s:Shared)(H:Hp)(vs:List V)(Q:VK)(E:XK),i5 k (A.deeper (envOfC qual scope s.heap.objs.size f ap))->sp vs H Q E->
   ∃t,PSs (Ai CX P w K mg base N qual scope f ap A c s H E) h t/\t {nx:=fun _ H'=>Q .non H',rt:=Q} (start N vs) H):
  jm P w K mg base CX (k+1) f (aB name qual B h scope dV kV bi pm an ap ct) ps sp:=by
 refine⟨len,fun A c s H Z Y vs Q E i d F r z=>?_⟩;have R:=len _ _ _ _ z;have m:K.In s.heap:=d.mod.kin.keeps fun b o e=>(d.bs b o e).1;have W:s.heap.NoLimit:=d.mod.nolimit.keeps fun b o e=>(d.bs b o e).1;have O:∀y∈ps.zip Y,scope.names.lookup y.1=some .local\/(scope.names.lookup y.1=some .cell/\((cy (s.heap.objs.size+1) scope.names []).lookup y.1).isSome=true):=fun⟨n,v⟩ U=>by
  rcases S.par n (yR U).1 with q|q;·exact .inl q
  ·exact .inr ⟨q,C6 _ _ _ (.inl q)⟩
 refine codeAny_call_function i.depth (m _ _ X) rfl S.co S.gen rfl (PySem.W.codeRec_of m L) (F _ _ _ _ ?_);refine wpAny_newFunctionEnv_cells S.kind O fun a0 M C x=>?_;subst M;refine⟨W.keeps x.toInCall.keep,codeAny_func ?_⟩;obtain⟨t,T,hq⟩:=G A c s H vs Q E (i.deeper _) z;have I:Inv (Ai CX P w K mg base N qual scope f ap A c s H E) [] (start N vs) H C:=HR S i.hd d R r x;refine cL (T [] C (start N vs) H _ I hq) (fun D l a=>?_) fun e l a=>a;have p:∀{g:St}{H':Hp}{v:V}{u:Value},Inv (Ai CX P w K mg base N qual scope f ap A c s H E) [] g H' l->RelV v u->Q v H'->CE c P w H s Q u l:=
  fun{g H' v u} J j q=>⟨v,H',J.os,J.bare,J.base,J.hok,j,q⟩
 cases D with
 |ret u=>obtain⟨v,g,H',J,j,q⟩:=a;exact p J j q
 |next =>obtain⟨g,H',J,q⟩:=a;exact p (v:=V.non) (u:=bL) J rfl q
 |brk=>obtain⟨_,_,_,q⟩:=a;exact gL q
 |cont=>obtain⟨_,_,_,q⟩:=a;exact gL q
section
variable {X:Cx}{x:Str}{p:Pos}{es:List Expr}{t:TA}{id T:String}{r:List V->Hp->VK->Prop}
def tCB(r:List V->Hp->VK->Prop)(t:TA):TE:=fun σ H Q=>t σ H fun vs H1=>r vs H1 Q
def KS(g:fC X (.builtin id) r)(k:Gl X x)(l:X.mg x=none)(o:fJ x=some (.builtin id))(f:PA X (e::es) t)(m:x≠"__name__":=by decide) (i:(x==("__debug__":Str))=false:=by decide)
  (j:bh (e::es) X.env=(false,eval e X.env)::bh es X.env:=by rfl) (n:(backTo pos (bh es X.env)).any (·.1)=false:=by rfl):PE X (.Call (.Name x p) (e::es) [] pos) (tCB r t):=by
 intro a s b H Q I h;refine eZ (mL I k l o ?_ m i);exact iQ (thn (f pos a s b H _ I h) fun w v ⟨y,c,d,u,q⟩=>g a v b c y w Q d u q) j n
def Hn(g:fC X (.type T) r)(k:Gl X x)(l:X.mg x=none)(o:fJ x=some (.type T))(f:PA X (e::es) t)(m:x≠"__name__":=by decide) (i:(x==("__debug__":Str))=false:=by decide)
  (j:bh (e::es) X.env=(false,eval e X.env)::bh es X.env:=by rfl) (n:(backTo pos (bh es X.env)).any (·.1)=false:=by rfl):PE X (.Call (.Name x p) (e::es) [] pos) (tCB r t):=by
 intro a s b H Q I h;refine eZ (mL I k l o ?_ m i);exact d0 (thn (f pos a s b H _ I h) fun w v ⟨y,c,d,u,q⟩=>g a v b c y w Q d u q) j n
end
end L2
variable {X:L2.Cx}{H H' H1 Hb:L2.Hp}{σ:L2.St}{v x y:L2.V}{cs am rs xs ys zs:List L2.V}
namespace HT
open PySem PyProof.Rows
section
open PySem.SeqAt
open PySem.AutoSeq1 (wpAny_loadPart')
open PySem.MeetsSeq PySem.MeetsSeq2 PySem.MeetsSeq3
end
section
variable {E:Value->Shared->Prop}{s:Shared}
def cat_tup{t:Addr}{Q:Value->Shared->Prop}(v:IsTup s.heap t vs.toArray)(r:IsTup s.heap b ws.toArray)(k:vs≠[])
  (p:ws=[]->Q (.ref t) s)(q:ws≠[]->Q (.ref s.heap.objs.size) {s with heap:=s.heap.push {cls:=.type "tuple",data:=.seq (vs++ws).toArray}})
  (u:vs.length+ws.length<=sizeLine):wpAny (model prog w) A (eD .Add (.ref t) (.ref b)) Q E s:=by
 obtain⟨⟨cls,d,data,m⟩,a,g,n,i⟩:=id v;obtain⟨⟨x,f,y,o⟩,c,h,l,j⟩:=id r;simp only at g i h j;subst g i h j;have e:vs.toArray++ws.toArray=(vs++ws).toArray:=by simp
 by_cases hw:ws=[]
 ·exact concat_meets ⟨_,a,rfl⟩ ⟨_,c,rfl⟩ C3 MQ nu mQ (mq _ _)
   (tuple_addW1 t b vs.toArray ws.toArray n l d f m o (by simpa using k) (by simp[hw])) ⟨a,c,p hw⟩
 ·refine concat_meets ⟨_,a,rfl⟩ ⟨_,c,rfl⟩ C3 MQ nu mQ (mq _ _)
   (tuple_addW2 t b vs.toArray ws.toArray n l d f m o (by simpa using k) (by simpa using hw) (by rw[aw,aw];exact u)) ⟨a,c,?_⟩
  rw[e];exact q hw
abbrev sIx(n d:Nat):Option Int->Nat
 |none=>d
 |some v=>if v<0 then(v+(n:Int)).toNat else min v.toNat n
theorem vE(n d:Nat):sIx n d none=d:=rfl
def qT(n d k:Nat):sIx n d (some (k:Int))=min k n:=by show(if(k:Int)<0 then((k:Int)+(n:Int)).toNat else min (k:Int).toNat n)=min k n;rw[if_neg (by lia),aQ]
def vF(n d:Nat)(a:d<=n)(o:Option Int):sIx n d o<=n:=by
 cases o with
 |none=>exact a
 |some v=>
  show(if v<0 then(v+(n:Int)).toNat else min v.toNat n)<=n;by_cases hv:v<0;·rw[if_pos hv];lia
  ·rw[if_neg hv];exact Nat.min_le_right _ _
def clip_eq(v:Int)(n d:Nat):(if v<0 then max (v+(n:Int)) 0 else min v (n:Int))=((sIx n d (some v):Nat):Int):=by
 show(if v<0 then max (v+(n:Int)) 0 else min v (n:Int))=(((if v<0 then(v+(n:Int)).toNat else min v.toNat n):Nat):Int);by_cases hv:v<0;·simp only[if_pos hv];lia
 ·simp only[if_neg hv];lia
end
end HT
namespace L2
open PySem PySem.Spec PyProof.Rows
noncomputable abbrev TO:=St->Hp->(Option Int->Hp->Prop)->Prop
def PO(X:Cx)(e:Option Expr)(t:TO):Prop:=
 ∀(pins:List (Addr×Obj))(s:Shared)(σ:St)(H:Hp)(Q:Option Int->Hp->Prop),Inv X pins σ H s->t σ H Q->
  wpAny (model X.prog X.w) X.A (evalPart e X.env) (fun u s'=>∃o H',Inv X pins σ H' s'/\IsPart u o/\Q o H') X.xe s
def yZ:TO:=fun _ H Q=>Q none H
def Ju(t:TE):TO:=fun σ H Q=>t σ H fun x H1=>∃i,x=.int i/\Q (some i) H1
def intsAre_of:∀{us:List Value},bG (ns.map V.int) us->bY us ns:=by
 induction ns with
 |nil=>intro us r;rw[hJ]at r;cases r;exact .nil
 |cons n ns ih=>
  intro us r;rw[a8]at r;cases r with
  |cons r1 r2=>obtain⟨t,e⟩:=r1;subst e;exact .cons n t (ih r2)
section
variable {te:TE}{lo hi:Option Expr}{tl th:TO}{p2:Pos}
def po_none:PO X none yZ:=by intro a s b H Q I h;rw[evalPart_none];exact aj ⟨none,H,I,.none,h⟩
def po_some(h:PE X e te):PO X (some e) (Ju te):=by intro d s j H Q I c;rw[evalPart_some];refine thn (h d s j H _ I c) fun u k ⟨x,a,b,g,f⟩=>?_;obtain⟨i,rfl,q⟩:=f;obtain⟨t,rfl⟩:=g;exact⟨some i,a,b,.int i t,q⟩
def SlR(X:Cx)(r:V->Option Int->Option Int->Hp->VK->Prop):Prop:=
 ∀(pins:List (Addr×Obj))(s:Shared)(σ:St)(H:Hp)(x:V)(v a b:Value)(lo hi:Option Int)(sl:Addr)(Q:VK),Inv X pins σ H s->RelV x v->s.heap.IsSliceOf sl a b .none->IsPart a lo->IsPart b hi->r x lo hi H Q->
  ∃T id,typeLookup (.type T) "__getitem__"=pure (some (.builtin id))/\s.TypeIs v T/\wpAny (model X.prog X.w) X.A (getItem v (.ref sl)) (EP X pins σ Q) X.xe s
def SlR.or{r e:V->Option Int->Option Int->Hp->VK->Prop}(h:SlR X r)(h':SlR X e):SlR X (fun x lo hi H Q=>r x lo hi H Q\/e x lo hi H Q):=by
 intro b s k H x v i j lo hi g Q I f a c d q;rcases q with q|q;·exact h b s k H x v i j lo hi g Q I f a c d q
 ·exact h' b s k H x v i j lo hi g Q I f a c d q
def tSl(r:V->Option Int->Option Int->Hp->VK->Prop)(te:TE)(tl th:TO):TE:=fun σ H Q=>te σ H fun x H1=>tl σ H1 fun l H2=>th σ H2 fun u a=>r x l u a Q
def KE{r:V->Option Int->Option Int->Hp->VK->Prop}(z:SlR X r)(t:PE X e te)(y:PO X lo tl)(B:PO X hi th):PE X (.Subscript e (.Slice lo hi none p2) pos) (tSl r te tl th):=by intro c s d H Q I h;refine Subscript_ (thn (t c s d H _ I h) fun v K ⟨x,i,k,J,E⟩=>?_);refine wpAny_Slice (thn (y c K d i _ k E) fun f L ⟨l,j,m,C,F⟩=>thn (B c L d j _ m F) fun vu a ⟨u,g,n,D,G⟩=>?_);rw[evalPart_none];refine aj ?_;have o:Inv X c d g {a with heap:=a.heap.push {cls:=.type "slice",data:=.fields #[f,vu,.none]}}:=n.kept (t':=a.toks) fun b M q=>ag _ q;obtain⟨T,id,p,A,w⟩:=z c {a with heap:=a.heap.push {cls:=.type "slice",data:=.fields #[f,vu,.none]}} d g x v f vu l u a.heap.objs.size Q o J (Heap.IsSliceOf.new ..) C D G;show wpAny (model X.prog X.w) X.A (MP e (.Slice lo hi none p2) v (.ref a.heap.objs.size)) (EP X c d Q) X.xe {a with heap:=a.heap.push {cls:=.type "slice",data:=.fields #[f,vu,.none]}};exact tail_any (ops:=[.ref a.heap.objs.size,v]) A p w (by with_unfolding_all rfl)
abbrev lq(xs:List V)(lo hi:Option Int):List V:=(xs.drop (HT.sIx xs.length 0 lo)).take (HT.sIx xs.length xs.length hi-HT.sIx xs.length 0 lo)
def Cm(xs:List V)(lo hi:Option Int):(lq xs lo hi).length<=xs.length:=by unfold lq;rw[cY,cZ];lia
def Fp(K:ah):R2:=fun x y H Q=>∃a b xs ys,x=.ref a/\y=.ref b/\SqT K H a xs/\SqT K H b ys/\xs≠[]/\xs.length+ys.length<=sizeLine/\
 (ys=[]->Q (.ref a) H)/\(ys≠[]->∀p,H p=none->Q (.ref p) (upd H p (.tup (xs++ys))))
def bG.zN(r:bG xs us):us=[]↔xs=[]:=by
 cases r with
 |nil=>simp
 |cons _ _=>simp
def op_catT:OpR X (eD .Add) (Fp X.K):=by intro D s E H x y v u Q I n p h;obtain⟨a,b,r,t,rfl,rfl,f,g,i,e,l,m⟩:=h;cases n;cases p;obtain⟨A,d,j,_⟩:=I.tuple f;obtain⟨B,c,k,_⟩:=I.tuple g;refine HT.cat_tup j k (fun z=>i (d.zN.mp z)) (fun z=>⟨.ref a,H,I,rfl,l (c.zN.mp z)⟩) (fun z=>?_) (by rw[<-d.length,<-c.length];exact e);refine⟨.ref s.heap.objs.size,_,I.laid (t':=s.toks) (o:=.tup (r++t)) (fun b C q=>ag _ q) (av _) ?_,rfl,m (fun w=>z (c.zN.mpr w)) _ (I.hok.fresh (av _))⟩;exact⟨by rw[aU];exact e,_,d.append c,IsTup.new _ _⟩
end
abbrev ixN(n:Nat)(i:Int):Option Nat:=if 0<=i then(if i<n then some i.toNat else none)else if -(n:Int)<=i then some (i+n).toNat else none
abbrev atI{α:Type}(xs:List α)(i:Int):Option α:=(ixN xs.length i).bind fun j=>xs[j]?
def F4{i:Int}(h:ixN n i=some j):seqIndex? i n=some j/\j<n∧-(n:Int)<=i/\i<n:=by
 unfold ixN at h;by_cases h0:0<=i
 ·rw[if_pos h0]at h;by_cases h1:i<n;·rw[if_pos h1]at h;have e:i.toNat=j:=bc h;exact⟨by rw[uM h0 h1,e],by lia,by lia,h1⟩
  ·rw[if_neg h1]at h;cases h
 ·rw[if_neg h0]at h;by_cases h1: -(n:Int)<=i;·rw[if_pos h1]at h;have e:(i+n).toNat=j:=bc h;exact⟨by rw[seqIndex_neg (by lia) h1,e],by lia,h1,by lia⟩
  ·rw[if_neg h1]at h;cases h
def Av{a:Type}{xs:List a}{i:Int}{v:a}(h:atI xs i=some v):∃j,seqIndex? i xs.length=some j/\xs[j]? =some v/\j<xs.length∧-(xs.length:Int)<=i/\i<xs.length:=by
 unfold atI at h;cases e:ixN xs.length i with
 |none=>rw[e]at h;cases h
 |some j=>rw[e]at h;obtain⟨b,c,d,f⟩:=F4 e;exact⟨j,b,h,c,d,f⟩
def cC{a:Type}{xs:List a}{v:a}(h:xs[j]? =some v):atI xs (j:Int)=some v:=by
 have b:j<xs.length:=(aH.mp h).1;have e:ixN xs.length (j:Int)=some j:=by unfold ixN;rw[if_pos (by lia),if_pos (by lia)];simp
 unfold atI;rw[e];exact h
def GD(b:Expr):Prop:=∀o i,subscripted b false o i=operate [o,i] (getItem o i)
def IxR(X:Cx)(r:R2):Prop:=
 ∀(value a:Expr)(pins:List (Addr×Obj))(s:Shared)(σ:St)(H:Hp)(x y:V)(v u:Value)(Q:VK),Inv X pins σ H s->RelV x v->RelV y u->r x y H Q->
  subscripted a false v u=operate [v,u] (getItem v u)->wpAny (model X.prog X.w) X.A (MP value a v u) (EP X pins σ Q) X.xe s
def MtR(X:Cx)(id:String)(r:V->List V->Hp->VK->Prop):Prop:=
 ∀(pins:List (Addr×Obj))(s:Shared)(σ:St)(H:Hp)(x:V)(xs:List V)(v:Value)(us:List Value)(Q:VK),Inv X pins σ H s->RelV x v->bG xs us->r x xs H Q->
  wpAny (model X.prog X.w) X.A (call (.builtin id) (v::us)) (EP X pins σ Q) X.xe s
section
variable {a b:Expr}{ta tb:TE}
def IxR.or{r c:R2}(h:IxR X r)(h':IxR X c):IxR X (fun x y H Q=>r x y H Q\/c x y H Q):=by
 intro g f b s i H x y v u Q I d e q a;rcases q with q|q;·exact h g f b s i H x y v u Q I d e q a
 ·exact h' g f b s i H x y v u Q I d e q a
def MtR.or{id:String}{r b:V->List V->Hp->VK->Prop}(h:MtR X id r)(h':MtR X id b):MtR X id (fun x xs H Q=>r x xs H Q\/b x xs H Q):=by
 intro a s f H x xs v e Q I d c q;rcases q with q|q;·exact h a s f H x xs v e Q I d c q
 ·exact h' a s f H x xs v e Q I d c q
def pe_ix{r:R2}(g:IxR X r)(e:PE X a ta)(f:PE X b tb)(i:GD b):PE X (.Subscript a b pos) (tOp r ta tb):=by intro j s n H Q I h;exact Subscript_ (binT e f I h fun v u m x y c d k l q=>g a b j m n c x y v u Q d k l q (i _ _))
def rIxL(K:ah):R2:=fun x y H Q=>∃p xs i v,x=.ref p/\y=.int i/\SqL K H p xs/\atI xs i=some v/\Q v H
def rIxT(K:ah):R2:=fun x y H Q=>∃p xs i v,x=.ref p/\y=.int i/\SqT K H p xs/\atI xs i=some v/\Q v H
def rIxS:R2:=fun x y H Q=>∃z i c,x=.str z/\y=.int i/\z.length<=sizeLine/\atI z.cps.toList i=some c/\Q (.str ⟨#[c]⟩) H
def ix_list:IxR X (rIxL X.K):=by
 intro M L g s k H x y v u Q I D E h f;obtain⟨p,N,i,z,rfl,rfl,hq,o,q⟩:=h;cases D;obtain⟨t,rfl⟩:=E;obtain⟨B,r,c,K⟩:=I.list hq;obtain⟨j,a,l,G,m,n⟩:=Av o;obtain⟨w,d,C⟩:=r.get l;have A:=r.length;have J:=qr;have e:EP X g k Q w s:=⟨z,H,I,C,q⟩;by_cases h0:0<=i
 ·have b:i.toNat=j:=by rw[uM h0 n]at a;exact bc a
  exact item_listR c.isList h0 (by lia) (by rw[b];simpa using d) e f
 ·have b:(i+(B.toArray.size:Int)).toNat=j:=by rw[seqIndex_neg (by lia) m]at a;rw[aw,<-A];exact bc a
  exact sD (x:=w) c.isList.typeIs slot_list_getitem.lookup
   (wpAny_getItem_list_neg (Q:=fun r F=>r=w/\EP X g k Q r F) c.isList (by lia) (by rw[aw]<;>lia) (by lia) (by rw[b];simpa using d) ⟨rfl,e⟩) f
def ix_tup:IxR X (rIxT X.K):=by
 intro L K a s c H x y v u Q I o A h m;obtain⟨p,M,i,z,rfl,rfl,hq,k,q⟩:=h;cases o;obtain⟨t,rfl⟩:=A;obtain⟨J,r,b,G⟩:=I.tuple hq;obtain⟨j,f,g,C,D,E⟩:=Av k;obtain⟨w,d,n⟩:=r.get g;have l:=r.length;have F:=qr;have e:EP X a c Q w s:=⟨z,H,I,n,q⟩;exact sD (x:=w) b.typeIs slot_tuple_getitem.lookup
  (getItem_tuple (j:=j) (Q:=fun r B=>r=w/\EP X a c Q r B) b (by lia) (by lia) (by rw[aw,<-l];exact f) (by simpa using d) ⟨rfl,e⟩) m
def ix_str:IxR X rIxS:=by
 intro D B A s E H x y v u Q I n o h m;obtain⟨z,i,c,rfl,rfl,w,k,q⟩:=h;obtain⟨t,rfl⟩:=n;obtain⟨C,rfl⟩:=o;obtain⟨j,a,e,p,f,g⟩:=Av k;have l:z.cps.toList.length=z.length:=by simp[uP]
 rw[l]at a f g;have r:=qr;exact tail_any (typeIs_str s z t) slot_str_getitem.lookup (getItem_str (c:=c) (by have b:decide (i< -(2^63:Int))=false:=decide_eq_false (by lia);have d:decide (i≥ 2^63)=false:=decide_eq_false (by lia);rw[b,d,Bool.or_false]) (by rw[a];simpa using e) ⟨.str ⟨#[c]⟩,H,I.tok _,⟨_,rfl⟩,q⟩) m
def rIx(K:ah):R2:=fun x y H Q=>rIxL K x y H Q\/rIxT K x y H Q\/rIxS x y H Q
def ix_seq:IxR X (rIx X.K):=ix_list.or (ix_tup.or ix_str)
def D9(a:List Value)(n j:Nat)(u:Value):aZ (·.setIfInBounds j u) {cls:=.type "list",data:=.seq a.toArray n}={cls:=.type "list",data:=.seq (a.set j u).toArray n}:=by simp[aZ]
theorem Inv.lst{a:List (Addr×Obj)}{b:St}{H:Hp}{s:Shared}{p:Addr}{xs:List V}(I:Inv X a b H s)(h:H p=some (.lst xs)):
  ∃(al:List Value)(n:Nat),bG xs al/\s.heap.get? p=some {cls:=.type "list",data:=.seq al.toArray n}/\xs.length<=sizeLine:=by
 obtain⟨z,al,n,r,e⟩:=I.hok p _ h;exact⟨al,n,r,e,z⟩
def Inv.lstUpd{a:Nat}{f:Obj->Obj}(I:Inv X pins σ H s)(h:H p=some (.lst xs))
  (d:s.heap.get? p=some {cls:=.type "list",data:=.seq al.toArray n}) (hf:f {cls:=.type "list",data:=.seq al.toArray n}={cls:=.type "list",data:=.seq its'.toArray a}) (r:bG ys its') (hz:ys.length<=sizeLine) (t:Nat):
  Inv X pins σ (upd H p (.lst ys)) {s with heap:=s.heap.update p f,toks:=t}:=by
 have e:(s.heap.update p f).get? p=some {cls:=.type "list",data:=.seq its'.toArray a}:=by rw[bP f d (by rw[hf]<;>rfl),hf]
 refine I.write (x:=p) (e:=p) (by rw[h];trivial) (.inl rfl) (fun b u c q=>(aN _ _ (bE c)).trans q) ⟨_,e⟩ ?_;exact⟨hz,its',a,r,e⟩
abbrev Fn:V->V->V->Hp->(Hp->Prop)->Prop:=fun o i v H Q=>∃p xs k j,o=.ref p/\i=.int k/\H p=some (.lst xs)/\ixN xs.length k=some j/\Q (upd H p (.lst (xs.set j v)))
def set_list:PSet X Fn:=by
 intro x s C H o i v G F u Q I z y A h;obtain⟨p,B,k,j,rfl,rfl,hp,m,q⟩:=h;cases z;obtain⟨t,rfl⟩:=y;obtain⟨l,n,r,d,w⟩:=I.lst hp;obtain⟨a,D,f,g⟩:=F4 m;have c:=r.length;have E:=qr;have e:Inv X x C (upd H p (.lst (B.set j v))) {s with heap:=s.heap.update p (aZ (·.setIfInBounds j u))}:=
  I.lstUpd hp d (D9 l n j u) (r.set A j) (by rw[List.length_set];exact w) s.toks
 by_cases h0:0<=k
 ·have b:k.toNat=j:=by rw[uM h0 g]at a;exact bc a
  exact PySem.W.ki_setAt d h0 (by lia) (by rw[aw,<-c];exact g) (by rw[b];exact⟨_,e,q⟩)
 ·have b:(k+(l.toArray.size:Int)).toNat=j:=by rw[seqIndex_neg (by lia) f]at a;rw[aw,<-c];exact bc a
  exact PySem.W.ki_setBack d (by lia) (by rw[aw,<-c];exact f) (by lia) (by rw[b];exact⟨_,e,q⟩)
def zh(lo hi:Option Int)(n:Nat):(lC lo hi none n).1=((HT.sIx n 0 lo:Nat):Int)/\(lC lo hi none n).2.1=((HT.sIx n n hi:Nat):Int)/\(lC lo hi none n).2.2=1:=by
 refine⟨?_,?_,rfl⟩
 ·cases lo with
  |none=>simp[lC,HT.sIx]
  |some i=>
   simp only[lC,HT.sIx,vd,show(1:Int)>0 by decide,if_true];by_cases h:i<0;·simp only[h,if_true]<;>lia
   ·simp only[h,if_false]<;>lia
 ·cases hi with
  |none=>simp[lC,HT.sIx]
  |some i=>
   simp only[lC,HT.sIx,vd,show(1:Int)>0 by decide,if_true];by_cases h:i<0;·simp only[h,if_true]<;>lia
   ·simp only[h,if_false]<;>lia
def xy(a:List Value)(lo hi:Option Int):slicePick a.toArray lo hi none=((a.drop (HT.sIx a.length 0 lo)).take (HT.sIx a.length a.length hi-HT.sIx a.length 0 lo)).toArray:=by obtain⟨b,c,d⟩:=zh lo hi a.toArray.size;unfold slicePick;rw[b,c,d];simp only[sliceRange_one,pick_run,aw]<;>rfl
def rSlL(K:ah):V->Option Int->Option Int->Hp->VK->Prop:=fun x lo hi H Q=>∃a xs,x=.ref a/\SqL K H a xs/\∀p,H p=none->Q (.ref p) (upd H p (.lst (lq xs lo hi)))
def sl_list:SlR X (rSlL X.K):=by intro p s y H x v u w lo hi t Q I l f j k h;obtain⟨a,c,rfl,g,q⟩:=h;cases l;obtain⟨m,r,d,i⟩:=I.list g;have e:=r.length;refine⟨"list",_,slot_list_getitem.lookup,d.isList.typeIs,?_⟩;refine wpAny_getItem_list_slice d.isList f j k .none (by simp) ?_ (by rw[aw]<;>lia);rw[xy,<-e];refine⟨.ref s.heap.objs.size,_,I.laid (t':=s.toks) (o:=.lst (lq c lo hi)) (fun b n q=>ag _ q) (av _) ?_,rfl,q _ (I.hok.fresh (av _))⟩;exact⟨aF (Cm c lo hi) i,_,0,(r.drop (HT.sIx c.length 0 lo)).take (HT.sIx c.length c.length hi-HT.sIx c.length 0 lo),ax _ rfl⟩
abbrev rM:V->Bool
 |.non=>true
 |.bl _=>true
 |.int _=>true
 |.str _=>true
 |_=>false
abbrev eqV:V->V->Bool
 |.non,.non=>true
 |.bl a,.bl b=>a==b
 |.bl a,.int b=>(if a then 1 else 0)==b
 |.int a,.bl b=>a==(if b then 1 else 0)
 |.int a,.int b=>a==b
 |.str a,.str b=>a==b
 |_,_=>false
def gu{v:Value}(f:RelV y u)(c:RelV x v)(g:rM y=true)(e:rM x=true):MV A s u v (eqV y x):=by
 cases y with
 |non=>
  cases f;cases x with
  |non=>cases c;exact MV.same _
  |bl b=>cases c;exact MV.none_bool b
  |int b=>obtain⟨t,rfl⟩:=c;exact MV.none_int b t
  |str b=>obtain⟨t,rfl⟩:=c;exact MV.none_str b t
  |_=>exact absurd (show false=true from e) ao
 |bl a=>
  cases f;cases x with
  |non=>cases c;exact MV.bool_none a
  |bl b=>cases c;exact MV.bool_bool a b
  |int b=>obtain⟨t,rfl⟩:=c;exact MV.bool_int a b t
  |str b=>obtain⟨t,rfl⟩:=c;exact MV.bool_str a b t
  |_=>exact absurd (show false=true from e) ao
 |int a=>
  obtain⟨d,rfl⟩:=f;cases x with
  |non=>cases c;exact MV.int_none a d
  |bl b=>cases c;exact MV.int_bool a d b
  |int b=>obtain⟨t,rfl⟩:=c;exact MV.int_int a d b t
  |str b=>obtain⟨t,rfl⟩:=c;exact De a d b t
  |_=>exact absurd (show false=true from e) ao
 |str a=>
  obtain⟨d,rfl⟩:=f;cases x with
  |non=>cases c;exact MV.str_none a d
  |bl b=>cases c;exact MV.str_bool a d b
  |int b=>obtain⟨t,rfl⟩:=c;exact Dd a d b t
  |str b=>obtain⟨t,rfl⟩:=c;exact MV.str_str a d b t
  |_=>exact absurd (show false=true from e) ao
 |_=>exact absurd (show false=true from g) ao
abbrev eqU(x:V)(u:Value):Bool:=match u with
 |.none=>eqV .non x
 |.bool b=>eqV (.bl b) x
 |.int i _=>eqV (.int i) x
 |.str z _=>eqV (.str z) x
 |_=>false
def Ma(r:RelV y u)(f:rM y=true):eqU x u=eqV y x:=by
 cases y with
 |non=>cases r;rfl
 |bl b=>cases r;rfl
 |int i=>obtain⟨t,rfl⟩:=r;rfl
 |str z=>obtain⟨t,rfl⟩:=r;rfl
 |_=>exact absurd (show false=true from f) ao
theorem sx:∀{xs:List V}{us:List Value},bG xs us->xs.all rM=true->us.any (eqU x)=xs.any fun y=>eqV y x
 |_,_,.nil,_=>rfl
 |y::xs,u::us,.cons r t,f=>by rw[Dl,az]at f;rw[iF,iF,Ma r f.1,sx t f.2]
theorem nW{v:Value}(b:RelV x v)(a:rM x=true):∀{xs:List V}{us:List Value},bG xs us->xs.all rM=true->∀u∈us,MV A s u v (eqU x u)
 |_,_,.nil,_=>fun u hu=>by cases hu
 |y::xs,u::us,.cons r t,f=>fun c hu=>by
  rw[Dl,az]at f;rcases aG.mp hu with rfl|hu;·rw[Ma r f.1];exact gu r b f.1 a
  ·exact nW b a t f.2 c hu
abbrev inV(x:V)(xs:List V):Bool:=xs.any fun y=>eqV y x
def rIn(K:ah)(a:Bool):R2:=fun x y H Q=>∃p xs,y=.ref p/\(SqL K H p xs\/SqT K H p xs)/\rM x=true/\xs.all rM=true/\Q (.bl (if a then !inV x xs else inV x xs)) H
def Hu:OpR X (cX .In) (rIn X.K false):=by
 intro i s k H x y v u Q I e g h;obtain⟨p,j,rfl,hq,d,fs,q⟩:=h;cases g;rcases hq with hq|hq;·obtain⟨a,r,c,f⟩:=I.list hq;refine SeqAt.in_listAt (eqU x) c.isList (fun w b=>nW e d r fs w (by simpa using b)) ⟨.bl _,H,I,rfl,?_⟩;rw[show a.toArray.any (eqU x)=a.any (eqU x) by simp,sx r fs];exact q
 ·obtain⟨a,r,c,f⟩:=I.tuple hq;refine SeqAt.in_tupleAt (eqU x) c (fun w b=>nW e d r fs w (by simpa using b)) ⟨.bl _,H,I,rfl,?_⟩;rw[show a.toArray.any (eqU x)=a.any (eqU x) by simp,sx r fs];exact q
def zI:OpR X (cX .NotIn) (rIn X.K true):=by
 intro i s k H x y v u Q I e g h;obtain⟨p,j,rfl,hq,d,fs,q⟩:=h;cases g;rcases hq with hq|hq;·obtain⟨a,r,c,f⟩:=I.list hq;refine MU (eqU x) c.isList (fun w b=>nW e d r fs w (by simpa using b)) ⟨.bl _,H,I,rfl,?_⟩;rw[show a.toArray.any (eqU x)=a.any (eqU x) by simp,sx r fs];exact q
 ·obtain⟨a,r,c,f⟩:=I.tuple hq;refine SeqAt.notIn_tupleAt (eqU x) c (fun w b=>nW e d r fs w (by simpa using b)) ⟨.bl _,H,I,rfl,?_⟩;rw[show a.toArray.any (eqU x)=a.any (eqU x) by simp,sx r fs];exact q
def zH:OpR X (cX .NotIn) (fun x y H Q=>∃i j,x=.str i/\y=.str j/\Q (.bl (!(!(hU j i 0 j.length 1).isEmpty))) H):=by intro c s e H x y v u Q I a b h;obtain⟨i,j,rfl,rfl,q⟩:=h;obtain⟨t,rfl⟩:=a;obtain⟨d,rfl⟩:=b;exact notIn_str ⟨.bl _,H,I,rfl,q⟩
def Ap:fC X (.builtin "len") (fun xs H Q=>∃p ys,xs=[.ref p]/\(SqL X.K H p ys\/SqT X.K H p ys)/\Q (.int ys.length) H):=by
 intro i s k H xs j Q I r h;obtain⟨p,ys,rfl,hq,q⟩:=h;obtain⟨u,rfl,f⟩:=vals1 r;cases f;have g:=qr;rcases hq with hq|hq;·obtain⟨e,c,b,d⟩:=I.list hq;have a:=c.length;exact Calls.call_len_list b.isList (by simp only[aw]<;>lia) ⟨.int ys.length,H,I.tok _,⟨s.toks+1,by rw[aw,a]⟩,q⟩
 ·obtain⟨e,c,b,d⟩:=I.tuple hq;have a:=c.length;exact len_tuple b (by simp only[aw]<;>lia) ⟨.int ys.length,H,I.tok _,⟨s.toks+1,by rw[aw,a]⟩,q⟩
def Ao:fC X (.builtin "len") (fun xs H Q=>∃z,xs=[.str z]/\z.length<=sizeLine/\Q (.int z.length) H):=by intro c s e H xs d Q I r h;obtain⟨z,rfl,b,q⟩:=h;obtain⟨u,rfl,t,rfl⟩:=vals1 r;have a:=qr;exact len_str (by lia) ⟨.int z.length,H,I.tok _,⟨_,rfl⟩,q⟩
def fC.or{f:Value}{r b:List V->Hp->VK->Prop}(h:fC X f r)(h':fC X f b):fC X f (fun xs H Q=>r xs H Q\/b xs H Q):=by
 intro a s e H xs d Q I c q;rcases q with q|q;·exact h a s e H xs d Q I c q
 ·exact h' a s e H xs d Q I c q
def An:fC X (.type "list") (fun xs H Q=>∃p ys,xs=[.ref p]/\(SqL X.K H p ys\/SqT X.K H p ys)/\∀l,H l=none->Q (.ref l) (upd H l (.lst ys))):=by
 intro y s A H xs B Q I r h;obtain⟨p,ys,rfl,hq,q⟩:=h;obtain⟨u,rfl,z⟩:=vals1 r;cases z;have v:∀(c:List Value),bG ys c->ys.length<=sizeLine->∀(a:Heap)(d:Nat),(∀b w,s.heap.get? b=some w->a.get? b=some w)->
   a.get? s.heap.objs.size=some {cls:=.type "list",dict:=none,data:=.seq c.toArray d,slots:= #[]}->EP X y A Q (.ref s.heap.objs.size) {s with heap:=a}:=fun c f g a d i e=>
  ⟨.ref s.heap.objs.size,_,I.laid (t':=s.toks) i (av _) (show dz X.prog X.w _ a _ (.lst ys)from⟨g,c,d,f,e⟩),rfl,q _ (I.hok.fresh (av _))⟩
 rcases hq with hq|hq;·obtain⟨c,f,t,g⟩:=I.list hq;have x:=f.length;obtain⟨o,m,j,n,k⟩:=t.isList;exact call_list_seq p (.inl rfl) m j k (fun a d i e=>v c f g a d i e) (by simp only[aw]<;>lia)
 ·obtain⟨c,f,t,g⟩:=I.tuple hq;have x:=f.length;obtain⟨o,m,j,n,k⟩:=t;exact call_list_seq p (.inr rfl) m j k (fun a d i e=>v c f g a d i e) (by simp only[aw]<;>lia)
def xI:fC X (.type "tuple") (fun xs H Q=>∃p ys,xs=[.ref p]/\((SqL X.K H p ys/\∀l,H l=none->Q (.ref l) (upd H l (.tup ys)))\/(SqT X.K H p ys/\Q (.ref p) H))):=by
 intro j s k H xs w Q I r h;obtain⟨p,ys,rfl,h⟩:=h;obtain⟨u,rfl,t⟩:=vals1 r;cases t;rcases h with⟨hq,q⟩ |⟨hq,q⟩
 ·obtain⟨c,f,d,i⟩:=I.list hq;have v:=f.length;refine call_tuple_list d.isList (fun a n=>?_) (by simp only[aw]<;>lia);have g:Inv X j k H {s with heap:=a}:=I.kept (t':=s.toks) n;have m:Inv X j k (upd H a.objs.size (.tup ys)) {s with heap:=a.push {cls:=.type "tuple",data:=.seq c.toArray}}:=
   g.laid (t':=s.toks) (fun b o e=>ag _ e) (av _) (show dz X.prog X.w _ _ _ (.tup ys)from⟨i,c,f,IsTup.new _ _⟩)
  exact⟨.ref a.objs.size,_,m,rfl,q _ (g.hok.fresh (av _))⟩
 ·obtain⟨c,f,d,i⟩:=I.tuple hq;exact call_tuple_same d ⟨.ref p,H,I,rfl,q⟩
def tyV(K:ah)(T:String)(x:V)(H:Hp):Prop:=match x with
 |.str _=>T="str"
 |.int _=>T="int"
 |.ref p=>(T="list"/\∃xs,SqL K H p xs)\/(T="tuple"/\∃o,K.lookup p=some o/\o.cls=.type "tuple"/\o.dict=none)\/
   (T="dict"/\((∃kvs,H p=some (.dK kvs))\/∃kvs,H p=some (.dT kvs)))\/(T="set"/\∃S n,H p=some (.set S n))
 |_=>False
def tyV_is{T:String}{v:Value}(I:Inv X pins σ H s)(r:RelV x v)(ty:tyV X.K T x H):
  s.TypeIs v T/\∀a,v=.ref a->∃h,s.heap.get? a=some h/\h.dict=none:=by
 cases x with
 |str z=>obtain⟨t,rfl⟩:=r;cases(show T="str" from ty);exact⟨typeIs_str s z t,fun _ e=>nomatch e⟩
 |int i=>obtain⟨t,rfl⟩:=r;cases(show T="int" from ty);exact⟨typeIs_int s i t,fun _ e=>nomatch e⟩
 |ref p=>
  cases r;rcases ty with⟨rfl,q,hq⟩ |⟨rfl,o,b,k,g⟩ |⟨rfl,b⟩ |⟨rfl,S,n,b⟩;·obtain⟨m,_,j,_⟩:=I.list hq;refine⟨j.isList.typeIs,fun a e=>?_⟩;cases e;obtain⟨o,n,e,c,g,_⟩:=j;exact⟨o,e,g⟩
  ·refine⟨⟨o,I.kIn p o b,k⟩,fun a e=>?_⟩;cases e;exact⟨o,I.kIn _ o b,g⟩
  ·have z:∃o,s.heap.get? p=some o/\o.ExactDict:=by
    rcases b with⟨l,b⟩ |⟨l,b⟩;·obtain⟨_,_,_,_,o,_,_,e,d,_⟩:=I.hok p _ b;exact⟨o,e,d⟩
    ·obtain⟨_,_,_,_,o,_,_,e,d,_⟩:=I.hok p _ b;exact⟨o,e,d⟩
   obtain⟨o,e,d⟩:=z;refine⟨⟨o,e,d.1⟩,fun a f=>?_⟩;cases f;exact⟨o,e,d.2.1⟩
  ·obtain⟨o,_,_,_,e,d,_⟩:=I.hok p _ b;refine⟨⟨o,e,d.1⟩,fun a f=>?_⟩;cases f;exact⟨o,e,d.2.1⟩
 |_=>exact gL ty
def tBM(K:ah)(T:String)(r:V->List V->Hp->VK->Prop)(to:TE)(t:TA):TE:=fun σ H Q=>to σ H fun x H1=>tyV K T x H1/\t σ H1 fun xs H2=>r x xs H2 Q
variable {es:List Expr}{to:TE}{t:TA}{name:Str}{apos:Pos}{T id:String}{r:V->List V->Hp->VK->Prop}
def KU(B:PlainAttrs T)(slot:Slot T name id)(A:typeOf (.builtin id)=pure (.type "method_descriptor"))(u:MtR X id r)(w:PE X o to)(m:PA X (e::es) t)
  (n:MS o name X.env (eval o X.env)=eval o X.env:=by rfl)
  (p:((backTo bo (bh (e::es) X.env)).all (fun x=> !x.1)&&(AF bo (pF [] X.env)).all (fun x=>x.1.isSome)
   &&decide ((e::es).length+([]:List Keyword).length+(if([]:List Keyword).isEmpty then 0 else 1)<30))=true:=by rfl)
  (q:(apos.endLine==bo.line)=true:=by rfl) (z:bh (e::es) X.env=(false,eval e X.env)::bh es X.env:=by rfl) (y:(backTo bo (bh es X.env)).any (·.1)=false:=by rfl):
  PE X (.Call (.Attribute o name apos) (e::es) [] bo) (tBM X.K T r to t):=by
 intro a s b H Q I h;refine wpAny_Call_method_late n p q rfl (thn (w a s b H _ I h) fun v F ⟨x,g,c,f,ty,C⟩=>?_);obtain⟨k,l⟩:=tyV_is c f ty;refine⟨T,id,B,slot,A,k,l,?_⟩;have d:=m bo a F b g _ c C;rw[z]at d⊢;refine Calls.callWith_builtin (by show(false||(backTo bo (bh es X.env)).any (·.1))=false;rw[y]<;>rfl) (Calls.evalArgs_plain ?_);exact thn d fun J G ⟨K,i,j,E,D⟩=>u a G b i x K v J Q j f E D
end
def MtM(X:Cx)(id:String)(r:V->List V->Hp->VK->Prop):Prop:=
 ∀(pins:List (Addr×Obj))(s:Shared)(σ:St)(H:Hp)(x:V)(xs:List V)(v:Value)(us:List Value)(Q:VK),Inv X pins σ H s->RelV x v->bG xs us->r x xs H Q->
  wpAny (model X.prog X.w) X.A (call (.builtin id) (v::us)) (EP X pins σ Q) X.xe s
def bG.one(h:bG [x] us):∃u,us=[u]/\RelV x u:=by
 cases h with
 |cons r k=>cases k with
  |nil=>exact⟨_,rfl,r⟩
def bG.two(h:bG [x,y] us):∃u v,us=[u,v]/\RelV x u/\RelV y v:=by
 cases h with
 |cons r k=>obtain⟨v,e,q⟩:=bG.one k;exact⟨_,v,by rw[e],r,q⟩
def bG.zero:∀{us:List Value},bG [] us->us=[]
 |_,.nil=>rfl
theorem bG.eraseIdx:∀{xs:List V}{us:List Value}(i:Nat),bG xs us->bG (xs.eraseIdx i) (us.eraseIdx i)
 |_,_,_,.nil=>.nil
 |_,_,0,.cons _ t=>t
 |_,_,i+1,.cons r t=>.cons r (bG.eraseIdx i t)
theorem bG.reverse(h:bG xs us):bG xs.reverse us.reverse:=by
 induction h with
 |nil=>exact .nil
 |cons r t ih=>rw[List.reverse_cons,List.reverse_cons];exact bG.append ih (.cons r .nil)
theorem bG.rep(h:bG xs us):∀k:Nat,bG (bj k xs).flatten (bj k us).flatten
 | 0=>.nil
 |k+1=>by rw[dM,dM,je,je];exact bG.append h (bG.rep h k)
theorem yl{a:Type}:∀(l:List a)(i:Nat),(l.eraseIdx i).length<=l.length
 | [],_=>av _
 |_::_,0=>dP _
 |_::r,i+1=>Nat.succ_le_succ (yl r i)
theorem foldl_rep(a:List Value):∀(k:Nat)(ad:List Value),
  List.foldl (fun c d=>c++d) ad.toArray (bj k a.toArray)=(ad++(bj k a).flatten).toArray
 | 0,ad=>by simp
 |k+1,ad=>by
  have e:ad.toArray++a.toArray=(ad++a).toArray:=by simp
  have b:(ad++a)++(bj k a).flatten=ad++(bj (k+1) a).flatten:=by rw[dM,je,mT]
  rw[<-b,<-foldl_rep a k (ad++a),<-e,dM,dO]
section
variable {pins:List (Addr×Obj)}{s:Shared}{l b:Addr}
def Inv.Lr{f:Array Value->Array Value}(I:Inv X pins σ H s)(a:H l=some (.lst xs))
  (e:s.heap.get? l=some {cls:=.type "list",data:=.seq al.toArray n}) (hf:f al.toArray=its'.toArray) (d:bG ys its') (hz:ys.length<=sizeLine):
  Inv X pins σ (upd H l (.lst ys)) {s with heap:=s.heap.update l (aZ f),toks:=t'}:=by
 have q:=IM e f;rw[hf]at q;refine I.write (x:=l) (e:=l) (by rw[a];exact trivial) (.inl rfl) (fun g u b c=>(aN s.heap (aZ f) (bE b)).trans c) ⟨_,q⟩ ?_;exact⟨hz,its',_,d,q⟩
def Inv.lnew(I:Inv X pins σ H s)(a:bG ys al)(hz:ys.length<=sizeLine):
  Inv X pins σ (upd H s.heap.objs.size (.lst ys)) {s with heap:=s.heap.push {cls:=.type "list",data:=.seq al.toArray},toks:=t'}:=
 I.laid (fun _ _ q=>ag _ q) (av _) ⟨hz,al,0,a,ax _ rfl⟩
theorem Inv.fresh(I:Inv X pins σ H s):H s.heap.objs.size=none:=I.hok.fresh (av _)
def Inv.zX(I:Inv X pins σ H s)(a:H l=some (.lst xs)):xs.length<=sizeLine/\∃(al:List Value)(n:Nat),bG xs al/\xs.length=al.length/\s.heap.get? l=some {cls:=.type "list",data:=.seq al.toArray n}:=by obtain⟨z,al,n,r,e⟩:=I.hok l _ a;exact⟨z,al,n,r,r.length,e⟩
def BE(h:n<=sizeLine):gE n=false:=by unfold gE;exact decide_eq_false (by lia)
end
section
def Ft:V->List V->Hp->VK->Prop:=fun x vs H Q=>∃l xs y,x=.ref l/\vs=[y]/\H l=some (.lst xs)/\xs.length<sizeLine/\Q .non (upd H l (.lst (xs++[y])))
def HD:MtM X "list.append" Ft:=by intro j s p H x m v k Q I f d h;obtain⟨l,o,y,rfl,rfl,a,i,q⟩:=h;cases f;obtain⟨u,rfl,c⟩:=d.one;obtain⟨z,b,n,r,g,e⟩:=I.zX a;refine kF F.slot_list_append ⟨_,e,rfl⟩ F.entry_list_append (F.args_list_append_2 _ _) (PySem.list_append l b.toArray n u (by rw[aw];lia)) ⟨e,?_⟩;refine⟨.non,_,I.Lr (its':=b++[u]) a e (by simp) (r.append (.cons c .nil)) ?_,rfl,q⟩;rw[aU,dR];lia
def Fo:V->List V->Hp->VK->Prop:=fun x vs H Q=>∃l b xs zs,x=.ref l/\vs=[.ref b]/\H l=some (.lst xs)/\H b=some (.lst zs)/\xs.length+zs.length<=sizeLine/\Q .non (upd H l (.lst (xs++zs)))
def HC:MtM X "list.extend" Fo:=by
 intro B s K H x D v C Q I t p h;obtain⟨l,b,E,J,rfl,rfl,d,g,A,q⟩:=h;cases t;obtain⟨u,rfl,o⟩:=p.one;cases o;obtain⟨z,a,n,r,w,e⟩:=I.zX d;obtain⟨G,c,k,m,y,f⟩:=I.zX g;have j:a.toArray.size+c.toArray.size<=sizeLine:=by rw[aw,aw];lia
 have i:¬(!a.toArray.isEmpty&&gE (a.toArray.size+c.toArray.size))=true:=by rw[BE j,dh];exact ao
 refine kF F.slot_list_extend ⟨_,e,rfl⟩ F.entry_list_extend (F.args_list_extend_2 _ _)
  (AutoSeq1.list_extend_list_list_0 l a.toArray n b c.toArray k i (by rw[aw];lia) (by lia)) ⟨e,f,?_⟩
 refine⟨.non,_,I.Lr (its':=a++c) d e (by simp) (r.append m) ?_,rfl,q⟩;rw[aU];lia
def Kj:V->List V->Hp->VK->Prop:=fun x vs H Q=>∃l xs i k y,x=.ref l/\vs=[.int i]/\H l=some (.lst xs)∧-(2^63)<=i/\i<2^63/\seqIndex? i xs.length=some k/\xs[k]? =some y/\Q y (upd H l (.lst (xs.eraseIdx k)))
def Ld:MtM X "list.pop" Kj:=by
 intro D s J H x G v E Q I B p h;obtain⟨l,C,i,k,y,rfl,rfl,b,c,d,f,m,q⟩:=h;cases B;obtain⟨u,rfl,o⟩:=p.one;obtain⟨t,rfl⟩:=o;obtain⟨z,a,n,r,g,e⟩:=I.zX b;obtain⟨w,j,A⟩:=r.get m;refine kF F.slot_list_pop ⟨_,e,rfl⟩ F.entry_list_pop (F.args_list_pop_2 _ _)
  (MeetsSeq.list_pop_at l a.toArray n i t k w (fitsIndex_both c d) (by rw[aw,<-g];exact f) (by rw[<-GR];exact j) (by rw[aw];lia)) ⟨e,?_⟩
 refine⟨y,_,I.Lr (its':=a.eraseIdx k) b e ?_ (r.eraseIdx k) ?_,A,q⟩;·show a.toArray.eraseIdxIfInBounds k=(a.eraseIdx k).toArray;rw[List.eraseIdxIfInBounds_toArray]
 ·have :=yl C k;lia
def Bj:V->List V->Hp->VK->Prop:=fun x vs H Q=>∃l xs,x=.ref l/\vs=[]/\H l=some (.lst xs)/\Q .non (upd H l (.lst xs.reverse))
def D6:MtM X "list.reverse" Bj:=by intro i s o H x k v j Q I f d h;obtain⟨l,m,rfl,rfl,a,q⟩:=h;cases f;have c:=d.zero;subst c;obtain⟨z,b,n,r,g,e⟩:=I.zX a;refine kF F.slot_list_reverse ⟨_,e,rfl⟩ F.entry_list_reverse (F.args_list_reverse_1 _) (AutoSeq1.list_reverse_list_0 l b.toArray n (by rw[aw];lia)) ⟨e,?_⟩;refine⟨.non,_,I.Lr (its':=b.reverse) a e (by simp) r.reverse ?_,rfl,q⟩;rw[List.length_reverse];lia
def Kl:V->List V->Hp->VK->Prop:=fun x vs H Q=>∃l xs,x=.ref l/\vs=[]/\H l=some (.lst xs)/\Q .non (upd H l (.lst []))
def Le:MtM X "list.clear" Kl:=by intro i s o H x k v j Q I f d h;obtain⟨l,m,rfl,rfl,a,q⟩:=h;cases f;have b:=d.zero;subst b;obtain⟨z,c,n,r,g,e⟩:=I.zX a;refine kF F.slot_list_clear ⟨_,e,rfl⟩ F.entry_list_clear (F.args_list_clear_1 _) (AutoSeq1.list_clear_list_0 l c.toArray n (by rw[aw];lia)) ⟨e,?_⟩;exact⟨.non,_,I.Lr (its':=[]) (ys:=[]) a e rfl .nil (aM _),rfl,q⟩
def rCat:R2:=fun x y H Q=>∃l b xs zs,x=.ref l/\y=.ref b/\H l=some (.lst xs)/\H b=some (.lst zs)/\xs.length+zs.length<=sizeLine/\∀p,H p=none->Q (.ref p) (upd H p (.lst (xs++zs)))
def op_cat:OpR X (eD .Add) rCat:=by
 intro A s E H x y v u Q I k m h;obtain⟨l,b,B,D,rfl,rfl,i,g,t,q⟩:=h;cases k;cases m;obtain⟨z,a,n,r,o,e⟩:=I.zX i;obtain⟨C,c,w,j,p,d⟩:=I.zX g;refine PySem.P.add_list e d ?_ (by rw[aw,aw];lia);have f:a.toArray++c.toArray=(a++c).toArray:=by simp
 rw[f];exact⟨.ref _,_,I.lnew (t':=s.toks) (r.append j) (by rw[aU];lia),rfl,q _ I.fresh⟩
def rRep:R2:=fun x y H Q=>∃l k xs,x=.ref l/\y=.int k/\H l=some (.lst xs)∧-(2^63)<=k/\k<2^63/\xs.length*k.toNat<=sizeLine/\
 ∀p,H p=none->Q (.ref p) (upd H p (.lst (bj k.toNat xs).flatten))
def len_rep{a:Type}(xs:List a)(k:Nat):(bj k xs).flatten.length=k*xs.length:=by
 induction k with
 |zero=>simp
 |succ k ih=>rw[dM,je,aU,ih,IP,Nat.add_comm]
def op_rep:OpR X (eD .Mult) rRep:=by
 intro K s M H x y v u Q I E G h;obtain⟨l,k,L,rfl,rfl,o,i,j,f,q⟩:=h;cases E;obtain⟨t,rfl⟩:=G;obtain⟨z,b,n,r,A,e⟩:=I.zX o;have B:b.toArray.size*k.toNat<=sizeLine:=by rw[aw,<-A];exact f
 have p:¬b.toArray.size*k.toNat>(2^63-1)/8:=by
  have :(sizeLine:Nat)<=(2^63-1)/8:=by decide
  lia
 have w:¬(!Builtin.List.listFitsIndex k)=true:=by rw[fitsIndex_both i j];exact ao
 have C:¬gE (b.toArray.size*k.toNat)=true:=by rw[BE B];exact ao
 have D:List.foldl (fun c d=>c++d) #[] (bj (if b.toArray.isEmpty=true then 0 else k.toNat) b.toArray)=(bj k.toNat b).flatten.toArray:=by
  have g:∀m:Nat,List.foldl (fun c d=>c++d) #[] (bj m b.toArray)=(bj m b).flatten.toArray:=fun m=>by have :=foldl_rep b m [];rw[yS]at this;exact this
  rw[g];cases b with
  |nil=>simp
  |cons a r'=>rw[if_neg (by simp)]
 refine wpAny_binaryOp_repeat_ref (T:="list") (U:="int") (by decide) ⟨_,e,rfl⟩ (fun J=>typeIs_int J k t) noFill_list_mul F.fills_int_mul F.slot_int_rmul repeat_list F.slot_int_index.lookup
  (kF F.slot_int_rmul (typeIs_int s k t) F.entry_int_rmul (F.args_int_rmul_2 _ _) (int___rmul___int_list k t l b.toArray n)
   ⟨e,rfl,⟨_,e,rfl⟩,kF F.slot_list_mul ⟨_,e,rfl⟩ F.entry_list_mul (F.args_list_mul_2 _ _) (AutoListH.list___mul___list_int_3 l b.toArray n k t w p C) ⟨e,?_⟩⟩)
 rw[D];exact⟨.ref _,_,I.lnew (t':=s.toks) (r.rep k.toNat) (by rw[len_rep,Nat.mul_comm];exact f),rfl,q _ I.fresh⟩
end
section
variable {κ:Type}[DecidableEq κ]
abbrev eN(kvs:List (κ×V))(k:κ):Option V:=(kvs.find? fun kv=>decide (kv.1=k)).map (·.2)
abbrev putK(kvs:List (κ×V))(k:κ)(v:V):List (κ×V):=
 if(kvs.any fun kv=>decide (kv.1=k))=true then kvs.map (fun kv=>if kv.1=k then(kv.1,v)else kv)else kvs++[(k,v)]
def gO{p:κ×V}{r:List (κ×V)}{k:κ}(e:p.1=k):eN (p::r) k=some p.2:=by simp[eN,iO,e]
def gP{p:κ×V}{r:List (κ×V)}{k:κ}(e:¬p.1=k):eN (p::r) k=eN r k:=by simp[eN,iO,e]
theorem jX(k:κ):∀kvs:List (κ×V),(kvs.any fun kv=>decide (kv.1=k))=(eN kvs k).isSome
 | []=>rfl
 |p::r=>by
  rw[iF];by_cases e:p.1=k;·simp only[gO e,decide_eq_true e,Bool.true_or,fS]
  ·rw[gP e,decide_eq_false e,ni];exact jX k r
theorem AY(k j:κ)(y:V):∀kvs:List (κ×V),eN (kvs.map fun kv=>if kv.1=k then(kv.1,y)else kv) j=(eN kvs j).map fun x=>if j=k then y else x
 | []=>rfl
 |p::r=>by
  have a:=AY k j y r;rw[a8];by_cases h:p.1=k
  ·rw[if_pos h];by_cases e:p.1=j;·rw[gO (p:=(p.1,y)) e,gO e,jT,if_pos (e.symm.trans h)]
   ·rw[gP (p:=(p.1,y)) e,gP e,a]
  ·rw[if_neg h];by_cases e:p.1=j;·rw[gO (p:=p) e,gO e,jT,if_neg (fun z=>h (e.trans z))]
   ·rw[gP (p:=p) e,gP e,a]
theorem xR(k j:κ)(y:V):∀kvs:List (κ×V),eN kvs k=none->eN (kvs++[(k,y)]) j=if j=k then some y else eN kvs j
 | [],_=>by
  by_cases e:k=j;·rw[if_pos e.symm];exact gO (p:=(k,y)) e
  ·rw[if_neg (fun z=>e z.symm)];exact gP (p:=(k,y)) e
 |p::r,hn=>by
  rw[nC];have a:¬p.1=k:=fun z=>by rw[gO z]at hn;cases hn
  rw[gP a]at hn;have b:=xR k j y r hn;by_cases e:p.1=j;·rw[gO e,gO e,if_neg (fun z=>a (e.trans z))]
  ·rw[gP e,gP e,b]
def Ji(b:List (κ×V))(k j:κ)(y:V):eN (putK b k y) j=if j=k then some y else eN b j:=by
 unfold putK;by_cases a:(b.any fun d=>decide (d.1=k))=true
 ·rw[if_pos a,AY];rw[jX]at a;by_cases e:j=k;·obtain⟨x,c⟩:=cg.mp a;rw[if_pos e,e,c,jT,if_pos rfl]
  ·rw[if_neg e];cases eN b j with
   |none=>rfl
   |some x=>rw[jT,if_neg e]
 ·rw[if_neg a];refine xR k j y b ?_;rw[jX]at a;cases q:eN b k with
  |none=>rfl
  |some x=>rw[q]at a;exact(a rfl).elim
def nZ(a:List (κ×V))(k:κ)(v:V):(putK a k v).length<=a.length+1:=by
 unfold putK;split;·rw[ai];lia
 ·rw[aU,ba,kB];lia
def Ko{a:List (κ×V)}{k:κ}(v:V)(h:eN a k=none):putK a k v=a++[(k,v)]:=by unfold putK;rw[jX,h];exact if_neg (by decide)
def tN.HQ{o:Option V}{u:Option Value}(r:tN o u):o.isSome=u.isSome:=by
 cases o with
 |none=>cases u with
  |none=>rfl
  |some _=>exact(show False from r).elim
 |some _=>cases u with
  |none=>exact(show False from r).elim
  |some _=>rfl
theorem KV.any{a:List (κ×V)}{vs:List (κ×Value)}(r:KV a vs)(k:κ):(a.any fun kv=>decide (kv.1=k))=vs.any fun kv=>decide (kv.1=k):=by
 unfold KV at r
 induction r with
 |nil=>rfl
 |cons h t ih=>rw[iF,iF,ih,h.1]
def KV.repl{b:List (κ×V)}{vs:List (κ×Value)}(r:KV b vs)(k:κ)(d:RelV y u):
  KV (b.map fun kv=>if kv.1=k then(kv.1,y)else kv) (vs.map fun kv=>if kv.1=k then(kv.1,u)else kv):=by
 unfold KV at r⊢
 induction r with
 |nil=>exact .nil
 | @cons p q ps qs h t ih=>
  rw[a8,a8];refine .cons ?_ ih;obtain⟨a,c⟩:=h;by_cases e:p.1=k;·rw[if_pos e,if_pos (a.symm.trans e)];exact⟨a,d⟩
  ·rw[if_neg e,if_neg (fun z=>e (a.trans z))];exact⟨a,c⟩
def KV.put{a:List (κ×V)}{vs:List (κ×Value)}(r:KV a vs)(k:κ)(b:RelV y u):KV (putK a k y) (stored vs k u):=by
 unfold putK stored;rw[r.any k];by_cases e:(vs.any fun c=>decide (c.1=k))=true;·rw[if_pos e,if_pos e];exact r.repl k b
 ·rw[if_neg e,if_neg e];exact Paired.snoc r ⟨rfl,b⟩
end
def F0{k:Key}(r:RelV (kV k) u):(bS P w).is k u=true:=by
 cases k with
 |inl i=>obtain⟨t,e⟩:=(show ∃t,u=w8 i t from r);subst e;exact nV P w i t
 |inr x=>obtain⟨t,e⟩:=(show ∃t,u=iP x t from r);subst e;exact BL P w x t
theorem tm:∀{ks:List Key}{us:List Value},bG (ks.map kV) us->ItemsAre (bS P w) ks us
 | [],_,r=>by rw[hJ]at r;cases r;exact .nil
 |k::ks,_,r=>by
  rw[a8]at r;cases r with
  |cons h t=>exact .cons (F0 h) (tm t)
noncomputable abbrev KT(H:Hp):List (List Key×V)->List (List Key×Addr×Value)->Prop:=Paired fun p q=>p.1=q.1/\H q.2.1=some (.tup (p.1.map kV))/\RelV p.2 q.2.2
def KT.val{d:List (List Key×V)}{xs:List (List Key×Addr×Value)}(r:KT H d xs)(k:List Key):tN (eN d k) ((atKey xs k).map (·.2)):=by
 induction r with
 |nil=>exact True.intro
 | @cons p q ps qs h t ih=>
  obtain⟨c,_,f⟩:=h;by_cases e:p.1=k
  ·have a:q.1=k:=c.symm.trans e;have b:atKey (q::qs) k=some q.2:=by simp[atKey,iO,a]
   rw[gO e,b];exact f
  ·have a:¬q.1=k:=fun z=>e (c.trans z);have b:atKey (q::qs) k=atKey qs k:=by simp[atKey,iO,a]
   rw[gP e,b];exact ih
def KT.repl{c:List (List Key×V)}{xs:List (List Key×Addr×Value)}(r:KT H c xs)(k:List Key)(f:RelV y u):
  KT H (c.map fun kv=>if kv.1=k then(kv.1,y)else kv) (xs.map (putAt k u)):=by
 induction r with
 |nil=>exact .nil
 | @cons p q ps qs h t ih=>
  rw[a8,a8];refine .cons ?_ ih;obtain⟨a,b,d⟩:=h;unfold putAt;by_cases e:p.1=k;·rw[if_pos e,if_pos (a.symm.trans e)];exact⟨a,b,f⟩
  ·rw[if_neg e,if_neg (fun z=>e (a.trans z))];exact⟨a,b,d⟩
def KT.put{a:List (List Key×V)}{xs:List (List Key×Addr×Value)}(r:KT H a xs)(k:List Key)(d:H b=some (.tup (k.map kV)))(c:RelV y u):
  KT H (putK a k y) (storedH xs k b u):=by
 have e:(a.any fun f=>decide (f.1=k))=(atKey xs k).isSome:=by rw[jX,(r.val k).HQ,Option.isSome_map]
 unfold putK storedH;rw[e];by_cases q:(atKey xs k).isSome=true;·rw[if_pos q,if_pos q];exact r.repl k c
 ·rw[if_neg q,if_neg q];exact Paired.snoc r ⟨rfl,d,c⟩
def KT.keeps{a:List (List Key×V)}{xs:List (List Key×Addr×Value)}(r:KT H a xs)(c:∀b ys,H b=some (.tup ys)->H' b=some (.tup ys)):KT H' a xs:=
 Paired.rG r fun _ _ z=>⟨z.1,c _ _ z.2.1,z.2.2⟩
section
variable {a:Addr}
def rd_of{u:HO}(ok:HOk P w H h)(e:Rd H a u):dz P w H h a u:=e.ok ok
def dk_rd{b:List (Key×V)}(ok:HOk P w H h)(e:Rd H a (.dK b)):b.length<=sizeLine/\(a==d9)=false/\∃vs,KV b vs/\h.DictOf (bS P w) a vs:=
 show dz P w H h a (.dK b)from rd_of ok e
def dk_of{b:List (Key×V)}(ok:HOk P w H h)(e:H a=some (.dK b)):b.length<=sizeLine/\(a==d9)=false/\∃vs,KV b vs/\h.DictOf (bS P w) a vs:=dk_rd ok (.inl e)
def LI{ks:List Key}(ok:HOk P w H h)(e:H a=some (.tup (ks.map kV))):(qH (bS P w)).is h ks a:=by obtain⟨_,f,r,o,b,c,n,d⟩:=(show dz P w H h a (.tup (ks.map kV))from ok a _ e);exact⟨o,f.toArray,n,b,c,d,by simpa using tm r⟩
def dt_rd{b:List (List Key×V)}(ok:HOk P w H h)(e:Rd H a (.dT b)):b.length<=sizeLine/\(a==d9)=false/\
  ∃xs,KT H b xs/\h.DictOfH (qH (bS P w)) a xs:=by
 obtain⟨z,y,xs,r,o,d,c,f,g,i,j,k⟩:=(show dz P w H h a (.dT b)from rd_of ok e);refine⟨z,y,xs,r,o,d,c,f,g,i,j,fun x hx=>?_,k⟩;have all:∀{l:List (List Key×V)}{m:List (List Key×Addr×Value)},KT H l m->∀x∈m,(qH (bS P w)).is h x.1 x.2.1:=by
  intro l m q
  induction q with
  |nil=>intro x hx;exact nomatch hx
  | @cons p q ps qs hq t ih=>
   intro x hx;rcases aG.mp hx with e|hx;·subst e;exact LI ok (by rw[<-hq.1];exact hq.2.1)
   ·exact ih x hx
 exact all r x hx
def Mc{b:List (List Key×V)}(ok:HOk P w H h)(e:H a=some (.dT b)):b.length<=sizeLine/\(a==d9)=false/\
  ∃xs,KT H b xs/\h.DictOfH (qH (bS P w)) a xs:=dt_rd ok (.inl e)
end
section
variable {pins:List (Addr×Obj)}{s:Shared}{a:Addr}{u r:Value}{o:Option V}{E:Value->Shared->Prop}
def Inv.big(I:Inv X pins σ H s):d9<s.heap.objs.size:=by have h:bu<s.heap.objs.size:=(I.mod.glob.keeps I.bk).lt;exact fW (by decide) h
def Gk{c:HO}(I:Inv X pins σ H s)(h:Mut (H a))(g:dm a s.heap h')(f:∃q,h'.get? a=some q)(i:dz X.prog X.w (upd H a c) h' a c):
  Inv X pins σ (upd H a c) {s with heap:=h',toks:=t'}:=
 I.write (x:=a) (e:=a) h (.inl rfl) (fun b q d z=>(g.2 b d).trans z) f i
def dk_new{b:List (Key×V)}{vs:List (Key×Value)}(z:b.length<=sizeLine)(c:(a==d9)=false)(d:KV b vs)(dd:h'.DictOf (bS P w) a vs):
  dz P w H' h' a (.dK b):=⟨z,c,vs,d,dd⟩
end
def Cj(h:Heap)(a:d9<h.objs.size):dz P w H (h.push {cls:=.type "dict",data:=.dict #[]}) h.objs.size (.dK []):=
 ⟨aM _,beq_eq_false_iff_ne.mpr (bE (aK a)),[],.nil,Heap.DictOf.new h⟩
def Md(h:Heap)(a:d9<h.objs.size):dz P w H (h.push {cls:=.type "dict",data:=.dict #[]}) h.objs.size (.dT []):=
 ⟨aM _,beq_eq_false_iff_ne.mpr (bE (aK a)),[],.nil,_,#[],0,ax _ rfl,⟨rfl,rfl,rfl⟩,rfl,rfl,jd⟩
def Jz:TE:=fun _ H Q=>∀p,H p=none->Q (.ref p) (upd H p (.dK []))
def Jy:TE:=fun _ H Q=>∀p,H p=none->Q (.ref p) (upd H p (.dT []))
section
def KO:PE X (.Dict [] [] pos) Jz:=fun b s c H Q I h=>
 wpAny_Dict_empty ⟨.ref s.heap.objs.size,_,I.laid (a:=s.heap.objs.size) (o:=.dK []) (t':=s.toks) (fun _ _ q=>ag _ q) (av _) (Cj s.heap I.big),rfl,h _ (I.hok.fresh (av _))⟩
def KN:PE X (.Dict [] [] pos) Jy:=fun b s c H Q I h=>
 wpAny_Dict_empty ⟨.ref s.heap.objs.size,_,I.laid (a:=s.heap.objs.size) (o:=.dT []) (t':=s.toks) (fun _ _ q=>ag _ q) (av _) (Md s.heap I.big),rfl,h _ (I.hok.fresh (av _))⟩
end
abbrev Dy:List (TE×TE)->St->Hp->(List (V×V)->Hp->Prop)->Prop
 | [],_,H,Q=>Q [] H
 | (tk,tv)::r,σ,H,Q=>tk σ H fun x H1=>tv σ H1 fun y H2=>Dy r σ H2 fun ps a=>Q ((x,y)::ps) a
noncomputable abbrev VV:List (V×V)->List (Value×Value)->Prop:=Paired fun p q=>RelV p.1 q.1/\RelV p.2 q.2
def PPs(X:Cx)(pos:Pos)(a:List (Option Expr))(c:List Expr)(b:List (TE×TE)):Prop:=
 ∀(pins:List (Addr×Obj))(s:Shared)(σ:St)(H:Hp)(Q:List (V×V)->Hp->Prop),Inv X pins σ H s->Dy b σ H Q->
  wpAny (model X.prog X.w) X.A (evalPairs (pairTrees a c X.env pos)) (fun vs s'=>∃ps H',Inv X pins σ H' s'/\VV ps vs/\Q ps H') X.xe s
def pps_nil:PPs X pos [] [] []:=fun a s b H Q I h=>pairTrees_nil_walk ⟨[],H,I,.nil,h⟩
def Kw{k v:Expr}{ks:List (Option Expr)}{vs:List Expr}{tk d:TE}{c:List (TE×TE)}(m:PE X k tk)(o:PE X v d)(n:PPs X pos ks vs c):
  PPs X pos (some k::ks) (v::vs) ((tk,d)::c):=fun a s b H Q I h=>
 pairTrees_cons_walk (thn (m a s b H _ I h) fun u B ⟨x,e,i,z,q⟩=>thn (o a B b e _ i q) fun E C ⟨y,f,j,A,r⟩=>
  thn (n a C b f _ j r) fun F D ⟨p,g,l,w,t⟩=>⟨(x,y)::p,g,l,.cons ⟨z,A⟩ w,t⟩)
abbrev vY(kvs more:List (Key×V)):List (Key×V):=more.foldl (fun ad kv=>putK ad kv.1 kv.2) kvs
def KV.merge:∀{more:List (Key×V)}{rs:List (Key×Value)}{kvs:List (Key×V)}{vs:List (Key×Value)},KV more rs->KV kvs vs->KV (vY kvs more) (merged vs rs):=by
 intro more rs kvs vs r;unfold KV at r
 induction r generalizing kvs vs with
 |nil=>intro q;exact q
 | @cons p q ps qs h t ih=>
  intro a;have e:KV (putK kvs p.1 p.2) (stored vs q.1 q.2):=by have :=a.put p.1 h.2;rw[<-h.1];exact this
  exact ih e
theorem pR:∀(more kvs:List (Key×V)),(vY kvs more).length<=kvs.length+more.length
 | [],kvs=>by show kvs.length<=kvs.length+0;lia
 |p::r,kvs=>by have a:=pR r (putK kvs p.1 p.2);have b:=nZ kvs p.1 p.2;show(vY (putK kvs p.1 p.2) r).length<=_;rw[ba];lia
theorem wO:∀{kvs:List (Key×V)}{ws:List (Value×Value)},VV (kvs.map fun kv=>(kV kv.1,kv.2)) ws->∃rs,Carries (bS P w) ws rs/\KV kvs rs
 | [],_,r=>by rw[hJ]at r;cases r;exact⟨[],True.intro,.nil⟩
 |p::kvs,_,r=>by
  rw[a8]at r;cases r with
  | @cons a b as bs h t=>obtain⟨rs,c,q⟩:=wO t;obtain⟨e,d⟩:=b;exact⟨(p.1,d)::rs,⟨F0 h.1,rfl,c⟩,.cons ⟨rfl,h.2⟩ q⟩
def tDisp(a:List (TE×TE)):TE:=fun σ H Q=>∀p,H p=none->Dy a σ (upd H p (.dK [])) fun ps H2=>H2 p=some (.dK [])/\∃kvs:List (Key×V),ps=kvs.map (fun kv=>(kV kv.1,kv.2))/\kvs.length<=15/\Q (.ref p) (upd H2 p (.dK (vY [] kvs)))
def pe_disp{b:List (Option Expr)}{d:List Expr}{j:List (TE×TE)}(h:PPs X pos b d j)(r:b.all (·.isSome)=true)(v:b.length=d.length)(h0:b≠[])
  (p:b.length<=15):PE X (.Dict b d pos) (tDisp j):=by
 intro B s J H Q I q;have x:=I.hok.fresh (av s.heap.objs.size);have k:=I.laid (a:=s.heap.objs.size) (o:=.dK []) (h':=s.heap.push {cls:=.type "dict",data:=.dict #[]}) (t':=s.toks) (fun _ _ q=>ag _ q) (av _) (Cj s.heap I.big);refine wpAny_Dict_walk (knd:=bS X.prog X.w) r v h0 p (thn (h B _ J _ _ k (q _ x)) fun R N ⟨M,K,f,E,e,i,m,L,C⟩=>?_);subst m;obtain⟨G,c,F⟩:=wO (P:=X.prog) (w:=X.w) E;obtain⟨z,t,O,D,l⟩:=dk_of f.hok e;cases D;refine⟨G,c,l,fun h' g y=>⟨.ref s.heap.objs.size,_,?_,rfl,C⟩⟩;have A:(vY [] i).length<=sizeLine:=by have n:=pR i [];rw[kB]at n;rw[pE];lia
 have u:∃q,h'.get? s.heap.objs.size=some q:=let⟨q,_,_,hq,_⟩:=g;⟨q,hq⟩;exact Gk f (by rw[e];exact True.intro) y u (dk_new A t (F.merge .nil) g)
end L2
namespace Att
open PySem PySem.W PySem.Calls PyProof.Rows
def uH{P:Params}:∀(ns:List Int)(vs:List Value),WellAll P h vs (ns.map WData.int)->bY vs ns:=by
 intro ns
 induction ns with
 |nil=>intro vs w;rw[hJ]at w;cases w;exact .nil
 |cons n ns ih=>
  intro vs w;rw[a8]at w;cases w with
  |cons a b=>cases a;exact .cons _ _ (ih _ b)
def Hd{l:OpenLaw}(m:l.most=some n){P:Params}{args:List WData}{vals:List Value}
  (f:l.row.toRowW.claim.pre args=true)(p:WellAll P h vals args):
  ∃a vs ns,vals=[bz a]/\args=[WData.list (ns.map WData.int)]/\h.get? a=some {cls:=.type "list",data:=.seq vs.toArray}/\bY vs ns/\ns.length<=n:=by
 have o:WShape.hasAll [] args [.list .int]=true:=(pre_splitW f).1;have e:l.pre.holds [] {args:=args}=true:=(pre_splitW f).2;obtain⟨d,r,rfl,g,i⟩:=hasAllW_cons o;obtain rfl:=hasAllW_nil i;obtain⟨t,rfl,j⟩:=hasW_list g;obtain⟨ns,rfl⟩:=items_int j;have k:ns.length<=n:=by
  unfold OpenLaw.pre at e;have b:(WTm.not (.lt (.lit (.int (n:Int))) (.len (.arg 0)))).holds [] {args:=[.list (ns.map .int)]}=true:=by have b:=(holds_andW e).1;rw[m]at b;exact b
  have c:=condW_of b (w_not (w_lt w_lit (w_len_list (w_arg rfl))));rw[ai]at c;refine hZ fun q=>?_;have s:(n:Int)<((ns.length:Nat):Int):=by lia
  first
   | (rw[decide_eq_true s]at c;exact absurd c (by decide))
   | (simp at c;lia)
 cases p with
 |cons w1 w2=>
  cases w2;cases w1 with
  |list ho hall=>exact⟨_,_,ns,rfl,rfl,ho,uH ns _ hall,k⟩
def Hk(l:OpenLaw)(args:List WData):l.row.toRowW.claim.post args (.bool true) args=true:=
 postW_of (r:=l.row.toRowW) (X:=(true==true))
  (show WShape.has [] (.bool true) .bool=true by first |rfl|decide|simp[WShape.has,WShape.arms,WShape.armsAll])
  (show(WTm.eq .res (.lit (.bool true))).value [] {args:=args,res:=some (.bool true),after:=args}=some (.bool (true==true))from w_eq_bool (w_res rfl) w_lit) rfl
def CQ{l:OpenLaw}{q:Program}{XP:(Str->Option Value)->Heap->Prop}{YP:World->Heap->Prop}{d:DefRec}
  (x:l.most=some n)(m:d.params.defaults=[])
  (call:∀(w:World)(c b:Shared)(mg mb:Str->Option Value)(fa:Addr)(o:Obj)(pm cd bi:Value)(a:Addr)(vs:List Value)(ns:List Int),
   Ground q loose [] XP w c mg mb b.heap->YP w b.heap->
   b.heap.get? fa=some o->o.data=.func (docDef d.name d.params d.body d.scope pm cd bi)->b.heap.CodeRec cd d.name->mg d.name=some (.ref fa)->
   b.heap.get? a=some {cls:=.type "list",data:=.seq vs.toArray}->bY vs ns->ns.length<=n->b.gens= #[]->
   gA (model l.prog w) GF (.call (.ref fa) ⟨[.ref a],[]⟩) (fun r s'=>r=.ok (.ret (.bool true))/\OldK b.heap s'.heap/\s'.os=b.os/\pJ s'.gens) b):
  WalkO q loose XP YP l.row.toRowW d [] (fun f vs=>PySem.call f vs):=by
 intro w c b mg mb G Y fa o pm cd bi dV kV y k j e v p C vals D A E H B F;obtain rfl:dV=.none:=Dflts.none e m;obtain rfl:kV=.none:=Dflts.noKw e;obtain⟨a,vs,ns,rfl,rfl,z,s,t⟩:=Hd x A B;refine enter_call (jO (call w c b mg mb fa o pm cd bi a vs ns G Y y (fd_plain k) j v z s t p) fun r s' hq=>?_);obtain⟨rfl,g,h,i⟩:=hq;exact⟨.inl ⟨.bool true,.bool true,[],rfl,fun _=>rfl,.bool true,Hk l _,fun _=>⟨jV,fun _ u=>(nomatch u)⟩⟩,g,h,i⟩
end Att
namespace L2
open PySem PySem.Spec PyProof.Rows
theorem sO:∀{vs:List Value}{ns:List Int},bY vs ns->bG (ns.map V.int) vs
 |_,_,.nil=>.nil
 |_,_,.cons n t h=>.cons ⟨t,rfl⟩ (sO h)
noncomputable abbrev KOf{K:ah}{h:Heap}(_:K.In h):ah:=K
noncomputable abbrev CX0:CXT:=fun _ _ _ _ _ _=>False
noncomputable abbrev E0:XK:=fun _ _ _=>False
structure Fun(K:ah)(x qual:Str)(st:Stmt)(f:Addr)(fd:fg):Prop where
 ex:∃(oc:Value)(od:Option Addr)(kV bi pm:Value)(an:Option Addr)(ap ct:Value)(bv:Array (Option Value)),
  fd=aB x qual (bf st) (a7 st) (aO st) .none kV bi pm an ap ct/\K.lookup f=some ⟨oc,od,.func fd,bv⟩/\eJ K ap qual=true
 kp:b7 K (.ref f)=true
section
variable {mg:Str->Option Value}
def Fun.binds{x:Str}{st:Stmt}{a:fg}(F:Fun K x qual st f a)
  (h:∀(kV bi pm:Value)(an:Option Addr)(ap ct:Value)(us:List Value),us.length=ps.length->qK (aB x qual (bf st) (a7 st) (aO st) .none kV bi pm an ap ct) ⟨us,[]⟩=pure (ps.zip us)):Binds K a ps []:=by
 obtain⟨d,od,kV,bi,pm,an,ap,ct,e,rfl,c,b⟩:=F.ex;exact .all (h kV bi pm an ap ct)
def Es{x:Str}{st:Stmt}{od an:Option Addr}{kV:Value}(l:K.lookup f=some ⟨oc,od,.func (aB x qual (bf st) (a7 st) (aO st) .none kV bi pm an ap ct),bv⟩)
  (c:eJ K ap qual=true)(k:b7 K (.ref f)=true):Fun K x qual st f (aB x qual (bf st) (a7 st) (aO st) .none kV bi pm an ap ct):=⟨⟨oc,od,kV,bi,pm,an,ap,ct,bv,rfl,l,c⟩,k⟩
end
def aA(H H':Hp):Prop:=∀b o,H b=some o->H' b=some o
def aA.refl(H:Hp):aA H H:=fun _ _ h=>h
def aA.trans{d:Hp}(a:aA H H1)(b:aA H1 d):aA H d:=fun c o h=>b c o (a c o h)
def aA.free(e:aA H H')(h:H' l=Option.none):H l=Option.none:=by
 cases q:H l with
 |none=>rfl
 |some o=>rw[e l o q]at h;cases h
def aA.seq(e:aA H H')(h:SqL K H a xs):SqL K H' a xs:=by
 rcases h with(h|⟨o,h⟩) |h;·exact .inl (.inl (e _ _ h))
 ·exact .inl (.inr ⟨o,e _ _ h⟩)
 ·exact .inr h
section
variable {κ:Type}[DecidableEq κ]
def AX{a:List (κ×V)}{k:κ}(h:eN a k=none):¬k∈a.map (·.1):=by intro m;obtain⟨p,hp,e⟩:=aJ.mp m;have q:(a.any fun b=>decide (b.1=k))=true:=cw.mpr ⟨p,hp,decide_eq_true e⟩;rw[jX,h]at q;exact absurd q (by simp)
def valV_in{a:List (κ×V)}{k:κ}(h:eN a k=some v):k∈a.map (·.1):=by
 have q:(a.any fun b=>decide (b.1=k))=true:=by rw[jX,h];all_goals rfl
 obtain⟨p,hp,e⟩:=cw.mp q;exact aJ.mpr ⟨p,hp,of_decide_eq_true e⟩
theorem FI:∀{l:List κ}{k:κ},l.Nodup->¬k∈l->(l++[k]).Nodup
 | [],k,_,_=>by simp
 |a::r,k,h,hk=>by
  obtain⟨b,c⟩:=cG.mp h;show(a::(r++[k])).Nodup;refine cG.mpr ⟨fun m=>?_,FI c fun m=>hk (aG.mpr (Or.inr m))⟩;rcases cV.mp m with q|q;·exact b q
  ·exact hk (aG.mpr (Or.inl (aS.mp q).symm))
def nd_putK{a:List (κ×V)}{k:κ}(v:V)(b:(a.map (·.1)).Nodup)(h:eN a k=none):((putK a k v).map (·.1)).Nodup:=by rw[Ko v h,cH];exact FI b (AX h)
end
abbrev fH(cells:List (Str×Addr)):List (Str×dZ)->List (Str×Addr)->List (Str×Addr)
 | [],ad=>ad
 | (n,k)::r,ad=>fH cells r (if k=.free then(n,(cells.lookup n).getD 0)::ad else ad)
theorem qz{env:Env}{f:Str×dZ->List (Str×Addr)->Sem (ForInStep (List (Str×Addr)))}
  (hf:∀n k a c,k=.free->env.cells.lookup n=some c->f (n,k) a=pure (.yield ((n,c)::a)))(b:∀n k a,k≠.free->f (n,k) a=pure (.yield a)):
  ∀(g:List (Str×dZ))(ad:List (Str×Addr)),(∀y∈g,y.2=.free->∃c,env.cells.lookup y.1=some c)->forIn g ad f=(pure (fH env.cells g ad):Sem _)
 | [],ad,_=>rfl
 | (n,k)::r,ad,h=>by
  rw[List.forIn_cons];by_cases e:k=.free;·obtain⟨c,i⟩:=h (n,k) aL e;rw[hf n k ad c e i];show forIn r ((n,c)::ad) f=_;rw[qz hf b r _ fun y d=>h y (aD _ d)];simp[fH,e,i]
  ·rw[b n k ad e];show forIn r ad f=_;rw[qz hf b r _ fun y d=>h y (aD _ d)];simp[fH,e]
def xH{env:Env}(h:∀y∈scope.names,y.2=.free->∃c,env.cells.lookup y.1=some c):IL scope env=pure (fH env.cells scope.names []):=by
 have q:=qz (env:=env) (f:=fun x b=>match x with | (name,kind)=>if(kind==bV)=true then(do let a<-cellOf env name;pure (hO ((name,a)::b)))else pure (hO b))
  (fun n k a c e g=>by
   subst e;simp only[cellOf,g];rfl) (fun n k a e=>by
   have d:(k==bV)=false:=by simpa using e
   simp only[d,aX,if_false]) scope.names [] h
 unfold IL;show(forIn scope.names [] _>>=fun r=>pure r)=_;exact(congrArg (·>>=fun r=>pure r) q).trans rfl
theorem lr{cells:List (Str×Addr)}:∀(a:List (Str×dZ))(ad:List (Str×Addr))(x:Str)(c:Addr),(fH cells a ad).lookup x=some c->
  ((x,bV)∈a/\c=(cells.lookup x).getD 0)\/ad.lookup x=some c
 | [],ad,x,c,h=>.inr h
 | (n,k)::r,ad,x,c,h=>by
  rcases lr r _ x c h with⟨q,e⟩ |q;·exact .inl ⟨aD _ q,e⟩
  ·by_cases e:k=.free
   ·rw[if_pos e,aV]at q;cases hx:x==n with
    |true=>
     rw[hx]at q;have b:x=n:=by simpa using hx
     subst b;subst e;exact .inl ⟨aL,(bc q).symm⟩
    |false=>rw[hx]at q;exact .inr q
   ·rw[if_neg e]at q;exact .inr q
theorem wJ{cells:List (Str×Addr)}:∀(a:List (Str×dZ))(ad:List (Str×Addr))(x:Str),(ad.lookup x).isSome=true->((fH cells a ad).lookup x).isSome=true
 | [],ad,x,h=>h
 | (n,k)::r,ad,x,h=>by
  refine wJ r _ x ?_;split;·rw[aV];cases x==n<;>simp_all
  ·exact h
theorem qA{cells:List (Str×Addr)}:∀(a:List (Str×dZ))(ad:List (Str×Addr))(x:Str),(x,bV)∈a->((fH cells a ad).lookup x).isSome=true
 | [],ad,x,h=>by simp at h
 | (n,k)::r,ad,x,h=>by
  rcases aG.mp h with q|q;·cases q;refine wJ r _ n ?_;simp[aV]
  ·exact qA r _ x q
theorem fQ:∀(a:List (Str×dZ))(n:Nat)(ad:List (Str×Addr)),cy n a ad=cy n a []++ad
 | [],_,_=>rfl
 | (x,k)::r,n,ad=>by
  unfold cy;split;·rw[fQ r (n+1) ((x,n)::ad),fQ r (n+1) [(x,n)],mT];rfl
  ·exact fQ r n ad
theorem lz:∀(a:List (Str×dZ))(n:Nat)(ad:List (Str×Addr))(x:Str),(ad.lookup x).isSome=true->((cy n a ad).lookup x).isSome=true
 | [],_,_,_,h=>h
 | (y,k)::r,n,ad,x,h=>by
  unfold cy;split;·refine lz r _ _ x ?_;rw[aV];cases x==y<;>simp_all
  ·exact lz r _ _ x h
theorem jb:∀(a:List (Str×dZ))(n:Nat)(ad:List (Str×Addr))(x:Str),(x,cM)∈a->((cy n a ad).lookup x).isSome=true
 | [],_,_,_,h=>nomatch h
 | (y,k)::r,n,ad,x,h=>by
  unfold cy;rcases aG.mp h with q|q;·cases q;rw[if_pos (by rfl)];refine lz r _ _ _ ?_;simp[aV]
  ·split;·exact jb r _ _ x q
   ·exact jb r _ _ x q
theorem lu:∀(a:List (Str×dZ))(n:Nat)(ad:List (Str×Addr))(x:Str)(c:Addr),(x,c)∈cy n a ad->(x,cM)∈a\/(x,c)∈ad
 | [],_,_,_,_,h=>.inr h
 | (y,k)::r,n,ad,x,c,h=>by
  unfold cy at h;split at h
  ·rename_i hk;rcases lu r _ _ x c h with q|q;·exact .inl (aD _ q)
   ·rcases aG.mp q with e|e
    ·cases e;have :k=.cell:=by simpa using hk
     subst this;exact .inl aL
    ·exact .inr e
  ·rcases lu r _ _ x c h with q|q;·exact .inl (aD _ q)
   ·exact .inr q
def Eu{M:Model}{d:Addr}{b:List (Str×Addr)}{c:Value}{outer:Env}{a:Addr}{Q:Env->Shared->Prop}
  (h:Q (newEnv scope s.heap.objs.size d (cy (s.heap.objs.size+1) scope.names b) qual func c (some outer) a) {s with heap:=pushCells (s.heap.push {cls:=.type "dict",data:=.dict #[]}) scope.names}):
  wpAny M A (newFunctionEnv scope d b [] qual func c (some outer) a) Q E s:=by
 simp only[newFunctionEnv,fS,if_true];refine aa (wpAny_alloc ?_);refine aa (wpAny_layCells _ (fun name kind e=>by cases hkc:kind==cM<;>simp[hkc]) _ _ _ _ ?_);rw[show({s with heap:=s.heap.push {cls:=.type "dict",data:=.dict #[]}}:Shared).heap.objs.size=s.heap.objs.size+1 from bD ..];rw[AU];exact aa (aj (aj h))
structure pA(X:Cx)(N':List Str)(sc:Scope):Prop where
 kind:sc.kind=.function
 cellk:∀y∈sc.names,y.2=.cell->sc.names.lookup y.1=some .cell
 own:∀y∈sc.names,y.2=.local->sc.names.lookup y.1=some .local
 free:∀y∈sc.names,y.2=.free->X.env.kindOf y.1=some .cell\/X.env.kindOf y.1=some .free
abbrev dS(X:Cx)(N':List Str)(sc:Scope)(C:Addr)(s₀:Shared)(H₀:Hp)(fp:List Addr):Cx:=
 {X with N:=N',s₀:=s₀,H₀:=H₀,env:=compEnvC sc (cy (C+1) sc.names (fH X.env.cells sc.names [])) C X.env,outer:=X.stack,stack:=X.stack,ex:=fp,fn:=fun x=>sc.names.any fun y=>decide (y.1=x)&&decide (y.2=.cell),pn:=[],xe:=fun _ _=>False}
theorem nP{env:Env}:∀{a:List (Str×dZ)}{x:Str}{k:dZ},
  (a.map fun(n,k)=>if(k==bV&&env.scope.kind== .function&&env.kindOf n==some .cell)then(n,cM)else(n,k)).lookup x=some k->
  a.lookup x=some k\/(a.lookup x=some .free/\k=.cell)
 | [],_,_,h=>by simp at h
 | (n,k)::r,x,k',h=>by
  have b:= @nP env r x k';rw[a8]at h;change cS x ((if(k==bV&&env.scope.kind== .function&&env.kindOf n==some .cell)=true then(n,cM)else(n,k))::_)=_ at h;cases hx:x==n with
  |true=>
   by_cases hc:(k==bV&&env.scope.kind== .function&&env.kindOf n==some .cell)=true
   ·rw[if_pos hc]at h;simp only[aV,hx]at h⊢;have :k=.free:=by have :=hc;simp only[az]at this;simpa using this.1.1
    subst this;exact .inr ⟨rfl,(bc h).symm⟩
   ·rw[if_neg hc]at h;simp only[aV,hx]at h⊢;exact .inl h
  |false=>
   have e:cS x (r.map fun(n,k)=>if(k==bV&&env.scope.kind== .function&&env.kindOf n==some .cell)then(n,cM)else(n,k))=some k':=by split at h<;>simpa only[aV,hx]using h
   simp only[aV,hx];exact b e
theorem gF{env:Env}:∀{a:List (Str×dZ)}{x:Str},a.lookup x=some .free->
  (a.map fun(n,k)=>if(k==bV&&env.scope.kind== .function&&env.kindOf n==some .cell)then(n,cM)else(n,k)).lookup x=some .free\/
  (a.map fun(n,k)=>if(k==bV&&env.scope.kind== .function&&env.kindOf n==some .cell)then(n,cM)else(n,k)).lookup x=some .cell
 | [],_,h=>by simp at h
 | (n,k)::r,x,h=>by
  have b:= @gF env r x;rw[a8];change cS x ((if(k==bV&&env.scope.kind== .function&&env.kindOf n==some .cell)=true then(n,cM)else(n,k))::_)=_\/cS x ((if(k==bV&&env.scope.kind== .function&&env.kindOf n==some .cell)=true then(n,cM)else(n,k))::_)=_;cases hx:x==n with
  |true=>
   simp only[aV,hx]at h;cases h;by_cases hc:(bV==bV&&env.scope.kind== .function&&env.kindOf n==some .cell)=true;·rw[if_pos hc];right;simp only[aV,hx]
   ·rw[if_neg hc];left;simp only[aV,hx]
  |false=>simp only[aV,hx]at h;split <;>simpa only[aV,hx]using b h
theorem gf{env:Env}:∀{a:List (Str×dZ)}{x:Str}{k:Option dZ},a.lookup x=k->k≠some .free->
  (a.map fun(n,k)=>if(k==bV&&env.scope.kind== .function&&env.kindOf n==some .cell)then(n,cM)else(n,k)).lookup x=k
 | [],_,_,h,_=>by simpa using h
 | (n,k)::r,x,k',h,hf=>by
  have d:= @gf env r x k';rw[a8];change cS x ((if(k==bV&&env.scope.kind== .function&&env.kindOf n==some .cell)=true then(n,cM)else(n,k))::_)=_;cases hx:x==n with
  |true=>
   simp only[aV,hx]at h;have c:k≠.free:=fun e=>hf (by rw[<-h,e]);have b:(k==bV)=false:=by simpa using c
   rw[if_neg (by rw[b];simp)];simp only[aV,hx];exact h
  |false=>simp only[aV,hx]at h;split <;>simpa only[aV,hx]using d h hf
def yo{a:List (Str×Addr)}{env:Env}{x:Str}{k:dZ}(h:(compEnvC sc a C env).kindOf x=some k):sc.names.lookup x=some k\/(sc.names.lookup x=some .free/\k=.cell):=nP (env:=env) h
def EC{R:Result->Shared->Prop}{f d:Expr}{g:List Expr}{b e:Value}{env:Env}(I:Nat->Shared->Prop)
  (D:∀n s,I n s->wpAny (model prog w) A (pyNext b) (fun r i=>match r with
   |none=>R (.ok .next) i
   |some v=>wpAny (model prog w) A (sG d b v) (fun _ o=>wpAny (model prog w) A (assign d env v) (fun _ p=>
     wpAny (model prog w) A (forIn g true fun c r=>if r=true then do let ok<-isTrue c env (eval c env);pure (hO ok)else pure (hO r)) (fun ok j=>
      if ok=true then wpAny (model prog w) A (eval f env) (fun x q=>
       wpAny (model prog w) A (call (.builtin "list.append") [e,x]) (fun _ t=>∃m,m<n/\I m t) (fun _ _=>False) q) (fun _ _=>False) j
      else ∃m,m<n/\I m j) (fun _ _=>False) p) (fun _ _=>False) o) (fun _ _=>False) i) (fun _ _=>False) s)
  (n:Nat) (h:I n s):
  gA (model prog w) A (.compLoop (.ListComp f [⟨d,iter,g,0⟩] scope pos) 0 b e env) R s:=by
 refine codeAny_loop rfl I (fun n s u=>?_) n h;show wpAny _ A ((compTurn (.ListComp f [⟨d,iter,g,0⟩] scope pos) 0 b e env).onRaise (fun x=>do ng x env;theTreesLotGoes x)) _ _ s;refine wpAny_noted ?_;rw[compTurn_list];refine aa (gM (aa (cL (D n s u) (fun r i k=>?_) fun _ _ a=>a.elim)));cases r with
 |none=>exact aj k
 |some v=>
  refine aa (cL k (fun _ o y=>?_) fun _ _ a=>a.elim);refine aa (cL y (fun _ p z=>aa (cL z (fun ok j l=>?_) fun _ _ a=>a.elim)) fun _ _ a=>a.elim);cases ok with
  |false=>exact aj ⟨rfl,l⟩
  |true=>exact aa (aa (cL l (fun x q B=>aa (cL B (fun _ t C=>aj (aj ⟨rfl,C⟩)) fun _ _ a=>a.elim)) fun _ _ a=>a.elim))
def PTs(X:Cx)(ifs:List Expr)(t:TT):Prop:=
 ∀(pins:List (Addr×Obj))(s:Shared)(σ:St)(H:Hp)(Q:Bool->Hp->Prop),Inv X pins σ H s->t σ H Q->
  wpAny (model X.prog X.w) X.A (forIn ifs true fun c r=>if r=true then do let ok<-isTrue c X.env (eval c X.env);pure (hO ok)else pure (hO r)) (TP X pins σ Q) X.xe s
def tYes:TT:=fun _ H Q=>Q true H
def pts_nil:PTs X [] tYes:=by intro a s b H Q I h;rw[AU];exact aj ⟨H,I,h⟩
def pts_one{c:Expr}{t:TT}(h:PT X c t):PTs X [c] t:=by intro d s f H Q I a;rw[List.forIn_cons];simp only[if_true];refine aa (aa (thn (h d s f H Q I a) fun b e q=>?_));refine aj ?_;show wpAny _ _ (forIn ([]:List Expr) b _) _ _ e;rw[AU];exact aj q
def vn(wi:TI)(g:TG)(tc:TT)(te:TE)(mk:St->St):TE:=fun σ H Q=>wi σ H fun J H1=>∃W:Nat->Nat->St->List V->Hp->Prop,(∃m,W 0 m (mk σ) [] H1)/\
 ∀i m h ad H2,W i m h ad H2->(J.stop i H2/\∀l,H2 l=none->Q (.ref l) (upd H2 l (.lst ad)))\/(J.go i H2/\∃N:St->List V->Hp->Prop,(∀j e H',N j e H'->∃f,f<m/\W (i+1) f j e H')/\
  ∀x c,J.yld i H2 x c->g x h c fun a k=>tc a k fun b d=>if b=true then te a d fun v n=>ad.length<sizeLine/\N a (ad++[v]) n else N a ad d)
def Inv.track{o:HO}(I:Inv X pins σ H s)(hf:oY X pins H a)(p:dz X.prog X.w (upd H a o) s.heap a o):Inv X pins σ (upd H a o) s:=by
 obtain⟨g,h,t,i,j,k⟩:=hf;have :=I.step (g':=s.gens) (d':=s.drawn) (t':=s.toks) (h':=s.heap) (H':=upd H a o) (ch:=[a]) (fun b d=>by
   have e:b=a:=by simpa using d
   subst e;exact⟨i,h,j,k⟩)
  (fun b f _ _ _ q _=>q) (fun b f _ _ _ q _=>⟨f.slots,q⟩) (fun b f d q n=>by rw[aW (fun z=>d (by simp[z]))];exact n) (fun b f _ q=>⟨f,q⟩)
  (fun b r q=>by rw[aW (bI q g)];exact q) (fun b f u q=>by rw[aW (bI q g)];exact q) (fun b w q=>⟨#[],by rw[aW (bI q g),q];simp⟩)
  (fun m l=>l) (fun b u q=>by
   by_cases d:b=a;·subst d;rw[aq]at q;cases q;exact p
   ·rw[aW d]at q;exact(I.hok b u q).sR (fun c v _ e=>e) (fun c e=>by rw[aW (bI e g)];exact e) fun c r e=>by rw[aW (bI e g)];exact e) I.bare
 exact this
def EL{Q:Value->Shared->Prop}(I:Inv X pins σ H s)(hf:oY X pins H a)
  (e:s.heap.get? a=some {cls:=.type "list",data:=.seq al.toArray n}) (hz:al.length<sizeLine)
  (h:∀h' m,Inv X pins σ H {s with heap:=h'}->h'.get? a=some {cls:=.type "list",data:=.seq (al++[u]).toArray m}->(∀b o,b≠a->s.heap.get? b=some o->h'.get? b=some o)->Q .none {s with heap:=h'}):
  wpAny (model X.prog X.w) X.A (call (.builtin "list.append") [.ref a,u]) Q E s:=by
 refine kF F.slot_list_append ⟨_,e,rfl⟩ F.entry_list_append (F.args_list_append_2 _ _) (PySem.list_append a al.toArray n u (by rw[aw];lia)) ⟨e,?_⟩;have q:=IM e (·.push u);have c:al.toArray.push u=(al++[u]).toArray:=by simp
 rw[c]at q;have k:∀b o,b≠a->s.heap.get? b=some o->(s.heap.update a (aZ (·.push u))).get? b=some o:=fun b o l z=>(aN s.heap _ (bE l)).trans z;obtain⟨d,f,p,g,i,j⟩:=hf;exact h _ _ (I.turned (t':=s.toks) k d f g i j) q k
section
variable {N':List Str}{elt:Expr}{ifs:List Expr}{wi:TI}{g:TG}{tc:TT}{te:TE}{mk:St->St}
def MkOk(X:Cx)(N':List Str)(sc:Scope)(mk:St->St):Prop:=
 ∀σ:St,σ.length=X.N.length->(mk σ).length=N'.length/\∀(i:Nat)(x:Str)(v:V),N'[i]? =some x->(mk σ)[i]? =some (some v)->sc.names.lookup x=some .free/\∃j:Nat,X.N[j]? =some x/\σ[j]? =some (some v)
def yw{Q:VK}{use:Option (Value->Sem Unit)}(S:pA X N' sc)(hm:MkOk X N' sc mk)(hc:X.calm=true)
  (hi:PI X tg iter wi)
  (a:∀C a5 a2 fp,(dS X N' sc C a5 a2 fp).Ok->PG (dS X N' sc C a5 a2 fp) tg g/\PTs (dS X N' sc C a5 a2 fp) ifs tc/\PE (dS X N' sc C a5 a2 fp) elt te)
  (hs:∀x,jN iter X.env x=pure x)(I:Inv X pins σ H s)(h:vn wi g tc te mk σ H Q)
  (e8:∀(l C:Addr)(H':Hp)(s':Shared)(m:Str->Option Value),Inv X pins σ H' s'->s'.heap.Ns C m->oY X pins H' C->(∃o,s'.heap.get? C=some o/\∀v,o.data≠.cell v)->Q (.ref l) H'->compPost (model X.prog X.w) X.A X.xe use QQ (.ref l) C (.ok .next) s'):
  wpAny (model X.prog X.w) X.A (comprehension (.ListComp elt [⟨tg,iter,ifs,0⟩] sc pos) sc X.env (firstIterPos [⟨tg,iter,ifs,0⟩] pos) (newList []) false (eval iter X.env) use) QQ X.xe s:=by
 have c5:∀y∈sc.names,y.2=.free->∃c,X.env.cells.lookup y.1=some c:=fun y hy hf=>I.ok.has _ (S.free y hy hf);refine wpAny_comprehension_free (use:=use) rfl hs (xH c5) S.kind S.own ?_;refine thn (hi pins s σ H _ I h) fun v s1 Y=>thn Y fun h9 s2 Z=>?_;obtain⟨it,fp,tn,J,d,e,E,T,d4,V,e0,⟨m0,w0⟩,h3⟩:=Z;subst e
 --the list
 refine bW ?_;have f5:d s2.heap.objs.size=none:=E.fresh;have fD:oY X pins d s2.heap.objs.size:=E.z9 (av _) f5;have c0:(s2.heap.push {cls:=.type "list",dict:=none,data:=.seq ([]:List Value).toArray}).get? s2.heap.objs.size=some {cls:=.type "list",data:=.seq ([]:List Value).toArray 0}:=ax _ rfl;have j:Inv X pins σ d {s2 with heap:=s2.heap.push {cls:=.type "list",dict:=none,data:=.seq ([]:List Value).toArray}}:=E.kept (t':=s2.toks) fun b o e=>ag _ e
 --the block's frame
 refine Eu ?_;dsimp only;have b4:(s2.heap.push {cls:=.type "list",dict:=none,data:=.seq ([]:List Value).toArray}).objs.size=s2.heap.objs.size+1:=bD ..;have c3:s2.heap.objs.size≠(s2.heap.push {cls:=.type "list",dict:=none,data:=.seq ([]:List Value).toArray}).objs.size:=by rw[b4];exact aK (dW _)
 have O:∀b o,s2.heap.get? b=some o->(s2.heap.push {cls:=.type "list",dict:=none,data:=.seq ([]:List Value).toArray}).get? b=some o:=fun b o e=>ag _ e;generalize hH3:s2.heap.push {cls:=.type "list",dict:=none,data:=.seq ([]:List Value).toArray}=P3 at j b4 c0 c3 O⊢;generalize hD:s2.heap.objs.size=D0 at *;have c6:(pushCells (P3.push {cls:=.type "dict",data:=.dict #[]}) sc.names).Ns P3.objs.size (fun _=>none):=(Heap.Ns.new P3 (.type "dict")).keeps (pushCells_keeps _ _);have P:∀b o,P3.get? b=some o->(pushCells (P3.push {cls:=.type "dict",data:=.dict #[]}) sc.names).get? b=some o:=fun b o e=>pushCells_keeps _ _ b o (ag _ e);have R:=cellsFrom_ok sc.names (P3.push {cls:=.type "dict",data:=.dict #[]}) (P3.objs.size+1) [] ⟨fun _ _ hm=>(nomatch hm),jV⟩ (by rw[bD];exact av _);rw[bD]at R;generalize pushCells (P3.push {cls:=.type "dict",data:=.dict #[]}) sc.names=h4 at c6 P R⊢
 --the context
 have c2:∀b∈fp,b<D0:=fun b a=>by obtain⟨o,e,_⟩:=T.obj _ _ d4 b a;rw[<-hD];exact ay e
 have a8:D0<P3.objs.size:=by rw[b4];exact dW _
 have A:∀x c,(fH X.env.cells sc.names []).lookup x=some c->X.env.cells.lookup x=some c/\(x,bV)∈sc.names:=fun x c e=>by
  rcases lr _ _ x c e with⟨q,e'⟩ |q;·obtain⟨M,a0⟩:=c5 _ q rfl;have f0:X.env.cells.lookup x=some M:=a0;rw[f0]at e'⊢;exact⟨by rw[e'];rfl,q⟩
  ·simp at q
 have b9:∀x c,(fH X.env.cells sc.names []).lookup x=some c->c<P3.objs.size:=fun x c e=>by obtain⟨v,o,f,_⟩:=j.cell x c (A x c e).1;exact ay f
 have N:∀x c,(cy (P3.objs.size+1) sc.names (fH X.env.cells sc.names [])).lookup x=some c->((x,c)∈cy (P3.objs.size+1) sc.names []/\P3.objs.size+1<=c/\h4.IsCell c none)\/(fH X.env.cells sc.names []).lookup x=some c:=fun x c e=>by
  rw[fQ,uw]at e;cases f:(cy (P3.objs.size+1) sc.names []).lookup x with
  |none=>rw[f]at e;exact .inr e
  |some M=>rw[f]at e;cases e;have m:=bw f;exact .inl ⟨m,(R.empty x c m).2,(R.empty x c m).1⟩
 have b8:∀x,sc.names.lookup x=some .free->(cy (P3.objs.size+1) sc.names (fH X.env.cells sc.names [])).lookup x=(fH X.env.cells sc.names []).lookup x:=fun x hf=>by
  rw[fQ,uw];cases f:(cy (P3.objs.size+1) sc.names []).lookup x with
  |none=>rfl
  |some M=>
   rcases lu _ _ _ _ _ (bw f)with q|q;·have :=S.cellk _ q rfl;rw[hf]at this;cases this
   ·cases q
 have F:∀b∈D0::fp,oY X pins d b/\b<P3.objs.size:=fun b a=>by
  rcases aG.mp a with z|z;·rw[z];exact⟨fD,a8⟩
  ·exact⟨V b z,fW (c2 b z) a8⟩
 have ok:(dS X N' sc P3.objs.size {s2 with heap:=P3} d (D0::fp)).Ok:=by
  refine⟨I.ok.mod,S.kind,I.ok.glob,I.ok.blt,av _,fun x y c Y Z=>?_,fun x hx=>?_,fun x c z=>?_,fun z=>I.ok.hd z,I.ok.frames,.inl rfl,fun b a=>⟨?_,fun x c e=>?_⟩,j.bs,aF I.ok.bsz j.sz,fun b o e a=>?_,fun b a z=>?_,j.stack,j.y6⟩
  ·rcases N x c Y with⟨m1,l1,_⟩ |q1<;>rcases N y c Z with⟨m2,l2,_⟩ |q2;·exact PySem.name_of_addr R.apart m1 m2
   ·exact absurd l1 (Nat.not_le.mpr (bM (b9 y c q2)))
   ·exact absurd l2 (Nat.not_le.mpr (bM (b9 x c q1)))
   ·exact I.ok.inj x y c (A x c q1).1 (A y c q2).1
  ·have q:sc.names.lookup x=some .free\/sc.names.lookup x=some .cell:=by
    rcases hx with hx|hx
    ·rcases yo hx with q|q;·exact .inr q
     ·exact .inl q.1
    ·rcases yo hx with q|q;·exact .inl q
     ·exact .inl q.1
   rcases q with q|q;·have Y:=cg.mp (qA (cells:=X.env.cells) _ [] _ (bw q));show ∃c,(cy (P3.objs.size+1) sc.names (fH X.env.cells sc.names [])).lookup x=some c;rw[b8 x q];exact Y
   ·exact cg.mp (jb _ _ _ _ (bw q))
  ·have z:(sc.names.any fun y=>decide (y.1=x)&&decide (y.2=cM))=true:=z;obtain⟨y,hy,e⟩:=cw.mp z;rw[az,decide_eq_true_eq,decide_eq_true_eq]at e;intro hc;rcases N x c hc with⟨_,l1,_⟩ |q1;·show P3.objs.size<=c;lia
   ·have hk:=S.cellk y hy e.2;rw[e.1]at hk;rcases lr _ _ x c q1 with⟨q,_⟩ |q
    ·have Z:(cy (P3.objs.size+1) sc.names []).lookup x≠none:=fun h=>by have :=jb sc.names (P3.objs.size+1) [] x (bw hk);rw[h]at this;cases this
     have a0:(cy (P3.objs.size+1) sc.names (fH X.env.cells sc.names [])).lookup x=some c:=hc;rw[fQ,uw]at a0;cases f:(cy (P3.objs.size+1) sc.names []).lookup x with
     |none=>exact absurd f Z
     |some M=>rw[f]at a0;cases a0;have :=(R.empty x c (bw f)).2;show P3.objs.size<=c;lia
    ·cases q
  ·exact aK (F b a).2
  ·rcases N x c e with⟨_,l1,_⟩ |q1;·have :=(F b a).2;exact fun z=>by subst z;lia
   ·exact(F b a).1.2.2.2.2.1 x c (A x c q1).1
  ·rcases(F b a).1.2.2.2.1 with z|z;·exact I.ok.noex b o e z
   ·exact absurd (aT (ay e) (aF I.ok.bsz z)) (dH _)
  ·rcases aG.mp (E.DA b z)with q|q;·exact(F b a).1.2.1 q
   ·exact(F b a).1.2.2.1 q
 obtain⟨pg,pt,pe⟩:=a _ _ _ _ ok;have I4:Inv (dS X N' sc P3.objs.size {s2 with heap:=P3} d (D0::fp)) [] (mk σ) d {s2 with heap:=h4}:=by
  obtain⟨ml,f6⟩:=hm σ I.len;have c9:∀x c v,X.env.cells.lookup x=some c->P3.IsCell c v->h4.IsCell c v:=fun x c v e ⟨o,f,hd⟩=>⟨o,P c o f,hd⟩;refine⟨ok,rfl,E.bare,Un.kept P,⟨_,c6,fun i x v e1 e2 e3=>?_⟩,fun x c e=>?_,j.hok.fresh (av _),fun x c e=>?_,fun p hp=>absurd (show p∈([]:List (Addr×Obj))from hp) (by simp),j.hok.kept P,ml⟩
  ·obtain⟨hf,f7,hj,hv⟩:=f6 i x v e1 e2;obtain⟨m,G,hl⟩:=j.loc;have kx:=S.free (x,.free) (bw hf) rfl;obtain⟨u,b3,l⟩:=hl f7 x v hj hv (by
    rcases kx with q|q;·exact .inr (.inl q)
    ·exact .inr (.inr q))
   refine⟨u,b3,.inr ⟨?_,?_⟩⟩
   ·rcases gF (env:=X.env) hf with q|q;·exact .inr q
    ·exact .inl q
   ·rcases l with⟨q,_⟩ |⟨_,c,c4,f1⟩;·have c8:X.env.kindOf x=some .cell\/X.env.kindOf x=some .free:=kx;rw[q]at c8;rcases c8 with z|z<;>cases z
    ·obtain⟨M,q⟩:=cg.mp (qA (cells:=X.env.cells) _ [] _ (bw hf));have :=(A x M q).1;rw[c4]at this;cases this;exact⟨c,by show(cy (P3.objs.size+1) sc.names (fH X.env.cells sc.names [])).lookup x=some c;rw[b8 x hf];exact q,c9 x c _ c4 f1⟩
  ·rcases N x c e with⟨_,_,hv⟩ |q1;·exact⟨none,hv⟩
   ·obtain⟨v,hv⟩:=j.cell x c (A x c q1).1;exact⟨v,c9 x c v (A x c q1).1 hv⟩
  ·rcases N x c e with⟨_,l1,_⟩ |q1;·exact j.hok.fresh (by show P3.objs.size<=c;lia)
   ·exact j.freeC x c (A x c q1).1
 have d5:tn 0 h4:=T.keep _ _ _ d4 fun b a o e=>P b o (O b o e);have f4:∀{H':Hp}{b:Addr},b∈D0::fp->H' b=none->oY (dS X N' sc P3.objs.size {s2 with heap:=P3} d (D0::fp)) [] H' b:=fun{H' b} a G=>
  ⟨G,(ok.exf b a).1,ok.exfs b a,.inl a,(ok.exf b a).2,fun p hp=>absurd (show p∈([]:List (Addr×Obj))from hp) (by simp)⟩
 have a3:∀{b:Addr},b∈fp->b∈D0::fp:=fun a=>aD _ a;have nD:∀b∈fp,b≠D0:=fun b a=>aK (c2 b a)
 --the b2
 have b2:gA (model X.prog X.w) X.A (.compLoop (.ListComp elt [⟨tg,iter,ifs,0⟩] sc pos) 0 (.ref it) (.ref D0) (compEnvC sc (cy (P3.objs.size+1) sc.names (fH X.env.cells sc.names [])) P3.objs.size X.env))
   (compPost (model X.prog X.w) X.A X.xe use QQ (.ref D0) P3.objs.size) {s2 with heap:=h4}:=by
  refine EC (fun n s'=>∃i B k H' r f8,Inv (dS X N' sc P3.objs.size {s2 with heap:=P3} d (D0::fp)) [] B H' s'/\tn i s'.heap/\(∀b∈D0::fp,H' b=none)/\bG k r/\k.length<=sizeLine/\
    s'.heap.get? D0=some {cls:=.type "list",data:=.seq r.toArray f8}/\e0 i n B k H') ?_ m0
   ⟨0,mk σ,[],_,[],0,I4,d5,fun b a=>(F b a).1.1,.nil,aM _,P _ _ c0,w0⟩
  rintro n t ⟨i,B,k,D,r,kk,I5,d7,W,a6,c7,e5,w5⟩;have b6:Inv (dS X N' sc P3.objs.size {s2 with heap:=P3} d (D0::fp)) ([]++jt [D0] t.heap) B D t:=by
   refine I5.pinned (fun b a=>?_) (fun b a=>?_)
   ·have z:b=D0:=by simpa using a
    rw[z];exact f4 aL (W D0 aL)
   ·have z:b=D0:=by simpa using a
    rw[z];exact⟨_,e5,fun v z=>by cases z⟩
  obtain q|⟨go,NN,hN,step⟩:=h3 i n B k D w5
  ·obtain⟨h0,q⟩:=q;refine thn (T.done (dS X N' sc P3.objs.size {s2 with heap:=P3} d (D0::fp)) rfl rfl rfl hc i _ t B D (fun _ _=>False) b6 (fun b a=>?_) d7 h0) fun b3 K ⟨hr,b7⟩=>?_
   ·obtain⟨g0,g1,g2,g3,g4,_⟩:=f4 (a3 a) (W b (a3 a));refine⟨g0,g1,g2,g3,g4,fun p hp=>?_⟩;have b1:p∈jt [D0] t.heap:=by simpa[dS]using hp
    obtain⟨z,_⟩:=sZ b1;have z':p.1=D0:=by simpa using z
    rw[z'];exact(nD b a).symm
   subst hr;have L:=b7.iG;have e6:K.heap.get? D0=some {cls:=.type "list",data:=.seq r.toArray kk}:=(b7.pin (D0,_) (a9 _ (a9 _ (i0 (by simp) e5)))).1
   --back in the context around
   have un:Un (frs X.stack) fp d D s2.heap K.heap:=by
    have u:=L.base;have nb:∀b o,s2.heap.get? b=some o->b∉fp->b∉D0::fp:=fun b o e a z=>by
     rcases aG.mp z with z|z;·exact absurd (ay e) (by rw[z,hD];exact dH _)
     ·exact a z
    exact⟨fun b o e n a hx=>u.keep b o (O b o e) n a (nb b o e hx),fun b o e n a hx=>u.slot b o (O b o e) n a (nb b o e hx),fun b o e n hx=>u.free b o (O b o e) n (nb b o e hx),fun b o e hx=>u.there b o (O b o e) (nb b o e hx),u.tups,u.frzs,u.tbls⟩
   have I7:Inv X pins σ D K:=by obtain⟨hh,g6,d6,t6,g7⟩:=K;have eo:g7=s2.os:=L.os;subst eo;exact E.call (h':=hh) (g':=g6) (d':=d6) (t':=t6) (ch:=fp) un L.hok L.bare fun b a=>⟨(V b a).2.2.2.1,(V b a).2.1,(V b a).2.2.2.2.1,(V b a).2.2.2.2.2⟩
   have e7:oY X pins D D0:=⟨W D0 aL,fD.2⟩;have I8:=I7.track (o:=.lst k) e7 (show dz X.prog X.w _ K.heap D0 (.lst k)from⟨c7,r,kk,a6,e6⟩);obtain⟨m,G,_⟩:=id L.loc;refine e8 _ P3.objs.size _ K m I8 G (E.z9 (by rw[hD];exact lE a8) (by rw[aW (bE c3)];exact L.free)) ?_ (q D0 (W D0 aL));obtain⟨o,es,ep,f,hd,_⟩:=G;exact⟨o,f,fun v z=>by rw[hd]at z;cases z⟩
  ·skip
   have c1:∀{H':Hp}{b:Addr},b∈fp->H' b=none->oY (dS X N' sc P3.objs.size {s2 with heap:=P3} d (D0::fp)) ([]++jt [D0] t.heap) H' b:=fun{H' b} a G=>by
    obtain⟨g0,g1,g2,g3,g4,_⟩:=f4 (H':=H') (a3 a) G;refine⟨g0,g1,g2,g3,g4,fun p hp=>?_⟩;have b1:p∈jt [D0] t.heap:=by simpa[dS]using hp
    obtain⟨z,_⟩:=sZ b1;have z':p.1=D0:=by simpa using z
    rw[z'];exact(nD b a).symm
   refine thn (T.item (dS X N' sc P3.objs.size {s2 with heap:=P3} d (D0::fp)) rfl rfl rfl hc i _ t B D (fun _ _=>False) b6 (fun b a=>c1 a (W b (a3 a))) d7 go) fun b3 K ⟨u,hr,h6⟩=>?_;subst hr;refine thn h6 fun _ s7 ⟨x,H7,I7,r7,y7,a4,e9⟩=>?_;have d9:=I7.pinned (fun b a=>c1 a (e9 b a)) (T.obj _ _ a4);refine thn (pg _ s7 B H7 x u _ d9 r7 (step x H7 y7)) fun _ s8 ⟨U,H8,I8,q8⟩=>?_;refine thn (pt _ s8 U H8 _ I8 q8) fun b s9 ⟨H9,I9,q9⟩=>?_;have d0:∀{a1:St}{H':Hp}{s':Shared},Inv (dS X N' sc P3.objs.size {s2 with heap:=P3} d (D0::fp)) ([]++jt [D0] t.heap++jt fp s7.heap) a1 H' s'->s'.heap.get? D0=some {cls:=.type "list",data:=.seq r.toArray kk}/\H' D0=none:=fun{a1 H' s'} J=>by have :=J.pin (D0,_) (a9 _ (cz _ (a9 _ (i0 (by simp) e5))));exact⟨this.1,this.2.1⟩
   have d3:∀{a1:St}{H':Hp}{s':Shared},Inv (dS X N' sc P3.objs.size {s2 with heap:=P3} d (D0::fp)) ([]++jt [D0] t.heap++jt fp s7.heap) a1 H' s'->(∀b∈fp,∀o,s7.heap.get? b=some o->s'.heap.get? b=some o)/\(∀b∈fp,H' b=none):=fun{a1 H' s'} J=>by refine⟨fun b a o e=>(J.pin (b,o) (a9 _ (a9 _ (i0 a e)))).1,fun b a=>?_⟩;obtain⟨o,e,h5⟩:=T.obj _ _ a4 b a;exact(J.pin (b,o) (a9 _ (a9 _ (i0 a e)))).2.1
   cases b with
   |false=>
    rw[if_neg (by decide)]at q9⊢;obtain⟨m',b0,w7⟩:=hN U k H9 q9;obtain⟨d1,d2⟩:=d0 I9;obtain⟨p1,p2⟩:=d3 I9;refine⟨m',b0,i+1,U,k,H9,r,kk,I9.iG.iG,T.keep _ _ _ a4 p1,fun b a=>?_,a6,c7,d1,w7⟩;rcases aG.mp a with z|z;·rw[z];exact d2
    ·exact p2 b z
   |true=>
    rw[if_pos rfl]at q9⊢;refine thn (pe _ s9 U H9 _ I9 q9) fun y i1 ⟨z,b5,a7,g9,g8⟩=>?_;obtain⟨h8,g5⟩:=g8;obtain⟨m',b0,w7⟩:=hN U _ b5 g5;obtain⟨d1,d2⟩:=d0 a7;obtain⟨p1,p2⟩:=d3 a7;have h7:r.length=k.length:=a6.length.symm;refine EL (X:=dS X N' sc P3.objs.size {s2 with heap:=P3} d (D0::fp)) a7.iG.iG (f4 aL d2) d1 (by lia) fun h' n' d8 e4 f9=>?_;refine⟨m',b0,i+1,U,k++[z],b5,r++[y],n',d8,T.keep _ _ _ a4 fun b a o e=>f9 b o (nD b a) (p1 b a o e),fun b a=>?_,a6.append (.cons g9 .nil),?_,e4,w7⟩
    ·rcases aG.mp a with w|w;·rw[w];exact d2
     ·exact p2 b w
    ·rw[aU,dR];lia
 exact codeAny_compStart_list b2 (T.self _ 0 _ _ _ d5 b2)
def pe_comp(S:pA X N' sc)(r:MkOk X N' sc mk)(p:X.calm=true)(hi:PI X tg iter wi)
  (f:∀C d c fp,(dS X N' sc C d c fp).Ok->PG (dS X N' sc C d c fp) tg g/\PTs (dS X N' sc C d c fp) ifs tc/\PE (dS X N' sc C d c fp) elt te)
  (u:∀x,jN iter X.env x=pure x:=by intro _;rfl):PE X (.ListComp elt [⟨tg,iter,ifs,0⟩] sc pos) (vn wi g tc te mk):=by
 intro w s y H Q I h;rw[eval_ListComp];refine yw (use:=none) S r p hi f u I h fun l C i s' m j t a z q=>⟨m,t,fun n v=>?_⟩;have k:Inv X w y i {s' with heap:=n,toks:=s'.toks}:=j.turned (fun b o f e=>v.extBut b o f e) a.1 a.2.1 a.2.2.2.1 a.2.2.2.2.1 a.2.2.2.2.2;exact⟨.ref l,i,k,rfl,q⟩
def DN{x:Str}{A:Pos}(S:pA X N' sc)(Q:MkOk X N' sc mk)(P:X.calm=true)(hi:PI X tg iter wi)
  (n:∀C k f fp,(dS X N' sc C k f fp).Ok->PG (dS X N' sc C k f fp) tg g/\PTs (dS X N' sc C k f fp) ifs tc/\PE (dS X N' sc C k f fp) elt te)
  (O:X.N.Nodup)(Y:X.N[i]? =some x)(w:X.env.scope.names.lookup x=some .local)
  (W:qI (.ListComp elt [⟨tg,iter,ifs,0⟩] sc pos) (some (.Name x pos')) A.line X.env=pure true)
  (U:∀x,jN iter X.env x=pure x:=by intro _;rfl):PS X (.Assign [.Name x pos'] (.ListComp elt [⟨tg,iter,ifs,0⟩] sc pos) A) (qm (vn wi g tc te mk) (iV i)):=by
 intro j a1 B a2 D I h;rw[exec_Assign_Name_used _ _ _ _ W];refine aa (gM (aa ?_));show wpAny _ X.A (do let _<-comprehension (.ListComp elt [⟨tg,iter,ifs,0⟩] sc pos) sc X.env (firstIterPos [⟨tg,iter,ifs,0⟩] pos) (newList []) false (eval iter X.env) (some (assign (.Name x pos') X.env))) _ _ a1;refine aa (thn (yw (use:=some (assign (.Name x pos') X.env)) (QQ:=fun _ c=>SP X j D .next c) S Q P hi n U I h fun l C r c m t R a N q=>?_) fun _ c hq=>aj (aj hq));obtain⟨d,v,H⟩:=id N;have F:Inv X (j++[(C,d)]) B r c:=t.zw fun p hp=>(cV.mp hp).elim (fun z=>t.pin p (a9 _ z)) fun z=>by
  have e:p=(C,d):=by simpa using z
  subst e;exact⟨v,a.1,a.2.1,a.2.2.1,H⟩
 show wpAny _ X.A (assign (.Name x pos') X.env (.ref l)) _ _ c;refine thn (zx (i:=i) O Y (.inl w) (.inr w) (j++[(C,d)]) c B r (.ref l) (.ref l) D.nx F rfl q) fun _ s2 ⟨E,s,u,q2⟩=>?_;obtain⟨J,Z,_,_,_⟩:=u.pin (C,d) (a9 _ (a9 _ (by simp)));have T:s2.heap.Ns C m:=by
  obtain⟨o,L,K,y,a0⟩:=R;have :o=d:=by rw[v]at y;exact(bc y).symm
  subst this;exact⟨o,L,K,J,a0⟩
 refine⟨m,T,fun M V=>?_⟩;have G:Inv X j E s {s2 with heap:=M,toks:=s2.toks}:=u.iG.turned (fun b o n e=>V.extBut b o n e) Z a.2.1 a.2.2.2.1 a.2.2.2.2.1 a.2.2.2.2.2;exact⟨E,s,G,q2⟩
end
section
def ue:fC X (.builtin "isinstance") (fun xs H Q=>∃x T t b,xs=[x,.ty T]/\nq X.K H x t/\cE X.K t (.type T)=some b/\Q (.bl b) H):=by intro g s j H xs i Q I f h;obtain⟨x,T,t,b,rfl,ty,e,q⟩:=h;obtain⟨u,c,rfl,d,a⟩:=f.two;cases a;exact yp I d ty e fun tk=>⟨.bl b,H,I.tok tk,rfl,q⟩
def rR:fC X (.builtin "isinstance") (fun xs H Q=>∃x C t b,xs=[x,.ref C]/\nq X.K H x t/\cE X.K t (.ref C)=some b/\Q (.bl b) H):=by intro g s j H xs i Q I f h;obtain⟨x,T,t,b,rfl,ty,e,q⟩:=h;obtain⟨u,c,rfl,d,a⟩:=f.two;cases a;exact yp I d ty e fun tk=>⟨.bl b,H,I.tok tk,rfl,q⟩
def Jn{bs:List Bool}(r:bG (bs.map V.bl) al):TruthOf prog w A (fun i v=>al.toArray[i]? =some v) (fun i=>bs.getD i false):=by
 intro i v s Q E c h;have hi:al[i]? =some v:=by simpa using c
 have e:v=.bool (bs.getD i false):=by
  have d:=r.length;rw[ai]at d;have a:i<bs.length:=by have :=(aH.mp hi).1;lia
  obtain⟨u,b,f⟩:=bG.get (i:=i) (x:=.bl bs[i]) r (by simp[a]);rw[hi]at b;cases b;have g:v=AG bs[i]:=f;rw[g,af,ae a];rfl
 rw[e];exact dk h
def range_all(bs:List Bool):(aE bs.length).all (fun i=>bs.getD i false)=bs.all id:=by
 have :bs=(aE bs.length).map fun i=>bs.getD i false:=by
  apply bR;·simp
  ·intro i a c;simp[a]
 rw[eB];simp only[bg,bp];constructor;·intro h x b;obtain⟨i,hi,rfl⟩:=d5.mp b;have :=h i hi;simpa[hi]using this
 ·intro h i hi;have :=h bs[i] (a6 hi);simpa[hi]using this
def MA(d:X.calm=true):fC X (.builtin "all") (fun xs H Q=>∃(p:Addr)(bs:List Bool),xs=[.ref p]/\SqL X.K H p (bs.map V.bl)/\Q (.bl (bs.all id)) H):=by
 intro w s y H xs x Q I m h;obtain⟨p,bs,rfl,hq,q⟩:=h;obtain⟨u,rfl,l⟩:=m.one;cases l;obtain⟨c,r,a,v⟩:=I.list hq;have f:c.toArray.size=bs.length:=by rw[aw,<-r.length,ai]
 have g:p≠s.heap.objs.size:=by obtain⟨o,n,j,_⟩:=id a;exact aK (ay j)
 refine call_all_walk (pB a.isList ⟨s.heap.objs.size,_,_,_,_,_,fun i=>bs.getD i false,rfl,Walks.list (A:=X.A.in1) (I.ok.hd d) _ p g c.toArray,⟨⟨_,ax _ rfl,rfl,rfl⟩,a.isList.at fun o e=>ag _ e⟩,Jn r,fun t tk k=>?_⟩);rw[f,range_all];exact⟨.bl (bs.all id),H,I.kept (t':=tk) fun b o e=>k b o (by simpa using aK (ay e)) (ag _ e),rfl,q⟩
abbrev pL(x:Str)(lo hi:Option Int):Str:=⟨((x.cps.toList.drop (HT.sIx x.length 0 lo)).take (HT.sIx x.length x.length hi-HT.sIx x.length 0 lo)).toArray⟩
def sIx_eq(n d:Nat)(i:Int):(max 0 (min (if i<0 then i+(n:Int)else i) (n:Int)))=((HT.sIx n d (some i):Nat):Int):=by have :=HT.clip_eq i n d;rw[<-this];split <;>lia
def strIx(lo hi:Option Int)(n:Nat):uC lo hi 1 n=(aE (HT.sIx n n hi-HT.sIx n 0 lo)).map fun k=>HT.sIx n 0 lo+k:=by
 have j:∀a b:Nat,sliceRange (a:Int) (b:Int) 1=(aE (b-a)).map fun k=>a+k:=by
  intro a b;unfold sliceRange;have e:(if(1:Int)>0 then(if(a:Int)<b then((b:Int)-a+1-1)/1 else 0)else(if(a:Int)>b then((a:Int)-b-1-1)/(-1)else 0)).toNat=b-a:=by rw[if_pos (by decide)];split <;>lia
  simp only[e];apply cJ;intro k l;lia
 have f:∀(o:Option Int)(d:Nat),(match o with |none=>(d:Int) |some i=>max 0 (min (if i<0 then i+(n:Int)else i) (n:Int)))=((HT.sIx n d o:Nat):Int):=by
  intro o d;cases o with
  |none=>rfl
  |some i=>exact sIx_eq n d i
 have c:=f lo 0;have g:=f hi n;unfold uC;simp only[show(1:Int)>0 by decide,if_true];have h:((0:Nat):Int)=0:=rfl;rw[h]at c;rw[<-j,<-c,<-g];cases lo<;>cases hi<;>rfl
def pickN(xs:Array Nat)(i:Nat):∀k,((aE k).map fun m=>i+m).filterMap (xs[·]?)=(xs.toList.drop i).take k:=by
 intro k
 induction k with
 |zero=>simp
 |succ k ih=>
  rw[kA,cH,List.filterMap_append,ih];by_cases h:i+k<xs.size;·rw[List.take_succ,iR];simp[h]
  ·rw[List.take_succ,iR];simp[h]
def G7(x:Str)(lo hi:Option Int):Txt.slice x lo hi=pL x lo hi:=by
 have c:HT.sIx x.length 0 lo<=x.length:=HT.vF _ _ (aM _) lo;have d:HT.sIx x.length x.length hi<=x.length:=HT.vF _ _ (av _) hi;unfold Txt.slice pL;rw[strIx];split
 ·rename_i h;rw[az,beq_iff_eq,beq_iff_eq,ai,aY]at h;have a:HT.sIx x.length 0 lo=0:=by lia
  have b:HT.sIx x.length x.length hi=x.length:=by lia
  rw[a,b];have :x.cps.toList.length=x.length:=by simp[uP]
  rw[List.drop_zero,Nat.sub_zero,<-this,fK]
 ·rw[pickN]
def t9{v:Value}{o:Option Int}(p:IsPart v o):∃l:Option (Int×Tok),v=partValue l/\o=l.map (·.1):=by
 cases p with
 |none=>exact⟨none,rfl,rfl⟩
 |int i t=>exact⟨some (i,t),rfl,rfl⟩
def rSlS:V->Option Int->Option Int->Hp->VK->Prop:=fun x lo hi H Q=>∃z,x=.str z/\z.length<=sizeLine/\Q (.str (pL z lo hi)) H
def sl_str:SlR X rSlS:=by intro i s o H x v m n lo hi j Q I f a c d h;obtain⟨z,rfl,b,q⟩:=h;obtain⟨t,rfl⟩:=f;obtain⟨l,rfl,rfl⟩:=t9 c;obtain⟨u,rfl,rfl⟩:=t9 d;refine⟨"str",_,F.slot_str_getitem.lookup,typeIs_str _ _ _,?_⟩;refine wpAny_getItem_str_slice (l:=l) (u:=u) (st:=none) a rfl (post_val_or_str ⟨aF (Txt.slice_le z _ _) b,fun g k=>?_⟩);have e:=G7 z (l.map (·.1)) (u.map (·.1));unfold Txt.slice at e;refine⟨.str (pL z (l.map (·.1)) (u.map (·.1))),H,I.tok k,⟨g,?_⟩,q⟩;rw[<-e];rfl
abbrev Its(x:Str):It:=⟨fun i _=>i<x.length,fun i H v H'=>H'=H/\∃c,x.cps[i]? =some c/\v=.str ⟨#[c]⟩,fun i _=>x.length<=i⟩
end
def xW(a:Addr)(x:Str)(t:Tok)(A:Around)(b:A.handled=none):
  Walks prog w A a [a] [a] x.cps.size (SignAt x) (fun i h=>h.IsStrIter a (iB x) x t i):=by
 unfold iB;cases ha:x.cps.all (·<128);·simp only[aX,if_false];exact Walks.strWide b a x t
 ·simp only[if_true];exact Walks.strAscii b a x t
def Jk(x:Str)(f:Addr)(t:Tok):Turn P w K tg (Its x) [f] f (fun i h=>h.IsStrIter f (iB x) x t i) where
 mem:=by simp
 obj:=fun i h j b a=>by
  have e:b=f:=by simpa using a
  subst e;obtain⟨o,e,c,d⟩:=j;exact⟨o,e,fun v z=>by rw[d]at z;cases z⟩
 keep:=fun i h l j k=>let⟨o,ho,r⟩:=j;⟨o,k f (by simp) o ho,r⟩
 item:=by intro X G L F C i O s R H E I hf j J;subst G L F;obtain⟨m,p,U,q,y,B⟩:=hf f (by simp);have W:=xW (prog:=X.prog) (w:=X.w) f x t X.A (I.ok.hd C);refine W.item i s _ _ J j fun v l tk Z Q M=>?_;obtain⟨c,u,V,rfl⟩:=Z;have S:Inv X O R H {s with heap:=l,toks:=tk}:=I.turned (fun b o a e=>M b o (by simpa using a) e) m p q y B;obtain⟨o,e,T,d⟩:=id Q;refine⟨_,rfl,Ga (s:={s with heap:=l,toks:=tk}) (n:=iB x) e T d ?_ ⟨.str ⟨#[c]⟩,H,S,⟨u,rfl⟩,⟨rfl,c,V,rfl⟩,Q,fun b a=>(hf b a).1⟩⟩;unfold iB;split <;>decide
 done:=by
  intro X G L F C i O s R H E I hf j J;subst G L F;obtain⟨m,p,U,q,y,B⟩:=hf f (by simp);have Y:x.length<=i:=J;by_cases hi:i=x.cps.size;·subst hi;have W:=xW (prog:=X.prog) (w:=X.w) f x t X.A (I.ok.hd C);exact W.done s _ _ j fun l tk M=>⟨rfl,I.turned (fun b o a e=>M b o (by simpa using a) e) m p q y B⟩
  ·have N:x.cps[i]? =none:=by rw[Array.getElem?_eq_none_iff];exact Y
   have g:s.heap.IsStrIter f (iB x) x t i:=j;unfold iB at g;cases ha:x.cps.all (·<128);·rw[ha]at g;exact wpAny_pyNext_wide_end (I.ok.hd C) g N fun l D=>⟨rfl,I.turned (t':=s.toks) (fun b o a e=>D b o a e) m p q y B⟩
   ·rw[ha]at g;exact wpAny_pyNext_ascii_end (I.ok.hd C) g N fun l D=>⟨rfl,I.turned (t':=s.toks) (fun b o a e=>D b o a e) m p q y B⟩
 self:=fun A i s a0 E j h=>by
  have g:s.heap.IsStrIter f (iB x) x t i:=j;unfold iB at g;cases ha:x.cps.all (·<128);·rw[ha]at g;exact wpAny_pyIter_striter_wide g h
  ·rw[ha]at g;exact wpAny_pyIter_striter_ascii g h
def Inv.turnedL(I:Inv X pins σ H s)(k:∀b o,b∉ch->s.heap.get? b=some o->h'.get? b=some o)(hf:∀b∈ch,oY X pins H b):Inv X pins σ H {s with heap:=h'}:=by
 have g:∀b u,H b=some u->b∉ch:=fun b u e z=>by rw[(hf b z).1]at e;cases e
 refine I.step (g':=s.gens) (d':=s.drawn) (ch:=ch) (fun b v=>?_) (fun b o _ _ a e _=>k b o a e) (fun b o _ _ a e _=>⟨o.slots,k b o a e⟩) (fun _ _ _ _ n=>n)
  (fun b o a e=>⟨o,k b o a e⟩) (fun _ _ e=>e) (fun _ _ _ e=>e) (fun b B e=>⟨#[],by rw[e];simp⟩) (fun m x=>?_) (fun b u e=>?_) I.bare
 ·obtain⟨y,j,A,l,p,t⟩:=hf b v;exact⟨l,j,p,t⟩
 ·obtain⟨o,i,h,q,r⟩:=x;exact⟨o,i,h,k _ o (fun a=>(hf _ a).2.1 rfl) q,r⟩
 ·refine(I.hok b u e).sR (fun d o w c=>k d o (fun f=>?_) c) (fun d c=>c) fun d C c=>c;rcases w with zz|zz;·rw[zz]at f;exact g b u e f
  ·exact g d _ zz f
def Inv.newL{o:HO}(I:Inv X pins σ H s)(k:∀b o,b∉ch->s.heap.get? b=some o->h'.get? b=some o)(hf:∀b∈ch,oY X pins H b)
  (a:dz X.prog X.w (upd H s.heap.objs.size o) h' s.heap.objs.size o):Inv X pins σ (upd H s.heap.objs.size o) {s with heap:=h',toks:=t'}:=
 ((I.turnedL k hf).tok t').track (I.z9 (av _) (I.hok.fresh (av _))) a
abbrev IteG(a:Hp->List V->Prop):It:=
 ⟨fun i H=>∃xs x,a H xs/\xs[i]? =some x,fun i H v H'=>∃p x,H p=none/\H'=upd H p (.tup [.int i,x])/\v=.ref p/\∀xs,a H xs->xs[i]? =some x,fun i H=>∃xs,a H xs/\xs.length<=i⟩
structure En(a it:Addr)(Sq:ah->Hp->List V->Prop)(S:Nat->Heap->Prop):Prop where
 obj:∀i h,S i h->∃o,h.get? it=some o/\∀v,o.data≠.cell v
 kp:∀i h h',S i h->(∀o,h.get? it=some o->h'.get? it=some o)->S i h'
 one:∀{X:Cx}{pins:List (Addr×Obj)}{σ:St}{H:Hp}{s:Shared}{xs ys:List V},Inv X pins σ H s->Sq X.K H xs->Sq X.K H ys->xs=ys
 src:∀{X:Cx}{pins:List (Addr×Obj)}{σ:St}{H:Hp}{s:Shared}{xs:List V}{i:Nat},Inv X pins σ H s->X.A.in1.handled=none->Sq X.K H xs->S i s.heap->∃(us:List Value)(R:Heap->Prop),bG xs us/\R s.heap/\
  (∀e o,s.heap.get? e=some o->o.cls=.type "enumerate"->e≠a)/\Draws X.prog X.w X.A.in1 it [it,a] us.toArray.size (fun i v=>us.toArray[i]? =some v) (fun i h=>S i h/\R h)/\
  (us.toArray.size<=i->∀(Q:Value->Shared->Prop)(E:Value->Shared->Prop),(∀h' z,Heap.ExtBut it s.heap h'->(∃o,h'.get? z=some o/\o.cls=.type "StopIteration")->E (.ref z) {s with heap:=h'})->wpAny (model X.prog X.w) X.A.in1 (eA (.ref it)) Q E s)
def Dx{es:List Expr}{kk:Nat}{L:ah->Hp->List V->Prop}{S:Nat->Heap->Prop}{e:Addr}(N:En a it L S)(t:e≠it):Turn P w K (.Tuple es kk pp) (IteG (L K)) [e,it] e (fun i h=>(∃old,IsEnum h e it i old)/\S i h) where
 mem:=by simp
 obj:=fun i h d b f=>by
  obtain⟨⟨old,c⟩,hs⟩:=d;have p:b=e\/b=it:=by simpa using f
  rcases p with rfl|rfl;·exact⟨_,c,fun b6 z=>by cases z⟩
  ·exact N.obj i h hs
 keep:=fun i h l d k=>by obtain⟨⟨old,c⟩,g⟩:=d;exact⟨⟨old,k e (by simp) _ c⟩,N.kp i h l g fun o q=>k it (by simp) o q⟩
 item:=by
  intro X n v m j i C s J H E I hf d r;subst n v m;obtain⟨xs,x,hq,A⟩:=r;obtain⟨⟨old,c⟩,g⟩:=d;obtain⟨B,a0,G,O,W,D,_⟩:=N.src I (I.ok.hd j) hq g;obtain⟨b3,U,ru⟩:=G.get A;obtain⟨f0,f1,f2,f3,f4,f5⟩:=hf e (by simp);have a8:i<B.toArray.size:=by simpa using(aH.mp U).1
  have a9:it<s.heap.objs.size:=by obtain⟨o,q,_⟩:=N.obj i _ g;exact ay q
  refine wpAny_pyNext_enum_itemD D c ⟨g,O⟩ a8 t (by simp[t,W e _ c rfl]) fun y l tk hy u b0 ht b5 kp=>?_;have a2:y=b3:=by
   have :B[i]? =some y:=by simpa using hy
   rw[U]at this;exact(bc this).symm
  subst a2;have hp:H s.heap.objs.size=none:=I.hok.fresh (av _);have Y:Inv X C J (upd H s.heap.objs.size (.tup [.int i,x])) {s with heap:=l,toks:=tk+1}:=
   I.newL (ch:=[e,it]) (fun a1 o j q=>kp a1 o (fun z=>j (by simp[z])) (fun z=>j (by simp[z])) q) hf ⟨by show 2<=sizeLine;decide,[.int i tk,y],.cons ⟨tk,rfl⟩ (.cons ru .nil),⟨_,ht,rfl,_,rfl⟩⟩
  have M:(upd H s.heap.objs.size (.tup [.int i,x])) e=none:=by rw[aW (aK (ay c))];exact f0
  refine⟨_,rfl,wpAny_letOwnedTupleGo_enum (s:={s with heap:=l,toks:=tk+1}) u fun a4 a7 R=>?_⟩;have Z:Inv X C J (upd H s.heap.objs.size (.tup [.int i,x])) {s with heap:=a4,toks:=tk+1}:=Y.turned (t':=tk+1) (fun b o f q=>R.extBut b o f q) M f1 f3 f4 f5;refine⟨.ref s.heap.objs.size,_,Z,rfl,⟨_,x,hp,rfl,rfl,fun ys b2=>by rw[N.one I b2 hq];exact A⟩,⟨⟨y,?_⟩,N.kp _ _ _ b0.1 fun o q=>R.extBut it o (bE t) q⟩,fun b f=>?_⟩
  ·have :((i:Int)+1)=((i+1:Nat):Int):=by push_cast;rfl
   rw[<-this];exact a7
  ·have p:b=e\/b=it:=by simpa using f
   rcases p with rfl|rfl;·exact M
   ·rw[aW (aK a9)];exact(hf _ (by simp)).1
 done:=by
  intro X n v m j i C s J H E I hf d r;subst n v m;obtain⟨xs,hq,A⟩:=r;obtain⟨⟨old,c⟩,g⟩:=d;obtain⟨B,a0,G,O,W,D,a3⟩:=N.src I (I.ok.hd j) hq g;obtain⟨g0,g1,g2,g3,g4,g5⟩:=hf it (by simp);have Q:s.TypeIs (.ref e) "enumerate":=⟨_,c,rfl⟩;have b4:=G.length;unfold pyNext;refine aa (i6 (eG (name:=aP "__next__") Q F.slot_enumerate_next
   (cK F.slot_enumerate_next Q F.entry_enumerate_next ?_ (F.args_enumerate_next_1 _))))
  show wpAny _ _ (field (.ref e) 2>>=_) _ _ _;refine aa (iz c rfl (x:=.ref it) rfl ?_);refine aa (a3 (by simp;lia) _ _ fun l z a6 b1=>?_);obtain⟨o,u,a5⟩:=b1;refine aa (qF (T:="StopIteration") (b:=true) ⟨o,u,a5⟩ isSubtype_stop ?_);exact aj ⟨rfl,I.turned (t':=s.toks) (fun b o f q=>a6 b o f q) g0 g1 g3 g4 g5⟩
 self:=fun _ _ _ _ _ d h=>by obtain⟨⟨old,c⟩,_⟩:=d;exact wpAny_pyIter_enum c h
def Inv.enum{f:List Expr}{j:Nat}{c:ah->Hp->List V->Prop}{S:Nat->Heap->Prop}{R:It->Hp->Prop}{Q:Value->Shared->Prop}(I:Inv X pins σ H s)(N:En a s.heap.objs.size c S)
  (e:IsEnum h' (s.heap.objs.size+1) s.heap.objs.size 0 .none)(i:S 0 h')(l:∀b o,s.heap.get? b=some o->h'.get? b=some o)(q:R (IteG (c X.K)) H)
  (k:∀(it:Addr)(fp:List Addr)(tn:Nat->Heap->Prop)(J:It),Inv X pins σ H {s with heap:=h'}->Turn X.prog X.w X.K (.Tuple f j pp) J fp it tn->tn 0 h'->(∀b∈fp,oY X pins H b)->R J H->Q (.ref it) {s with heap:=h'}):
  wpAny (model X.prog X.w) X.A (pyIter (.ref (s.heap.objs.size+1))) Q E {s with heap:=h'}:=by
 refine wpAny_pyIter_enum (s:={s with heap:=h'}) e ?_;refine k _ [s.heap.objs.size+1,s.heap.objs.size] _ _ (I.kept (t':=s.toks) l) (Dx N (Nat.succ_ne_self _)) ⟨⟨_,e⟩,i⟩ (fun b g=>?_) q;have h:b=s.heap.objs.size+1\/b=s.heap.objs.size:=by simpa using g
 have d:s.heap.objs.size<=b:=by
  rcases h with z|z;·rw[z];exact dP _
  ·rw[z];exact av _
 exact I.z9 d (I.hok.fresh d)
inductive D where
 |non|bl (b:Bool) |int (i:Int) |str (x:Str) |tup (ds:List D) |lst (ds:List D)
 deriving Inhabited
mutual
noncomputable def Rep(K:ah)(H:Hp):D->V->Prop
 |.non,v=>v=.non
 |.bl b,v=>v=.bl b
 |.int i,v=>v=.int i
 |.str x,v=>v=.str x
 |.tup ds,v=>∃a xs,v=.ref a/\SqT K H a xs/\d8 K H ds xs
 |.lst ds,v=>∃a xs,v=.ref a/\SqL K H a xs/\d8 K H ds xs
noncomputable def d8(K:ah)(H:Hp):List D->List V->Prop
 | [],xs=>xs=[]
 |d::ds,xs=>∃x r,xs=x::r/\Rep K H d x/\d8 K H ds r
end
def aA.tup{K:ah}{H H':Hp}{a:Addr}{xs:List V}(e:aA H H')(h:SqT K H a xs):SqT K H' a xs:=by
 rcases h with(h|⟨o,h⟩) |h;·exact .inl (.inl (e _ _ h))
 ·exact .inl (.inr ⟨o,e _ _ h⟩)
 ·exact .inr h
mutual
theorem Rep.same(e:aA H H'):∀{d:D}{v:V},Rep K H d v->Rep K H' d v
 |.non,_,h=>h
 |.bl _,_,h=>h
 |.int _,_,h=>h
 |.str _,_,h=>h
 |.tup ds,_,h=>by obtain⟨a,g,b,c,f⟩:=h;exact⟨a,g,b,e.tup c,d8.same e f⟩
 |.lst ds,_,h=>by obtain⟨a,g,b,c,f⟩:=h;exact⟨a,g,b,e.seq c,d8.same e f⟩
theorem d8.same(e:aA H H'):∀{ds:List D}{xs:List V},d8 K H ds xs->d8 K H' ds xs
 | [],_,h=>h
 |d::ds,_,h=>by obtain⟨x,r,a,b,c⟩:=h;exact⟨x,r,a,Rep.same e b,d8.same e c⟩
end
theorem d8.length:∀{ds:List D}{xs:List V},d8 K H ds xs->xs.length=ds.length
 | [],_,h=>by rw[show _=[]from h];rfl
 |d::ds,_,h=>by obtain⟨x,r,rfl,_,a⟩:=h;rw[ba,ba,d8.length a]
theorem d8.at:∀{ds:List D}{xs:List V}{i:Nat}{d:D},d8 K H ds xs->ds[i]? =some d->∃x,xs[i]? =some x/\Rep K H d x
 | [],_,i,d,h,e=>by simp at e
 |d::ds,_,0,d',h,e=>by obtain⟨y,r,rfl,a,b⟩:=h;simp at e;subst e;exact⟨y,rfl,a⟩
 |d::ds,_,i+1,d',h,e=>by obtain⟨y,r,rfl,a,b⟩:=h;obtain⟨x,c,f⟩:=d8.at (i:=i) b (by simpa using e);exact⟨x,by simpa using c,f⟩
theorem d8.ints:∀(ns:List Int),d8 K H (ns.map D.int) (ns.map V.int)
 | []=>rfl
 |n::ns=>⟨_,_,rfl,rfl,d8.ints ns⟩
mutual
noncomputable def eqD:D->D->Bool
 |.non,.non=>true
 |.bl a,.bl b=>a==b
 |.bl a,.int b=>(if a then 1 else 0)==b
 |.int a,.bl b=>a==(if b then 1 else 0)
 |.int a,.int b=>a==b
 |.str a,.str b=>a==b
 |.tup a,.tup b=>n9 a b
 |.lst a,.lst b=>n9 a b
 |_,_=>false
noncomputable def n9:List D->List D->Bool
 | [],[]=>true
 |a::as,b::bs=>eqD a b&&n9 as bs
 |_,_=>false
end
mutual
noncomputable def hgt:D->Nat
 |.tup ds=>gh ds+1
 |.lst ds=>gh ds+1
 |_=>0
noncomputable def gh:List D->Nat
 | []=>0
 |d::ds=>max (hgt d) (gh ds)
end
theorem tD:∀{ds:List D}{i:Nat}{d:D},ds[i]? =some d->hgt d<=gh ds
 | [],i,d,e=>by simp at e
 |d::ds,0,d',e=>by simp at e;subst e;simp only[gh];lia
 |d::ds,i+1,d',e=>by have :=tD (i:=i) (ds:=ds) (d:=d') (by simpa using e);simp only[gh];lia
theorem Cf:∀(c bs:List D)(e:Nat->Bool),c.length=bs.length->(∀(i:Nat) a b,c[i]? =some a->bs[i]? =some b->e i=eqD a b)->(aE c.length).all e=n9 c bs
 | [],[],e,_,_=>rfl
 |a::c,b::bs,e,hl,h=>by rw[ba,GJ,Dl,GO];have d:=h 0 a b rfl rfl;have j:=Cf c bs (fun i=>e (i+1)) (by simpa using hl) fun i x y f g=>h (i+1) x y (by simpa using f) (by simpa using g);rw[d];show(eqD a b&&(aE c.length).all (fun i=>e (i+1)))=_;rw[j];rfl
 | [],b::bs,e,hl,_=>by simp at hl
 |a::c,[],e,hl,_=>by simp at hl
theorem rN:∀(c bs:List D),c.length≠bs.length->n9 c bs=false
 | [],[],h=>absurd rfl h
 |a::c,b::bs,h=>by show(eqD a b&&n9 c bs)=false;rw[rN c bs (by simpa using h),dh]
 | [],b::bs,_=>rfl
 |a::c,[],_=>rfl
mutual
theorem wG:∀d:D,eqD d d=true
 |.non=>rfl
 |.bl b=>beq_self_eq_true b
 |.int i=>beq_self_eq_true i
 |.str x=>beq_self_eq_true x
 |.tup ds=>tH ds
 |.lst ds=>tH ds
theorem tH:∀ds:List D,n9 ds ds=true
 | []=>rfl
 |d::ds=>fh.mpr ⟨wG d,tH ds⟩
end
section
variable {pins:List (Addr×Obj)}{s:Shared}
mutual
theorem Inv.uU(I:Inv X pins σ H s):∀{d c:D}{v:V},Rep X.K H d v->Rep X.K H c v->d=c
 |.non,c,v,h,h'=>by cases(show v=V.non from h);cases c<;>first | (obtain⟨_,_,z,_⟩:=h';cases z;done) |rfl| (cases h';done)
 |.bl b,c,v,h,h'=>by cases(show v=V.bl b from h);cases c<;>first | (obtain⟨_,_,z,_⟩:=h';cases z;done) | (cases h';rfl) | (cases h';done)
 |.int b,c,v,h,h'=>by cases(show v=V.int b from h);cases c<;>first | (obtain⟨_,_,z,_⟩:=h';cases z;done) | (cases h';rfl) | (cases h';done)
 |.str b,c,v,h,h'=>by cases(show v=V.str b from h);cases c<;>first | (obtain⟨_,_,z,_⟩:=h';cases z;done) | (cases h';rfl) | (cases h';done)
 |.tup ds,c,v,h,h'=>by
  obtain⟨a,w,rfl,j,p⟩:=h;cases c with
  |tup ds'=>obtain⟨b,q,e,f,k⟩:=h';cases e;have :=I.sP j f;subst this;rw[Inv.vG I p k]
  |lst ds'=>obtain⟨b,q,e,f,k⟩:=h';cases e;obtain⟨r,_,⟨o,m,l,_⟩,_⟩:=I.tuple j;obtain⟨t,_,⟨u,n,i,g,_⟩,_⟩:=I.list f;rw[m]at i;cases i;rw[l]at g;exact absurd g (by decide+kernel)
  |_=>cases h'
 |.lst ds,c,v,h,h'=>by
  obtain⟨a,w,rfl,j,p⟩:=h;cases c with
  |lst ds'=>obtain⟨b,q,e,f,k⟩:=h';cases e;have :=I.BV j f;subst this;rw[Inv.vG I p k]
  |tup ds'=>obtain⟨b,q,e,f,k⟩:=h';cases e;obtain⟨r,_,⟨o,n,m,l,_⟩,_⟩:=I.list j;obtain⟨t,_,⟨u,i,g,_⟩,_⟩:=I.tuple f;rw[m]at i;cases i;rw[l]at g;exact absurd g (by decide+kernel)
  |_=>cases h'
theorem Inv.vG(I:Inv X pins σ H s):∀{ds a:List D}{xs:List V},d8 X.K H ds xs->d8 X.K H a xs->ds=a
 | [],[],_,_,_=>rfl
 | [],d::ds,xs,h,h'=>by obtain⟨x,r,e,_⟩:=h';rw[show xs=[]from h]at e;cases e
 |d::ds,[],xs,h,h'=>by obtain⟨x,r,e,_⟩:=h;rw[show xs=[]from h']at e;cases e
 |d::ds,d'::a,xs,h,h'=>by obtain⟨x,r,rfl,b,f⟩:=h;obtain⟨y,i,e,c,g⟩:=h';cases e;rw[Inv.uU I b c,Inv.vG I f g]
end
open PySem.SeqAt
abbrev eqJ(ds a:List D)(j:Nat):Bool:=match ds[j]?,a[j]? with |some d,some d'=>eqD d d'|_,_=>false
def Ae{ds a:List D}(b:ds.length=a.length):(aE ds.length).all (eqJ ds a)=n9 ds a:=Cf ds a _ b fun i x y c d=>by simp only[eqJ,c,d]
def Gi{ds a:List D}:((aE (min ds.length a.length)).all (eqJ ds a)&&ds.length==a.length)=n9 ds a:=by
 by_cases hl:ds.length=a.length;·rw[<-hl,Nat.min_self,beq_self_eq_true,Bool.and_true,Ae hl]
 ·rw[rN ds a hl,beq_eq_false_iff_ne.mpr hl,dh]
def Ad{ds a:List D}(t:∀(i:Nat)(d b:D)(x y:V)(u f:Value),ds[i]? =some d->a[i]? =some b->Rep X.K H d x->Rep X.K H b y->RelV x u->RelV y f->EqAt A.in1 s u f (eqD d b))(k:d8 X.K H ds xs)(l:d8 X.K H a ys)(r:bG xs al)(o:bG ys its'):al.toArray.size=ds.length/\its'.toArray.size=a.length/\∀j (g:j<al.toArray.size)(h:j<its'.toArray.size),EqAt A.in1 s al.toArray[j] its'.toArray[j] (eqJ ds a j):=by
 have l1:=k.length;have l2:=l.length;have F:=r.length;have G:=o.length;refine⟨by simp;lia,by simp;lia,fun j g h=>?_⟩;have p:j<al.length:=by simpa using g
 have q:j<its'.length:=by simpa using h
 have c:ds[j]? =some ds[j]:=ae (by lia);have e:a[j]? =some a[j]:=ae (by lia);unfold eqJ;rw[c,e];obtain⟨x,v,C⟩:=k.at c;obtain⟨y,w,E⟩:=l.at e;obtain⟨u,m,z⟩:=r.get v;obtain⟨f,n,B⟩:=o.get w;rw[ae p]at m;rw[ae q]at n;cases m;cases n;exact t j _ _ x y _ _ c e C E z B
def Inv.rcTup(I:Inv X pins σ H s)(A:Around){ds g:List D}(o:∀(i:Nat)(d c:D)(x y:V)(u h:Value),ds[i]? =some d->g[i]? =some c->Rep X.K H d x->Rep X.K H c y->RelV x u->RelV y h->EqAt A.in1 s u h (eqD d c))(k:SqT X.K H a xs)(m:d8 X.K H ds xs)(l:SqT X.K H b ys)(n:d8 X.K H g ys)(q:A.units<cLine):RcAt A s (.ref a) (.ref b) (n9 ds g):=by
 obtain⟨z,r,p,_⟩:=I.tuple k;obtain⟨B,w,v,_⟩:=I.tuple l;obtain⟨e,j,f⟩:=Ad o m n r w;have t:=RcAt.tuples p v (A:=A) q f
 rwa [e,j,Gi]at t
def Inv.rcLst(I:Inv X pins σ H s)(A:Around){ds c:List D}(v:∀(i:Nat)(d g:D)(x y:V)(u m:Value),ds[i]? =some d->c[i]? =some g->Rep X.K H d x->Rep X.K H g y->RelV x u->RelV y m->EqAt A.in1 s u m (eqD d g))(n:SqL X.K H a xs)(q:d8 X.K H ds xs)(o:SqL X.K H b ys)(t:d8 X.K H c ys)(j:A.units<cLine):RcAt A s (.ref a) (.ref b) (n9 ds c):=by
 obtain⟨z,r,p,_⟩:=I.list n;obtain⟨B,w,l,_⟩:=I.list o;obtain⟨e,h,f⟩:=Ad v q t r w;by_cases hl:ds.length=c.length
 ·have k:=RcAt.lists p.isList l.isList (A:=A) (by rw[e,h,hl]) j f
  rwa [e,Ae hl]at k
 ·have k:=RcAt.lists_lengths p.isList l.isList (A:=A) (by rw[e,h];exact bne_iff_ne.mpr hl) j
  rwa [rN ds c hl]
def Inv.shp(I:Inv X pins σ H s){d:D}(h:Rep X.K H d v)(r:RelV v u):(d=.non/\v=.non/\u=.none)\/(∃x,d=.bl x/\v=.bl x/\u=.bool x)\/(∃x t,d=.int x/\v=.int x/\u=.int x t)\/(∃x t,d=.str x/\v=.str x/\u=.str x t)\/(∃ds a xs al,d=.tup ds/\v=.ref a/\u=.ref a/\SqT X.K H a xs/\d8 X.K H ds xs/\IsTup s.heap a al)\/∃ds a xs al,d=.lst ds/\v=.ref a/\u=.ref a/\SqL X.K H a xs/\d8 X.K H ds xs/\s.heap.IsList a al:=by
 cases d with
 |non=>cases(show v=_ from h);cases r;exact .inl ⟨rfl,rfl,rfl⟩
 |bl x=>cases(show v=_ from h);cases r;exact .inr (.inl ⟨x,rfl,rfl,rfl⟩)
 |int x=>cases(show v=_ from h);obtain⟨t,rfl⟩:=r;exact .inr (.inr (.inl ⟨x,t,rfl,rfl,rfl⟩))
 |str x=>cases(show v=_ from h);obtain⟨t,rfl⟩:=r;exact .inr (.inr (.inr (.inl ⟨x,t,rfl,rfl,rfl⟩)))
 |tup ds=>obtain⟨a,xs,rfl,b,c⟩:=id h;cases r;obtain⟨al,_,p,_⟩:=I.tuple b;exact .inr (.inr (.inr (.inr (.inl ⟨ds,a,xs,_,rfl,rfl,rfl,b,c,p⟩))))
 |lst ds=>obtain⟨a,xs,rfl,b,c⟩:=id h;cases r;obtain⟨al,_,p,_⟩:=I.list b;exact .inr (.inr (.inr (.inr (.inr ⟨ds,a,xs,_,rfl,rfl,rfl,b,c,p.isList⟩))))
def Inv.eqAt1(I:Inv X pins σ H s)(A:Around)(O:∀(m:Nat)(ds k:List D)(i:Nat)(d f:D)(x y:V)(u j:Value),n=m+1->gh ds<=m->ds[i]? =some d->k[i]? =some f->Rep X.K H d x->Rep X.K H f y->RelV x u->RelV y j->EqAt A.in1 s u j (eqD d f)):
  ∀(d f:D)(v N:V)(u j:Value),Rep X.K H d v->Rep X.K H f N->RelV v u->RelV N j->hgt d<=n->A.units+n+1<cLine->EqAt A s u j (eqD d f):=by
 intro d f v N u j h B r c o T;obtain⟨rfl,rfl,rfl⟩ |⟨_,rfl,rfl,rfl⟩ |⟨_,t,rfl,rfl,rfl⟩ |⟨_,t,rfl,rfl,rfl⟩ |⟨ds,a,R,P,rfl,rfl,rfl,C,F,p⟩ |⟨ds,a,R,P,rfl,rfl,rfl,C,F,p⟩:=I.shp h r<;>obtain⟨rfl,rfl,rfl⟩ |⟨_,rfl,rfl,rfl⟩ |⟨_,l,rfl,rfl,rfl⟩ |⟨_,l,rfl,rfl,rfl⟩ |⟨k,b,S,Q,rfl,rfl,rfl,E,G,g⟩ |⟨k,b,S,Q,rfl,rfl,rfl,E,G,g⟩:=I.shp B c
 ·exact gu r c rfl rfl
 ·exact gu r c rfl rfl
 ·exact gu r c rfl rfl
 ·exact gu r c rfl rfl
 ·exact EqAt.none_tuple g (by lia)
 ·exact EqAt.none_list g (by lia)
 ·exact gu r c rfl rfl
 ·exact gu r c rfl rfl
 ·exact gu r c rfl rfl
 ·exact gu r c rfl rfl
 ·exact EqAt.bool_tuple _ g (by lia)
 ·exact EqAt.bool_list _ g (by lia)
 ·exact gu r c rfl rfl
 ·exact gu r c rfl rfl
 ·exact gu r c rfl rfl
 ·exact gu r c rfl rfl
 ·exact EqAt.int_tuple _ t g (by lia)
 ·exact EqAt.int_list _ t g (by lia)
 ·exact gu r c rfl rfl
 ·exact gu r c rfl rfl
 ·exact gu r c rfl rfl
 ·exact gu r c rfl rfl
 ·exact EqAt.str_tuple _ t g (by lia)
 ·exact EqAt.str_list _ t g (by lia)
 ·exact EqAt.tuple_none p (by lia)
 ·exact EqAt.tuple_bool _ p (by lia)
 ·exact EqAt.tuple_int _ l p (by lia)
 ·exact EqAt.tuple_str _ l p (by lia)
 ·have o:gh ds+1<=_:=o;by_cases z:a=b;·subst z;have e:=I.uU h B;rw[<-e,wG];exact EqAt.same _
  ·exact EqAt.of_refs z (Inv.rcTup I A (fun i d f x y u j q w L M J K=>O (n-1) ds k i d f x y u j (by lia) (by lia) q w L M J K) C F E G (by lia))
 ·exact EqAt.tuple_list p g (by lia)
 ·exact EqAt.list_none p (by lia)
 ·exact EqAt.list_bool _ p (by lia)
 ·exact EqAt.list_int _ l p (by lia)
 ·exact EqAt.list_str _ l p (by lia)
 ·exact EqAt.list_tuple p g (by lia)
 ·have o:gh ds+1<=_:=o;by_cases z:a=b;·subst z;have e:=I.uU h B;rw[<-e,wG];exact EqAt.same _
  ·exact EqAt.of_refs z (Inv.rcLst I A (fun i d f x y u j q w L M J K=>O (n-1) ds k i d f x y u j (by lia) (by lia) q w L M J K) C F E G (by lia))
def Inv.Cg(I:Inv X pins σ H s):∀(n:Nat)(A:Around)(d a:D)(v c:V)(u b:Value),Rep X.K H d v->Rep X.K H a c->RelV v u->RelV c b->hgt d<=n->A.units+n+1<cLine->EqAt A s u b (eqD d a):=by
 intro n
 induction n with
 |zero=>exact fun A d a v c u b h e r j f g=>Inv.eqAt1 I A (fun m l o i d a x y u b k _ _ _ _ _ _ _=>absurd k (by lia)) d a v c u b h e r j f g
 |succ n ih=>exact fun A d a v c u b h e r j f g=>Inv.eqAt1 I A (fun m l o i d a x y u b k C p B w z q t=>ih A.in1 d a x y u b w z q t (by have :=tD p;lia) (by show A.units+1+n+1<cLine;lia)) d a v c u b h e r j f g
end
end L2
namespace L2
open PySem PySem.Spec PyProof.Rows PySem.SeqAt
section
variable {pins:List (Addr×Obj)}{s:Shared}
def Inv.neTup(I:Inv X pins σ H s)(A:Around){ds g:List D}(o:∀(i:Nat)(d c:D)(x y:V)(u h:Value),ds[i]? =some d->g[i]? =some c->Rep X.K H d x->Rep X.K H c y->RelV x u->RelV y h->EqAt A.in1 s u h (eqD d c))(k:SqT X.K H a xs)(m:d8 X.K H ds xs)(l:SqT X.K H b ys)(n:d8 X.K H g ys)(q:A.units<cLine):RcNeAt A s (.ref a) (.ref b) (!n9 ds g):=by
 obtain⟨z,r,p,_⟩:=I.tuple k;obtain⟨B,w,v,_⟩:=I.tuple l;obtain⟨e,j,f⟩:=Ad o m n r w;have t:=RcNeAt.tuples p v (A:=A) q f
 rwa [e,j,Gi]at t
def Inv.neLst(I:Inv X pins σ H s)(A:Around){ds c:List D}(v:∀(i:Nat)(d g:D)(x y:V)(u m:Value),ds[i]? =some d->c[i]? =some g->Rep X.K H d x->Rep X.K H g y->RelV x u->RelV y m->EqAt A.in1 s u m (eqD d g))(n:SqL X.K H a xs)(q:d8 X.K H ds xs)(o:SqL X.K H b ys)(t:d8 X.K H c ys)(j:A.units<cLine):RcNeAt A s (.ref a) (.ref b) (!n9 ds c):=by
 obtain⟨z,r,p,_⟩:=I.list n;obtain⟨B,w,l,_⟩:=I.list o;obtain⟨e,h,f⟩:=Ad v q t r w;by_cases hl:ds.length=c.length
 ·have k:=RcNeAt.lists p.isList l.isList (A:=A) (by rw[e,h,hl]) j f
  rwa [e,Ae hl]at k
 ·have k:=RcNeAt.lists_lengths p.isList l.isList (A:=A) (by rw[e,h];exact bne_iff_ne.mpr hl) j
  rwa [rN ds c hl]
def Inv.rcD(I:Inv X pins σ H s)(A:Around)(d d':D)(v C:V)(u f:Value)(h:Rep X.K H d v)(h':Rep X.K H d' C)(r:RelV v u)(K:RelV C f)(B:A.units+hgt d+1<cLine):RcAt A s u f (eqD d d'):=by
 obtain⟨rfl,rfl,rfl⟩ |⟨_,rfl,rfl,rfl⟩ |⟨_,t,rfl,rfl,rfl⟩ |⟨_,t,rfl,rfl,rfl⟩ |⟨g,a,L,G,rfl,rfl,rfl,k,m,p⟩ |⟨g,a,L,G,rfl,rfl,rfl,k,m,p⟩:=I.shp h r<;>obtain⟨rfl,rfl,rfl⟩ |⟨_,rfl,rfl,rfl⟩ |⟨_,c,rfl,rfl,rfl⟩ |⟨_,c,rfl,rfl,rfl⟩ |⟨E,b,M,J,rfl,rfl,rfl,l,n,e⟩ |⟨E,b,M,J,rfl,rfl,rfl,l,n,e⟩:=I.shp h' K
 ·exact RcAt.none_none
 ·exact RcAt.none_bool _
 ·exact RcAt.none_int _ c
 ·exact RcAt.none_str _ c
 ·exact RcAt.none_tuple e (by lia)
 ·exact RcAt.none_list e (by lia)
 ·exact RcAt.bool_none _
 ·exact RcAt.bool_bool _ _
 ·exact RcAt.bool_int _ _ c
 ·exact RcAt.bool_str _ _ c
 ·exact RcAt.bool_tuple _ e (by lia)
 ·exact RcAt.bool_list _ e (by lia)
 ·exact RcAt.int_none _ t
 ·exact RcAt.int_bool _ t _
 ·exact RcAt.int_int _ t _ c
 ·exact RcAt.int_str _ t _ c
 ·exact RcAt.int_tuple _ t e (by lia)
 ·exact RcAt.int_list _ t e (by lia)
 ·exact RcAt.str_none _ t
 ·exact RcAt.str_bool _ t _
 ·exact RcAt.str_int _ t _ c
 ·exact RcAt.str_str _ t _ c
 ·exact RcAt.str_tuple _ t e (by lia)
 ·exact RcAt.str_list _ t e (by lia)
 ·exact RcAt.tuple_none p (by lia)
 ·exact RcAt.tuple_bool _ p (by lia)
 ·exact RcAt.tuple_int _ c p (by lia)
 ·exact RcAt.tuple_str _ c p (by lia)
 ·exact Inv.rcTup I A (fun i d d' x y u f j F w z o q=>Inv.Cg I (gh g) A.in1 d d' x y u f w z o q (tD j) (by rw[hgt]at B;show A.units+1+gh g+1<cLine;lia)) k m l n (by lia)
 ·exact RcAt.tuple_list p e (by lia)
 ·exact RcAt.list_none p (by lia)
 ·exact RcAt.list_bool _ p (by lia)
 ·exact RcAt.list_int _ c p (by lia)
 ·exact RcAt.list_str _ c p (by lia)
 ·exact RcAt.list_tuple p e (by lia)
 ·exact Inv.rcLst I A (fun i d d' x y u f j F w z o q=>Inv.Cg I (gh g) A.in1 d d' x y u f w z o q (tD j) (by rw[hgt]at B;show A.units+1+gh g+1<cLine;lia)) k m l n (by lia)
def Inv.rcNeD(I:Inv X pins σ H s)(A:Around)(d d':D)(v C:V)(u f:Value)(h:Rep X.K H d v)(h':Rep X.K H d' C)(r:RelV v u)(K:RelV C f)(B:A.units+hgt d+1<cLine):RcNeAt A s u f (!eqD d d'):=by
 obtain⟨rfl,rfl,rfl⟩ |⟨_,rfl,rfl,rfl⟩ |⟨_,t,rfl,rfl,rfl⟩ |⟨_,t,rfl,rfl,rfl⟩ |⟨g,a,L,G,rfl,rfl,rfl,k,m,p⟩ |⟨g,a,L,G,rfl,rfl,rfl,k,m,p⟩:=I.shp h r<;>obtain⟨rfl,rfl,rfl⟩ |⟨_,rfl,rfl,rfl⟩ |⟨_,c,rfl,rfl,rfl⟩ |⟨_,c,rfl,rfl,rfl⟩ |⟨E,b,M,J,rfl,rfl,rfl,l,n,e⟩ |⟨E,b,M,J,rfl,rfl,rfl,l,n,e⟩:=I.shp h' K
 ·exact RcNeAt.none_none
 ·exact RcNeAt.none_bool _
 ·exact RcNeAt.none_int _ c
 ·exact RcNeAt.none_str _ c
 ·exact RcNeAt.none_tuple e (by lia)
 ·exact RcNeAt.none_list e (by lia)
 ·exact RcNeAt.bool_none _
 ·exact RcNeAt.bool_bool _ _
 ·exact RcNeAt.bool_int _ _ c
 ·exact RcNeAt.bool_str _ _ c
 ·exact RcNeAt.bool_tuple _ e (by lia)
 ·exact RcNeAt.bool_list _ e (by lia)
 ·exact RcNeAt.int_none _ t
 ·exact RcNeAt.int_bool _ t _
 ·exact RcNeAt.int_int _ t _ c
 ·exact RcNeAt.int_str _ t _ c
 ·exact RcNeAt.int_tuple _ t e (by lia)
 ·exact RcNeAt.int_list _ t e (by lia)
 ·exact RcNeAt.str_none _ t
 ·exact RcNeAt.str_bool _ t _
 ·exact RcNeAt.str_int _ t _ c
 ·exact RcNeAt.str_str _ t _ c
 ·exact RcNeAt.str_tuple _ t e (by lia)
 ·exact RcNeAt.str_list _ t e (by lia)
 ·exact RcNeAt.tuple_none p (by lia)
 ·exact RcNeAt.tuple_bool _ p (by lia)
 ·exact RcNeAt.tuple_int _ c p (by lia)
 ·exact RcNeAt.tuple_str _ c p (by lia)
 ·exact Inv.neTup I A (fun i d d' x y u f j F w z o q=>Inv.Cg I (gh g) A.in1 d d' x y u f w z o q (tD j) (by rw[hgt]at B;show A.units+1+gh g+1<cLine;lia)) k m l n (by lia)
 ·exact RcNeAt.tuple_list p e (by lia)
 ·exact RcNeAt.list_none p (by lia)
 ·exact RcNeAt.list_bool _ p (by lia)
 ·exact RcNeAt.list_int _ c p (by lia)
 ·exact RcNeAt.list_str _ c p (by lia)
 ·exact RcNeAt.list_tuple p e (by lia)
 ·exact Inv.neLst I A (fun i d d' x y u f j F w z o q=>Inv.Cg I (gh g) A.in1 d d' x y u f w z o q (tD j) (by rw[hgt]at B;show A.units+1+gh g+1<cLine;lia)) k m l n (by lia)
def rEqD(K:ah):R2:=fun x y H Q=>∃d a,Rep K H d x/\Rep K H a y/\hgt d<=30/\Q (.bl (eqD d a)) H
def rNeD(K:ah):R2:=fun x y H Q=>∃d a,Rep K H d x/\Rep K H a y/\hgt d<=30/\Q (.bl (!eqD d a)) H
def op_eqD(i:X.A.units+40<cLine):OpR X (cX .Eq) (rEqD X.K):=by intro j s k H x y v u Q I e f h;obtain⟨d,a,b,c,g,q⟩:=h;exact I.rcD X.A d a x y v u b c e f (by lia) _ _ _ _ (wC I q rfl)
def op_neD(i:X.A.units+40<cLine):OpR X (cX .NotEq) (rNeD X.K):=by intro j s k H x y v u Q I e f h;obtain⟨d,a,b,c,g,q⟩:=h;exact I.rcNeD X.A d a x y v u b c e f (by lia) _ _ _ _ (wC I q rfl)
end
end L2
namespace Q
open PySem PySem.W PyProof.Rows
abbrev run{α:Type}(lt:Nat->Nat->Bool):KasT α->α
 |.ret a=>a
 |.ask i j k=>run lt (k (lt i j))
theorem run_bind{b c:Type}(lt:Nat->Nat->Bool)(f:b->KasT c):∀t:KasT b,run lt (t.bind f)=run lt (f (run lt t))
 |.ret a=>rfl
 |.ask i j k=>run_bind lt f (k (lt i j))
abbrev okT{α:Type}(lt:Nat->Nat->Bool)(n:Nat):KasT α->Prop
 |.ret _=>True
 |.ask i j k=>(i<n/\j<n/\i≠j)/\okT lt n (k (lt i j))
theorem o8{b c:Type}{lt:Nat->Nat->Bool}{f:b->KasT c}:∀{t:KasT b},okT lt n t->okT lt n (f (run lt t))->okT lt n (t.bind f)
 |.ret a,_,h=>h
 |.ask i j k,h,h'=>⟨h.1,o8 h.2 h'⟩
structure Tot(lt:Nat->Nat->Bool)(n:Nat):Prop where
 tri:∀i j,i<n->j<n->i≠j->lt i j= !lt j i
 tr:∀i j k,i<n->j<n->k<n->lt i j=true->lt j k=true->lt i k=true
noncomputable abbrev at'(p:Array Nat)(i:Nat):Nat:=p.getD i 0
def GC(p:Array Nat)(i:Nat):at' p i=(p[i]?).getD 0:=by simp[at',Array.getD_eq_getD_getElem?]
structure Pm(p:Array Nat)(n:Nat):Prop where
 perm:p.Perm (aE n).toArray
theorem Pm.size{p:Array Nat}(h:Pm p n):p.size=n:=by rw[h.perm.size_eq];simp
def Pm.lt{p:Array Nat}(h:Pm p n)(hi:i<n):at' p i<n:=by
 have a:i<p.size:=by rw[h.size];exact hi
 have e:at' p i=p[i]:=by simp[at',a]
 have m:p[i]∈(aE n).toArray:=h.perm.mem_iff.mp (Array.getElem_mem a);rw[e];simpa using m
def Pm.inj{p:Array Nat}(h:Pm p n)(hi:i<n)(f:j<n)(e:at' p i=at' p j):i=j:=by
 have a:i<p.size:=by rw[h.size];exact hi
 have b:j<p.size:=by rw[h.size];exact f
 have nd:p.toList.Nodup:=by
  have q:p.toList.Perm (aE n):=by simpa using eQ.mp h.perm
  exact q.nodup_iff.mpr List.nodup_range
 have c:at' p i=p.toList[i]'(by simpa using a):=by simp[at',a]
 have d:at' p j=p.toList[j]'(by simpa using b):=by simp[at',b]
 rw[c,d]at e;exact(fL nd).mp e
def MH{p:Array Nat}(a:j<=p.size)(k:Nat):at' (AE p i j) k=if i<=k/\k<j then at' p (i+j-1-k)else at' p k:=by rw[GC];unfold AE;rw[getElem?_mirror_all a];split <;>rw[GC]
def MI{p:Array Nat}{a d:Nat}(b:a<p.size)(c:d<=a)(k:Nat):at' (bubble p a d) k=if k=a-d then at' p a else if a-d<k/\k<=a then at' p (k-1)else at' p k:=by
 rw[GC,getElem?_bubble b d c];split;·simp[at',b]
 ·split <;>rw[GC]
def Pm.rev{p:Array Nat}(h:Pm p n):Pm (AE p i j) n:=⟨(mirror_perm _ _ _ _).trans h.perm⟩
def Pm.bub{p:Array Nat}(h:Pm p n):Pm (bubble p i j) n:=⟨(bubble_perm _ _ _).trans h.perm⟩
def Up(lt:Nat->Nat->Bool)(p:Array Nat)(m:Nat):Prop:=∀i j,i<j->j<m->lt (at' p i) (at' p j)=true
def Dn(lt:Nat->Nat->Bool)(p:Array Nat)(m:Nat):Prop:=∀i j,i<j->j<m->lt (at' p j) (at' p i)=true
section
variable {lt:Nat->Nat->Bool}{N:Nat}{p:Array Nat}
theorem Tot.flip(T:Tot lt N)(P:Pm p N)(hi:i<N)(a:j<N)(n:i≠j)(h:lt (at' p i) (at' p j)=false):lt (at' p j) (at' p i)=true:=by have q:=T.tri _ _ (P.lt hi) (P.lt a) fun e=>n (P.inj hi a e);rw[h]at q;simpa using q.symm
theorem Pm.ask{p:Array Nat}(P:Pm p N)(hi:i<N)(a:j<N)(n:i≠j):at' p i<N/\at' p j<N/\at' p i≠at' p j:=⟨P.lt hi,P.lt a,fun e=>n (P.inj hi a e)⟩
theorem Up.succ(T:Tot lt N)(P:Pm p N)(c:1<=n)(b:n<N)(u:Up lt p n)(h:lt (at' p (n-1)) (at' p n)=true):Up lt p (n+1):=by
 intro i j a d;by_cases e:j=n
 ·subst e;by_cases e2:i=j-1;·subst e2;exact h
  ·exact T.tr _ _ _ (P.lt (by lia)) (P.lt (by lia)) (P.lt b) (u i (j-1) (by lia) (by lia)) h
 ·exact u i j a (by lia)
theorem Dn.succ(T:Tot lt N)(P:Pm p N)(c:1<=n)(b:n<N)(u:Dn lt p n)(h:lt (at' p n) (at' p (n-1))=true):Dn lt p (n+1):=by
 intro i j a d;by_cases e:j=n
 ·subst e;by_cases e2:i=j-1;·subst e2;exact h
  ·exact T.tr _ _ _ (P.lt b) (P.lt (by lia)) (P.lt (by lia)) h (u i (j-1) (by lia) (by lia))
 ·exact u i j a (by lia)
theorem zq(T:Tot lt N)(P:Pm p N):∀(f n:Nat),1<=n->n+f<=N->Up lt p n->∃m,run lt (kas_asc p f n)=m/\n<=m/\m<=n+f/\Up lt p m/\(m=n+f\/lt (at' p m) (at' p (m-1))=true)/\okT lt N (kas_asc p f n)
 | 0,n,h1,h2,u=>⟨n,rfl,av _,av _,u,.inl rfl,trivial⟩
 |f+1,n,h1,h2,u=>by
  unfold kas_asc;have a:=P.ask (i:=n) (j:=n-1) (by lia) (by lia) (by lia);simp only[run,okT];by_cases c:lt (at' p n) (at' p (n-1))=true;·rw[if_pos c];exact⟨n,rfl,av _,by lia,u,.inr c,a,trivial⟩
  ·rw[if_neg c];have h:lt (at' p n) (at' p (n-1))=false:=by simpa using c
   obtain⟨m,e,k,l,b,d,g⟩:=zq T P f (n+1) (by lia) (by lia) (u.succ T P h1 (by lia) (T.flip P (by lia) (by lia) (by lia) h));refine⟨m,e,by lia,by lia,b,?_,a,g⟩;rcases d with z|z;·exact .inl (by lia)
   ·exact .inr z
theorem Be(T:Tot lt N)(P:Pm p N):∀(f n:Nat),1<=n->n+f<=N->Dn lt p n->∃m,run lt (kas_desc f p n 0)=(p,m,0)/\n<=m/\m<=n+f/\Dn lt p m/\okT lt N (kas_desc f p n 0)
 | 0,n,h1,h2,u=>⟨n,rfl,av _,av _,u,trivial⟩
 |f+1,n,h1,h2,u=>by
  unfold kas_desc;have a:=P.ask (i:=n) (j:=n-1) (by lia) (by lia) (by lia);have k:=P.ask (i:=n-1) (j:=n) (by lia) (by lia) (by lia);simp only[run,okT];by_cases c:lt (at' p n) (at' p (n-1))=true;·rw[if_pos c,if_neg (dH 0)];obtain⟨m,e,l,o,b,g⟩:=Be T P f (n+1) (by lia) (by lia) (u.succ T P h1 (by lia) c);exact⟨m,e,by lia,by lia,b,a,g⟩
  ·rw[if_neg c];have h:lt (at' p n) (at' p (n-1))=false:=by simpa using c
   have d:=T.flip P (by lia) (by lia) (by lia) h;simp only[run,okT];rw[if_pos d];exact⟨n,rfl,av _,by lia,u,a,k,trivial⟩
theorem J9(T:Tot lt N)(P:Pm p N)(f:1<=n)(b:n<=N)(u:Dn lt p n):∃m a,run lt (kas_tail3 n N p)=(m,a)/\1<=m/\m<=N/\Up lt a m/\Pm a N/\okT lt N (kas_tail3 n N p):=by
 have h:Up lt (AE p 0 n) n:=by intro i j o g;rw[MH (by rw[P.size];exact b),MH (by rw[P.size];exact b),if_pos ⟨aM _,by lia⟩,if_pos ⟨aM _,g⟩];exact u _ _ (by lia) (by lia)
 obtain⟨m,e,k,l,c,_,d⟩:=zq T P.rev (N-n) n f (by lia) h;unfold kas_tail3;refine⟨m,AE p 0 n,?_,by lia,by lia,c,P.rev,o8 d trivial⟩;rw[run_bind,e];rfl
def zo(T:Tot lt N)(P:Pm p N)(r:n+1<=N)(u:Dn lt p (n+1)):∃m a,run lt (jM n N p)=(m,a)/\1<=m/\m<=N/\Up lt a m/\Pm a N/\okT lt N (jM n N p):=by
 obtain⟨m,e,o,q,b,c⟩:=Be T P (N-(n+1)) (n+1) (by lia) (by lia) u;obtain⟨k,l,d,f,g,h,i,j⟩:=J9 T P (by lia) (by lia) b;unfold jM;refine⟨k,l,?_,f,g,h,i,o8 c ?_⟩;·rw[run_bind,e];exact d
 ·rw[e];exact j
theorem Hh(T:Tot lt N)(P:Pm p N)(x:1<=N):∃m a,run lt (kas_count N p)=(m,a)/\1<=m/\m<=N/\Up lt a m/\Pm a N/\okT lt N (kas_count N p):=by
 obtain⟨m,e,g,w,f,h,k⟩:=zq T P (N-1) 1 (av _) (by lia) (fun i j t u=>by lia);have v:∃b a,run lt (if(m==N)=true then vg (m,p)else if m>1 then KasT.ask (p.getD 0 0) (p.getD (m-1) 0) fun c=>if c=true then vg (m,p)else jM m N (AE p 0 m)else jM m N p)=(b,a)/\1<=b/\b<=N/\Up lt a b/\Pm a N/\
   okT lt N (if(m==N)=true then vg (m,p)else if m>1 then KasT.ask (p.getD 0 0) (p.getD (m-1) 0) fun c=>if c=true then vg (m,p)else jM m N (AE p 0 m)else jM m N p):=by
  by_cases c:m=N;·rw[if_pos (by simpa using c)];exact⟨m,p,rfl,g,by lia,f,P,trivial⟩
  ·rw[if_neg (by simpa using c)];by_cases d:m>1;·rw[if_pos d];simp only[run,okT];rw[if_pos (f 0 (m-1) (by lia) (by lia))];exact⟨m,p,rfl,g,by lia,f,P,P.ask (by lia) (by lia) (by lia),trivial⟩
   ·rw[if_neg d];obtain rfl:m=1:=by lia
    rcases h with z|z;·lia
    ·exact zo T P (by lia) fun i j t u=>by
      obtain rfl:j=1:=by lia
      obtain rfl:i=0:=by lia
      exact z
 obtain⟨b,a,l,n,o,q,r,s⟩:=v;unfold kas_count;refine⟨b,a,?_,n,o,q,r,o8 k ?_⟩;·rw[run_bind,e];exact l
 ·rw[e];exact s
theorem sU(T:Tot lt N)(P:Pm p N)(g:k<N)(u:Up lt p k):∀(f l r:Nat),l<=r->r<=k->r-l<=f->(∀i,i<l->lt (at' p i) (at' p k)=true)->(∀i,r<=i->i<k->lt (at' p k) (at' p i)=true)->
  ∃q,run lt (kas_place p k f l r)=q/\q<=k/\(∀i,i<q->lt (at' p i) (at' p k)=true)/\(∀i,q<=i->i<k->lt (at' p k) (at' p i)=true)/\okT lt N (kas_place p k f l r)
 | 0,l,r,h1,h2,h3,a,b=>⟨l,rfl,by lia,a,fun i hi=>b i (by lia),trivial⟩
 |f+1,l,r,h1,h2,h3,a,b=>by
  unfold kas_place;by_cases c:l≥ r;·rw[if_pos c];exact⟨l,rfl,by lia,a,fun i hi=>b i (by lia),trivial⟩
  ·rw[if_neg c];have w:=P.ask (i:=k) (j:=(l+r)/2) g (by lia) (by lia);simp only[run,okT];by_cases d:lt (at' p k) (at' p ((l+r)/2))=true
   ·rw[if_pos d];have h:=sU T P g u f l ((l+r)/2) (by lia) (by lia) (by lia) a fun i hi x=>?_;obtain⟨q,m,n,o,s,t⟩:=h;exact⟨q,m,n,o,s,w,t⟩;by_cases e:i=(l+r)/2;·rw[e];exact d
    ·exact T.tr _ _ _ (P.lt g) (P.lt (by lia)) (P.lt (by lia)) d (u _ _ (by lia) x)
   ·rw[if_neg d];have v:=T.flip P g (by lia:(l+r)/2<N) (by lia) (by simpa using d);have h:=sU T P g u f ((l+r)/2+1) r (by lia) h2 (by lia) (fun i hi=>?_) b;obtain⟨q,m,n,o,s,t⟩:=h;exact⟨q,m,n,o,s,w,t⟩;by_cases e:i=(l+r)/2;·rw[e];exact v
    ·exact T.tr _ _ _ (P.lt (by lia)) (P.lt (by lia)) (P.lt g) (u _ _ (by lia) (by lia)) v
end
theorem Fg{lt:Nat->Nat->Bool}{N:Nat}(T:Tot lt N):∀(f k:Nat)(p:Array Nat),Pm p N->k+f=N->Up lt p k->∃c,run lt (kas_bin f p k)=c/\Up lt c N/\Pm c N/\okT lt N (kas_bin f p k)
 | 0,k,p,P,h,u=>⟨p,rfl,by rw[<-h];exact u,P,trivial⟩
 |f+1,k,p,P,h,u=>by
  have d:k<N:=by lia
  obtain⟨q,e,hq,a,b,n⟩:=sU T P d u k 0 k (aM _) (av _) (by lia) (fun i hi=>absurd hi (dv _)) fun i v w=>by lia
  have m:=Fg T f (k+1) (bubble p k (k-q)) P.bub (by lia) fun i j x y=>?_;obtain⟨c,o,r,s,t⟩:=m;unfold kas_bin;refine⟨c,?_,r,s,o8 n ?_⟩;·rw[run_bind,e];exact o
  ·rw[e];exact t
  have g:k<p.size:=by rw[P.size];exact d
  rw[MI g (by lia),MI g (by lia)];have l:k-(k-q)=q:=by lia
  rw[l];by_cases c1:i=q;·rw[if_pos c1,if_neg (by lia),if_pos (by lia)];exact b _ (by lia) (by lia)
  ·rw[if_neg c1];by_cases c2:j=q;·rw[if_pos c2,if_neg (by lia)];exact a i (by lia)
   ·rw[if_neg c2];by_cases c3:q<i;·rw[if_pos (by lia),if_pos (by lia)];exact u _ _ (by lia) (by lia)
    ·rw[if_neg (by lia)];by_cases c4:q<j;·rw[if_pos (by lia)];exact u _ _ (by lia) (by lia)
     ·rw[if_neg (by lia)];exact u _ _ (by lia) (by lia)
def fN{lt:Nat->Nat->Bool}{N:Nat}(T:Tot lt N)(p:1<=N):Pm (run lt (dQ N)) N/\Up lt (run lt (dQ N)) N/\okT lt N (dQ N):=by
 have g:Pm (dX (aE N)) N:=⟨Array.Perm.refl _⟩;obtain⟨m,a,e,s,t,d,f,h⟩:=Hh T g p;have q:max m 1=m:=by lia
 have r:∃b,run lt (if m<N then kas_bin (N-max m 1) a (max m 1)else vg a)=b/\Up lt b N/\Pm b N/\okT lt N (if m<N then kas_bin (N-max m 1) a (max m 1)else vg a):=by
  rw[q];by_cases c:m<N;·rw[if_pos c];exact Fg T (N-m) m a f (by lia) d
  ·rw[if_neg c];have n:m=N:=by lia
   exact⟨a,rfl,by rw[<-n];exact d,f,trivial⟩
 obtain⟨b,i,j,k,l⟩:=r;have o:run lt (dQ N)=b:=by unfold dQ;rw[run_bind,e];exact i
 rw[o];refine⟨k,j,?_⟩;unfold dQ;refine o8 h ?_;rw[e];exact l
theorem wp_run{lt:Nat->Nat->Bool}{N:Nat}{S:Shared->Prop}{b:Nat->Nat->(Bool->Shared->Prop)->Shared->Prop}{c:Type}{G:c->Shared->Prop}
  (h:∀i j C s,i<N->j<N->i≠j->S s->(∀s',S s'->C (lt i j) s')->b i j C s):
  ∀(t:KasT c)(s:Shared),okT lt N t->S s->(∀s',S s'->G (run lt t) s')->t.kasWp b G s
 |.ret a,s,_,hs,g=>g s hs
 |.ask i j k,s,ok,hs,g=>h i j _ s ok.1.1 ok.1.2.1 ok.1.2.2 hs fun s' d=>wp_run h (k (lt i j)) s' ok.2 d g
end Q
namespace L2
open PySem PySem.Spec PyProof.Rows
structure Fly(h₀ h:Heap)(H:Hp)(pn:List (Addr×Obj))(a:Addr)(c:Value)(d:Option Addr):Prop where
 ex:∃T oe vs oT ts,h.get? a=some oe/\oe.cls=c/\oe.dict=d/\oe.data=.fields vs/\vs[1]? =some (.ref T)/\T≠a/\h.get? T=some oT/\oT.data=.fields ts/\ts[3]? =some .none/\h₀.get? T=none/\H T=none/\∀p∈pn,p.1≠T
 new:h₀.get? a=none
 un:H a=none
 pins:∀p∈pn,p.1≠a
def CXx(P:Program)(w:World):CXT:=fun b H s E e s'=>
 ∃a c d H',e=.ref a/\s'.os=s.os/\pJ s'.gens/\Un (frs b) [] H H' s.heap s'.heap/\HOk P w H' s'.heap/\Fly s.heap s'.heap H' [] a c d/\E c d H'
section
variable {pins:List (Addr×Obj)}{s:Shared}
def Inv.uQ(I:Inv X pins σ H s)(k:∀b o,b≠it->s.heap.get? b=some o->h'.get? b=some o)(L:H it=none)(G:it≠X.env.locals)
  (E:X.s₀.heap.get? it=none)(t:∀x c,X.env.cells.lookup x=some c->c≠it)(F:∀p∈X.pn++pins,p.1≠it):Inv X pins σ H {s with heap:=h',toks:=t'}:=by
 have h:∀b o,X.s₀.heap.get? b=some o->b≠it:=fun b o e z=>by rw[z,E]at e;cases e
 have w:∀b u,H b=some u->b≠it:=fun b u e z=>by rw[z,L]at e;cases e
 refine⟨I.ok,I.os,I.bare,⟨fun b o e n g a=>k b o (h b o e) (I.base.keep b o e n g a),fun b o e n g a=>?_,I.base.free,fun b o e a=>?_,I.base.tups,I.base.frzs,I.base.tbls⟩,?_,fun x c e=>?_,I.free,I.freeC,fun p hp=>?_,fun b u e=>?_,I.len⟩;·obtain⟨R,q⟩:=I.base.slot b o e n g a;exact⟨R,k _ _ (h b o e) q⟩
 ·obtain⟨P,q⟩:=I.base.there b o e a;exact⟨P,k _ _ (h b o e) q⟩
 ·obtain⟨m,⟨o,D,C,M,r⟩,K⟩:=I.loc;refine⟨m,⟨o,D,C,k _ _ (bE G) M,r⟩,fun i x v y A B=>?_⟩;obtain⟨u,Q,l⟩:=K i x v y A B;refine⟨u,Q,?_⟩;rcases l with l|⟨N,c,e,j,q,f⟩;·exact .inl l
  ·exact .inr ⟨N,c,e,j,k _ _ (t x c e) q,f⟩
 ·obtain⟨v,j,q,f⟩:=I.cell x c e;exact⟨v,j,k _ _ (t x c e) q,f⟩
 ·obtain⟨e,n,ne,O,d⟩:=I.pin p hp;exact⟨k _ _ (F p hp) e,n,ne,O,d⟩
 ·refine(I.hok b u e).sR (fun c v J q=>k c v ?_ q) (fun _ q=>q) fun _ _ q=>q;rcases J with z|z;·rw[z];exact w b u e
  ·exact w c _ z
def Inv.vH(I:Inv X pins σ H s){o:Obj}{vs:Array Value}(e:s.heap.get? a=some o)(f:o.data=.fields vs):a≠X.env.locals/\∀x c,X.env.cells.lookup x=some c->c≠a:=by
 refine⟨fun z=>?_,fun x c g z=>?_⟩;·obtain⟨m,⟨h,j,i,d,b,_⟩,_⟩:=I.loc;rw[<-z,e]at d;cases d;rw[f]at b;cases b
 ·obtain⟨v,h,d,b⟩:=I.cell x c g;rw[z,e]at d;cases d;rw[f]at b;cases b
def dz.has{o:HO}(x:dz P w H h a o):∃b,h.get? a=some b:=by
 cases o with
 |lst xs=>obtain⟨_,_,_,_,e⟩:=x;exact⟨_,e⟩
 |tup xs=>obtain⟨_,_,_,_,e,_⟩:=x;exact⟨_,e⟩
 |dK kvs=>obtain⟨_,_,_,_,o,_,_,e,_⟩:=x;exact⟨_,e⟩
 |dT kvs=>obtain⟨_,_,_,_,o,_,_,e,_⟩:=x;exact⟨_,e⟩
 |set S n=>obtain⟨o,_,_,_,e,_⟩:=x;exact⟨_,e⟩
 |ins C dx fs=>obtain⟨_,_,_,e,_⟩:=x;exact⟨_,e⟩
 |own y=>exact x
 |xd fs=>obtain⟨_,⟨_,_,_,e,_⟩,_⟩:=x;exact⟨_,e⟩
 |rng lo hi=>obtain⟨_,_,_,e⟩:=x;exact⟨_,e⟩
 |frz b u=>obtain⟨e,_⟩:=x;exact⟨_,e⟩
 |tbl ps=>exact⟨_,x⟩
 |met f y=>exact⟨_,x⟩
 |ext φ=>exact x.2.1
section
variable {M:Model}{E:Value->Shared->Prop}{Q:Unit->Shared->Prop}
def enter{g:Obj}{vs:Array Value}{r:Value}{more:Bool}(I:Inv X pins σ H s)(v:X.stack=X.env::X.outer)(hf:X.env.frame=some X.env.locals)
  (B:s.heap.get? a=some g)(m:g.data=.fields vs)(S:1<vs.size)(h0:X.s₀.heap.get? a=none)(D:H a=none)(hp:∀p∈X.pn++pins,p.1≠a)
  (h:∀s2,Inv X pins σ H s2->Fly X.s₀.heap s2.heap H (X.pn++pins) a g.cls g.dict->Q () s2):
  wpAny M X.A (do let f<-frameOf X.env;let l<-entryPlaceOf X.env.locals more;let b<-Dc r f .none (rawInt X.env.locals) .none l;uL (.ref a) 1 b)
   (fun _ s'=>wpAny M X.A (C1 (.ref a) none) Q E s') E s:=by
 have a2:X.A.frames=some (X.env::X.outer):=by rw[<-v];exact I.ok.frames
 have N:s.heap.FunFrames X.base (X.env::X.outer):=by rw[<-v];exact I.stack
 have nofr:∀b∈frs X.stack,H b=none:=I.y6;refine aa (wpAny_frameOf_fun a2 N hf fun d R=>?_);have k:Heap.SlotsOnly (frs X.stack) s.heap d:=by rw[v];exact R
 have a1:a∉frs X.stack:=fun t=>by rw[v]at t;obtain⟨_,o,O,a3⟩:=N.mem t;rw[B]at O;cases O;exact a3 vs m
 have u1:Un (frs X.stack) [] H H s.heap d:=
  ⟨fun b o e _ j _=>(k.2.1 b j).trans e,fun b o e _ _ _=>k.2.2 b o e,fun _ _ _ n _=>n,fun b o e _=>let⟨sl,q⟩:=k.2.2 b o e;⟨_,q⟩,fun _ _ q=>q,fun _ _ _ q=>q,fun _ ps q=>⟨#[],by rw[q];simp⟩⟩
 have k1:HOk X.prog X.w H d:=fun b b0 e=>by
  refine(I.hok b b0 e).sR (fun c b2 hc q=>(k.2.1 c fun t=>?_).trans q) (fun _ q=>q) fun _ _ q=>q;have n:=nofr c t;rcases hc with z|z;·rw[z,e]at n;cases n
  ·rw[z]at n;cases n
 have V:Inv X pins σ H {s with heap:=d}:=I.call (g':=s.gens) (t':=s.toks) (d':=s.drawn) (ch:=[]) u1 k1 I.bare fun _ z=>nomatch z;have J:d.get? a=some g:=(k.2.1 a a1).trans B;refine aa (wpAny_entryPlaceOf fun i a5=>?_);unfold Dc newFields;refine aa (bW ?_ (a5.sizeOk5 _ _ _ _ _));generalize hob:({cls:=.type "traceback",dict:=none,data:=.fields ([r,.ref X.env.locals,.none,rawInt X.env.locals,.none]++(if i.isEmpty then bj 6 bL else i)).toArray}:Obj)=ob;have u:ob.data=.fields ([r,.ref X.env.locals,.none,rawInt X.env.locals,.none]++(if i.isEmpty then bj 6 bL else i)).toArray:=by rw[<-hob]
 have a4:ob.isFreed=false:=by rw[<-hob];rfl
 have W:Inv X pins σ H {s with heap:=d.push ob}:=V.kept (t':=s.toks) fun b o e=>ag _ e;have K:(d.push ob).get? a=some g:=ag _ J;have a0:(d.push ob).get? d.objs.size=some ob:=ax _ a4;have x:d.objs.size≠a:=eK (ay J);have A:=eW m (·.setIfInBounds 1 (bz d.objs.size));refine uK K m S ?_;obtain⟨a6,a7⟩:=I.vH B m;have C:Inv X pins σ H {s with heap:=(d.push ob).update a (fz (·.setIfInBounds 1 (.ref d.objs.size)))}:=
  W.uQ (t':=s.toks) (fun b o j e=>by rw[aN _ _ (bE j)];exact e) D a6 h0 a7 hp
 have L:=bP (fz (·.setIfInBounds 1 (bz d.objs.size))) K (jF A);have w:((d.push ob).update a (fz (·.setIfInBounds 1 (bz d.objs.size)))).get? d.objs.size=some ob:=by rw[aN _ _ (bE x)];exact a0
 have T:3<([r,.ref X.env.locals,.none,rawInt X.env.locals,.none]++(if i.isEmpty then bj 6 bL else i)).toArray.size:=by simp only[aw,aU,ba,kB];lia
 have U:(vs.setIfInBounds 1 (bz d.objs.size))[1]? =some (.ref d.objs.size):=by simp[S]
 refine wpAny_setFlight_none L A U w u T ?_;have y:s.heap.objs.size<=d.objs.size:=xl R.1.symm;have F:X.s₀.heap.get? d.objs.size=none:=qN (aF I.sz y);have G:H d.objs.size=none:=I.hok.fresh y;obtain⟨a8,a9⟩:=C.vH w u;have P:∀p∈X.pn++pins,p.1≠d.objs.size:=fun p hq z=>by have q:=ay (I.pin p hq).1;exact absurd (aT (z▸q) y) (dH _)
 have Y:=C.uQ (t':=s.toks) (h':=((d.push ob).update a (fz (·.setIfInBounds 1 (.ref d.objs.size)))).update d.objs.size (fz (·.setIfInBounds 3 .none)))
  (fun b o j e=>by rw[aN _ _ (bE j)];exact e) G a8 F a9 P
 refine h _ Y ⟨⟨d.objs.size,_,_,_,_,?_,Obj.cls_mapFields _ _,?_,A,U,x,bP _ w (jF (eW u _)),eW u _,?_,F,G,P⟩,h0,D,hp⟩;·show(Heap.update _ _ _).get? a=_;rw[aN _ _ x];exact L
 ·obtain⟨c',d',Z,b1⟩:=g;cases Z<;>rfl
 ·rw[qk T]
def BC{c:Value}(I:Inv X pins σ H s)(k:X.stack=X.env::X.outer)(hf:X.env.frame=some X.env.locals)(j:X.ex=[])(b:qO s.heap h' a c args)
  (h:∀s2,Inv X pins σ H s2->Fly X.s₀.heap s2.heap H (X.pn++pins) a c none->Q () s2):
  wpAny M X.A (ng (.ref a) X.env) (fun _ s'=>wpAny M X.A (C1 (.ref a) none) Q E s') E {s with heap:=h'}:=by
 obtain⟨t,d,_,_⟩:=b.there;have f:Inv X pins σ H {s with heap:=h'}:=I.kept (t':=s.toks) b.keeps;have i:H a=none:=by
  cases q:H a with
  |none=>rfl
  |some o=>obtain⟨m,e⟩:=(I.hok a o q).has;rw[b.new]at e;cases e
 unfold ng;simp only[hf];refine aa (iz (x:=.none) d rfl (by rfl) ?_);rw[if_neg (show ¬(bL != bL)=true by simp)];have g:X.s₀.heap.get? a=none:=by
  cases q:X.s₀.heap.get? a with
  |none=>rfl
  |some o=>obtain⟨l,e⟩:=I.base.there a o q (by rw[j];simp);rw[b.new]at e;cases e
 exact enter f k hf d rfl (by simp) g i (fun p hp z=>by have :=(I.pin p hp).1;rw[z,b.new]at this;cases this) h
def BD{c:Value}(I:Inv X pins σ H s)(P:X.stack=X.env::X.outer)(hf:X.env.frame=some X.env.locals)(K:X.ex=[])(J:s'.os=s.os)(G:pJ s'.gens)(u:Un (frs X.stack) [] H H' s.heap s'.heap)(ok:HOk X.prog X.w H' s'.heap)
  (F:Fly s.heap s'.heap H' [] a c d)(h:∀s2,Inv X pins σ H' s2->Fly X.s₀.heap s2.heap H' (X.pn++pins) a c d->Q () s2):
  wpAny M X.A (ng (.ref a) X.env) (fun _ s'=>wpAny M X.A (C1 (.ref a) none) Q E s') E s':=by
 obtain⟨⟨T,L,V,S,U,r,rfl,rfl,m,k,B,f,g,l,t,y,_⟩,v,A,_⟩:=F;have i:Inv X pins σ H' s':=I.call' (ch:=[]) J u ok G fun _ z=>nomatch z;have j:∀b,s.heap.get? b=none->X.s₀.heap.get? b=none:=fun b n=>by
  cases q:X.s₀.heap.get? b with
  |none=>rfl
  |some o=>obtain⟨R,e⟩:=I.base.there b o q (by rw[K];simp);rw[n]at e;cases e
 have w:∀b,s.heap.get? b=none->∀p∈X.pn++pins,p.1≠b:=fun b n p hp z=>by have :=(I.pin p hp).1;rw[z,n]at this;cases this
 unfold ng;simp only[hf];refine aa (iz r m k ?_);rw[if_pos (show(bz T != bL)=true by simp)];refine aa (iz f g l ?_);rw[if_neg (show ¬(bL==rawInt X.env.locals)=true by simp[rawInt])];refine aa (uK f g (cq.mp l).1 ?_);obtain⟨N,O⟩:=i.vH f g;have x:=i.uQ (t':=s'.toks) (h':=s'.heap.update T (fz (·.setIfInBounds 3 .none))) (fun b o C e=>by rw[aN _ _ (bE C)];exact e) y N (j T t) O (w T t);have D:(s'.heap.update T (fz (·.setIfInBounds 3 .none))).get? a=some L:=by rw[aN _ _ B];exact r
 exact enter x P hf D m (cq.mp k).1 (j a v) A (w a v) h
end
end
end L2
namespace L2
open PySem PySem.Spec PySem.W PyProof.Rows
abbrev mX(K:ah)(C:Addr):Bool:=
 findIn K (.ref C) "__getattribute__"==some (some (.builtin "BaseException.__getattribute__"))&&findIn K (.ref C) "__getattr__"==some none&&
 findIn K (.ref C) "__class__"==some (some (.builtin "object.__class__"))&&specialIn K (.builtin "object.__class__") "__get__"==some (some (.builtin "getset_descriptor.__get__"))&&
 takesIn K (.builtin "object.__class__")==some true&&mroIn K C (.type "object")==some true&&mroIn K C (.type "BaseException")==some true&&(clsIn K C).isSome
structure w6(K:ah)(C:Addr):Prop where
 ga:findIn K (.ref C) "__getattribute__"=some (some (.builtin "BaseException.__getattribute__"))
 hook:findIn K (.ref C) "__getattr__"=some none
 cl:findIn K (.ref C) "__class__"=some (some (.builtin "object.__class__"))
 get:specialIn K (.builtin "object.__class__") "__get__"=some (some (.builtin "getset_descriptor.__get__"))
 tk:takesIn K (.builtin "object.__class__")=some true
 obj:mroIn K C (.type "object")=some true
 bex:mroIn K C (.type "BaseException")=some true
 isc:(clsIn K C).isSome=true
def Ce(h:mX K C=true):w6 K C:=by unfold mX at h;simp only[az,beq_iff_eq]at h;obtain⟨⟨⟨⟨⟨⟨⟨a,b⟩,c⟩,d⟩,e⟩,f⟩,g⟩,i⟩:=h;exact⟨a,b,c,d,e,f,g,i⟩
def DB:splitId "BaseException.__getattribute__"=some ("BaseException","__getattribute__"):=by decide+kernel
def HJ:builtinKind "BaseException.__getattribute__"=some .slot:=by decide+kernel
def ga_ne:(iE "BaseException.__getattribute__"==iE "object.__getattribute__")=false:=by decide+kernel
section
variable {E:Value->Shared->Prop}{s:Shared}{a C:Addr}{o:Obj}{od:Option Obj}
def wX{M:Model}{b:Value}{Q:Unit->Shared->Prop}{g:Array lF}{d:Drawn}{t:Nat}{c:OsState}(e:K.In h)(J:InstAt h a o C od)(F:w6 K C)(hq:Q () ⟨h,g,d,t,c⟩):
  wpAny M A (C4 "BaseException.__getattribute__" ⟨[.ref a,b],[]⟩) Q E ⟨h,g,d,t,c⟩:=by
 have f:=J.type (M:=M);have L4:=looks_mroIn (M:=M) e F.bex;have i:=PySem.F.args_bexc_ga (.ref a) b;simp only[C4,HJ,DB];unfold II;repeat(first |lk|wp_step)
 exact hq
def Iq{tk:Tok}{R:Result->Shared->Prop}(b:K.In s.heap)(J:InstAt s.heap a o C od)(F:w6 K C)(h:R (.ok (.ret (.ref C))) s):
  gA (model prog w) A (.call (.builtin "BaseException.__getattribute__") ⟨[.ref a,.str "__class__" tk],[]⟩) R s:=by
 have hf:vc K C od "__class__"=some (.bind (.builtin "getset_descriptor.__get__") (.builtin "object.__class__")):=by obtain⟨cd,c⟩:=cg.mp F.isc;unfold vc;rw[c,fE,F.cl,fE];simp[F.get,F.tk]
 obtain⟨e,g,d,t,f⟩:=s;have i:=J.type (M:=model prog w);have j:=looks_find (M:=model prog w) b J hf;refine iC fY.ga.plain Di (wX b J F ?_);unfold Builtin.«object.__getattribute__»;repeat(first |with_reducible refine iA ?_ |lk|wp_step)
 refine class_get (s:=⟨e,g,d,t,f⟩) b J F.obj ?_;repeat(first |lk|wp_step)
 exact h
def HW{Q:Option Value->Shared->Prop}(b:K.In s.heap)(J:InstAt s.heap a o C od)(F:w6 K C)(h:Q (some (.ref C)) {s with toks:=s.toks+1}):
  wpAny (model prog w) A (getAttr? (.ref a) "__class__") Q E s:=by
 obtain⟨j,g,d,t,k⟩:=s;have c:=J.type (M:=model prog w);have e:=sE (M:=model prog w) b F.ga;have f:=sE (M:=model prog w) b F.hook;have hf:vc K C od "__class__"=some (.bind (.builtin "getset_descriptor.__get__") (.builtin "object.__class__")):=by obtain⟨cd,i⟩:=cg.mp F.isc;unfold vc;rw[i,fE,F.cl,fE];simp[F.get,F.tk]
 have l:=looks_find (M:=model prog w) b J hf;have L4:=looks_mroIn (M:=model prog w) b F.bex;unfold getAttr? getAttrBy? getAttrBy;refine aa (wpAny_mkText (aa (i6 (bH (aa (c.at (aa (e.at ?_))))))));show wpAny _ _ (if(C2 (.ref C)&&(iE "BaseException.__getattribute__"==iE "object.__getattribute__"))=true then _ else _) _ _ _;rw[ga_ne,dh,if_neg ao];unfold getAttrByItsOwn hookBefore;rw[if_pos (show C2 (.ref C)=true from rfl)];refine aa (f.at ?_);unfold callGetattribute boundAndCalled;rw[cT,if_neg ao];refine aa (i6 (bH (aa ?_)));rw[fY.ga.bind (.ref a)];refine aj (iA (Iq (s:=⟨j,g,d,t+1,k⟩) b J F ?_));exact handed_on rfl (aj h)
end
@[reducible]def bmV:List Value:=[.type "ValueError",.type "Exception",.type "BaseException",.type "object"]
abbrev pS(a:Addr)(c:Value)(d:Option Addr):HO:=.ext fun h=>∃o,h.get? a=some o/\o.cls=c/\o.dict=d/\notCls o=true
section
variable {a C:Addr}
def LD(F:w6 K C):KitX K (.ref a) (.ref C) (fun h=>∃o od,InstAt h a o C od) where
 ty:=fun M h _ p=>by obtain⟨o,od,J⟩:=p;exact J.type
 it:=fun M h c _=>by
  obtain⟨cd,b⟩:=cg.mp F.isc;unfold clsIn at b;split at b;·rename_i ho;intro A Q E s k q;unfold isType loadHead;exact aa (IB (k _ _ (c _ _ ho)) (aj q))
  ·cases b
 ne:=fun h tp e f n g c d=>by
  obtain⟨cd,b⟩:=cg.mp F.isc;refine Bool.eq_false_iff.mpr fun q=>?_;obtain rfl:C=tp:=bz.inj (beq_iff_eq.mp q);unfold clsIn at b;split at b;·rename_i ho;have z:=(c _ _ ho).symm.trans d;cases z
  ·cases b
 ca:=fun c p k=>by obtain⟨o,od,J⟩:=p;exact HW c J F k
def Et(ok:HOk P w H h)(e:H a=some (pS a (.ref C) d))(i:∀dd,d=some dd->∃k,H dd=some (.ext k)):∃o od,InstAt h a o C od:=by
 obtain⟨⟨o,b,c,f,g⟩,_⟩:=ok a _ e;cases d with
 |none=>exact⟨o,none,b,c,g,by rw[f];exact True.intro⟩
 |some dd=>obtain⟨u,j⟩:=i dd rfl;obtain⟨od,z⟩:=(ok dd _ j).2.1;exact⟨o,some od,b,c,g,by rw[f];exact z⟩
end
section
def exc_obj{newId:String}(a:K.In h)(q:excIn K C bmB newId=true):
  ∃nm p N bs bm o sn sub ab col dd k0 k1 k2 k3 k5 mN,h.get? C=some (jr nm p C N bs bm o sn sub ab col dd k0 k1 k2 k3 k5 newId)/\h.Ns N mN/\mN "__init__"=none/\OwnTail h bmB bm:=by
 unfold excIn at q;split at q
 case h_2=>cases q
 rename_i od cd sl ho;split at q
 case h_2=>cases q
 rename_i C' bm j0 j1 j2 j3 n j5 hm hs;rw[az,az,az,az,az,beq_iff_eq,beq_iff_eq,beq_iff_eq]at q;obtain⟨⟨⟨⟨⟨e,f⟩,g⟩,i⟩,b⟩,j⟩:=q;subst e;subst f;obtain⟨r,t,d,u,v,w,x,y,z,s,c⟩:=cd;have k:d=.ref C'::bm:=hm;have l:c=false:=by simpa using g
 have m:sl= #[j0,j1,j2,j3,some (.builtin n),j5]:=by
  apply AQ
  exact hs
 subst k;subst l;subst m;exact⟨_,_,_,_,_,_,_,_,_,_,_,_,_,_,_,_,_,a _ _ ho,.of_isNs (isNs_of_in a b),nsMap_none_of_in a b j,tail_of_in a i⟩
def Kt{x:Str}{b:List Expr}{t:TA}{E:St->XK}(y:Gl X x)(F:X.mg x=some (.ref C))(A:keepIn X.K (.ref C)=true)(hq:excIn X.K C bmV "ValueError.__new__"=true)(n:PA X (e::b) t)(p:X.calm=true)(w:(x==("__debug__":Str))=false)
  (K:bh (e::b) X.env=(false,eval e X.env)::bh b X.env)(J:(backTo bo (bh b X.env)).any (·.1)=false)
  (M:∀pins σ H s a c args h',Inv X pins σ H s->qO s.heap h' a c args->E σ c none H->X.xe (.ref a) {s with heap:=h'}):
  PS X (.Raise (some (.Call (.Name x np) (e::b) [] bo)) none pos) (fun D σ H=>t σ H fun vs H1=>vs.length<=sizeLine/\E σ (.ref C) none H1):=by
 intro pins s σ H D I h;obtain⟨nm,k,N,bs,bm,j,sn,sub,ab,col,dd,k0,k1,k2,k3,k5,R,l,m,G,T⟩:=exc_obj (bmB:=bmV) I.mod.kin hq;have o:bm.contains (.type "BaseException")=true:=T.hasType (by decide+kernel);rw[arm_exec_Raise];show wpAny _ _ (do AB pos;raiseStmt X.env (some (do let v<-eval (.Call (.Name x np) (e::b) [] bo) X.env;AB pos;pure v)) none) _ _ s;refine aa (gM (wpAny_raiseStmt_made_sub (C:=C) (nm:=nm) (q:=k) (N:=N) (bs:=bs) (bm:=bm) (hdct:=j) (sn:=sn) (sub:=sub) (ab:=ab) (col:=col) (dd:=dd) (k0:=k0) (k1:=k1) (k2:=k2) (k3:=k3) (k5:=k5) (newId:="ValueError.__new__") o (I.ok.hd p) (aa (cL (Q:=fun v d=>∃a u,v=.ref a/\d.heap.get? C=some (jr nm k C N bs bm j sn sub ab col dd k0 k1 k2 k3 k5 "ValueError.__new__")/\d.heap.get? a=some {cls:=.ref C,data:=.fields #[.ref u,.none,.none,.none,.bool false,.none]}/\X.xe (.ref a) d) (E:=X.xe) ?_ (fun v d z=>aa (gM (aj z))) fun _ _ z=>z))));refine eZ (mK I y F ?_ w);refine sF (h₀:=X.base) I.ok.mod.kin A (thn (n bo pins s σ H _ I h) fun U d ⟨vs,H1,f,r,B,q⟩=>⟨f.kIn,?_⟩) K J;have i:=f.bk _ _ l;obtain⟨P,O,dr,tk,S⟩:=d;refine wpAny_call_exc_subT (hrest:=by rw[yS,<-r.length];exact B) kJ (T.keeps f.bk) i (m.keeps f.bk) G fun h' a g=>?_;obtain⟨u,L,_,_⟩:=g.there;exact⟨a,u,rfl,g.keeps _ _ i,L,M pins σ H1 _ a _ _ h' f g q⟩
end
abbrev Cx.re(X:Cx)(A:Around)(calm:Bool)(pn:List (Addr×Obj))(xe:Value->Shared->Prop):Cx:={X with A:=A,calm:=calm,pn:=pn,xe:=xe}
section
variable {pins:List (Addr×Obj)}{s:Shared}
theorem Inv.re{calm:Bool}(I:Inv X pins σ H s)(a:A.frames=X.A.frames)(b:calm=true->A.handled=none)(hp:∀p∈pn++pins',p∈X.pn++pins):
  Inv (X.re A calm pn xe) pins' σ H s:=
 ⟨⟨I.ok.mod,I.ok.kind,I.ok.glob,I.ok.blt,I.ok.above,I.ok.inj,I.ok.has,I.ok.cab,b,a.trans I.ok.frames,I.ok.stk,I.ok.exf,I.ok.bs,I.ok.bsz,I.ok.noex,I.ok.exfs,I.ok.wx,I.ok.frf⟩,
  I.os,I.bare,I.base,I.loc,I.cell,I.free,I.freeC,fun p q=>I.pin p (hp p q),I.hok,I.len⟩
def Inv.Jj{calm:Bool}(ok:X.Ok)(I:Inv (X.re A calm pn xe) pins' σ H s)(hp:∀p∈X.pn++pins,p∈pn++pins'):Inv X pins σ H s:=
 ⟨ok,I.os,I.bare,I.base,I.loc,I.cell,I.free,I.freeC,fun p q=>I.pin p (hp p q),I.hok,I.len⟩
def pd{M:Model}{n:Str}{Q:Unit->Shared->Prop}(I:Inv X pins σ H s)(B:X.N.Nodup)(hi:X.N[i]? =some n)(F:X.env.scope.names.lookup n=some .local)
  (h:∀s',Inv X pins (σ.set i none) H s'->Q () s'):wpAny M A (do bindName X.env n .none;unbindBehindTheSuite X.env n pos) Q E s:=by
 obtain⟨m,u,G⟩:=id I.loc;have D:(X.env.scope.kind== .class||(X.env.scope.kind== .module&&X.env.locals != X.env.globals))=false:=by rw[I.ok.kind];rfl
 obtain⟨V,_,_,U,_⟩:=id u;refine wpAny_nameGoes_keeps F u D fun T v J a=>h _ ?_;have t:∀b o,X.s₀.heap.get? b=some o->b≠X.env.locals:=fun b o e=>aK (aT (ay e) I.ok.above);refine⟨I.ok,I.os,I.bare,⟨fun b o e n r l=>(a.2 b (t b o e)).trans (I.base.keep b o e n r l),fun b o e n r l=>?_,I.base.free,fun b o e l=>?_,I.base.tups,I.base.frzs,I.base.tbls⟩,⟨_,J,fun j y S f g x=>?_⟩,fun y c e=>?_,I.free,I.freeC,fun p hp=>?_,fun b N e=>?_,by simpa using I.len⟩;·obtain⟨P,f⟩:=I.base.slot b o e n r l;exact⟨P,(a.2 b (t b o e)).trans f⟩
 ·obtain⟨L,f⟩:=I.base.there b o e l;exact⟨L,(a.2 b (t b o e)).trans f⟩
 ·by_cases hj:j=i
  ·subst hj;rw[List.getElem?_set]at g;split at g;·split at g<;>cases g
   ·exact absurd rfl (by assumption)
  ·rw[qM (bE hj)]at g;obtain⟨R,O,q⟩:=G j y S f g x;refine⟨R,O,?_⟩;rcases q with⟨k,e⟩ |⟨k,c,e,z⟩;·refine .inl ⟨k,?_⟩;have :y≠n:=fun e=>hj (vR B f (e▸hi));simp[this,e]
   ·exact .inr ⟨k,c,e,z.sameBut a (I.cne y c e)⟩
 ·obtain⟨w,z⟩:=I.cell y c e;exact⟨w,z.sameBut a (I.cne y c e)⟩
 ·obtain⟨e,n,ne,K,d⟩:=I.pin p hp;exact⟨(a.2 p.1 ne).trans e,n,ne,K,d⟩
 ·refine(I.hok b N e).sR (fun c w C q=>(a.2 c ?_).trans q) (fun _ q=>q) fun _ _ q=>q;have hf:=I.free;rintro rfl;rcases C with z|z;·rw[<-z,hf]at e;cases e
  ·rw[hf]at z;cases z
def Inv.take{c:Value}(I:Inv X pins σ H s)(J:X.ex=[])(F:Fly X.s₀.heap s.heap H (X.pn++pins) a c d):Inv X pins σ (upd H a (pS a c d)) s:=by
 obtain⟨⟨T,l,M,K,L,i,v,w,j,_⟩,y,f,hp⟩:=F;obtain⟨C,D⟩:=I.vH i j;refine⟨I.ok,I.os,I.bare,⟨I.base.keep,I.base.slot,fun b o e n h=>?_,I.base.there,fun b m e=>?_,fun b o u e=>?_,fun b B e=>?_⟩,I.loc,I.cell,?_,fun x g e=>?_,fun p q=>?_,fun b u e=>?_,I.len⟩;·rw[aW (fun z=>by rw[z,y]at e;cases e)];exact I.base.free b o e n h
 ·have q:=I.base.tups b m e;rw[aW (bI q f)];exact q
 ·have q:=I.base.frzs b o u e;rw[aW (bI q f)];exact q
 ·obtain⟨more,q⟩:=I.base.tbls b B e;exact⟨more,by rw[aW (bI q f)];exact q⟩
 ·rw[aW (bE C)];exact I.free
 ·rw[aW (D x g e)];exact I.freeC x g e
 ·obtain⟨e,n,ne,A,d⟩:=I.pin p q;exact⟨e,by rw[aW (hp p q)];exact n,ne,A,d⟩
 ·by_cases h:b=a;·subst h;rw[aq]at e;cases e;refine⟨⟨l,i,v,w,by unfold notCls;rw[j]⟩,⟨l,i⟩,fun E G p k=>?_⟩;obtain⟨o,t,r⟩:=p;exact⟨o,k o t,r⟩
  ·rw[aW h]at e;exact(I.hok b u e).sR (fun _ _ _ q=>q) (fun g q=>by rw[aW (bI q f)];exact q) fun g m q=>by rw[aW (bI q f)];exact q
end
abbrev Ends.drop(D:Ends)(i:Nat):Ends:={nx:=fun σ H=>D.nx (σ.set i none) H,rt:=D.rt,bk:=fun σ H=>D.bk (σ.set i none) H,ct:=fun σ H=>D.ct (σ.set i none) H}
def ll(K:ah)(C:Addr)(i:Nat)(ts:TS)(D:Ends):St->XK:=fun σ c d H=>
 c=c/\exmOne K c (.ref C)=some true/\∀a,H a=none->ts (D.drop i) (σ.set i (some (.ref a))) (upd H a (pS a c d))
def jW(X:Cx)(pins:List (Addr×Obj))(D:Ends)(a:List ExceptHandler):Value->Shared->Prop:=fun e b=>
 wpAny (model X.prog X.w) X.A (ng e X.env) (fun _ s2=>wpAny (model X.prog X.w) X.A (C1 e none) (fun _ s3=>wpAny (model X.prog X.w) X.A (handleBy e X.env a) (SP X pins D) X.xe s3) X.xe s2) X.xe b
section
variable {pins:List (Addr×Obj)}{s:Shared}{x n:Str}{C:Addr}{b₀:Stmt}{suite:List Stmt}{hpos:Pos}{ts:TS}{D:Ends}
structure CZ(X:Cx)(x n:Str)(C:Addr)(i:Nat)(suite:List Stmt)(ts:TS):Prop where
 nd:X.N.Nodup
 at_:X.N[i]? =some n
 loc:X.env.scope.names.lookup n=some .local
 gl:Gl X x
 mg:X.mg x=some (.ref C)
 db:(x==("__debug__":Str))=false
 stk:X.stack=X.env::X.outer
 fr:X.env.frame=some X.env.locals
 ex:X.ex=[]
 su:∀(pins:List (Addr×Obj))(a:Addr),PSs (X.re (X.A.mark (some (.ref a))) false (X.pn++pins) (fun _ _=>False)) suite ts
def tJ{c:Value}(O:CZ X x n C i (b₀::suite) ts)(I:Inv X pins σ H s)(F:Fly X.s₀.heap s.heap H (X.pn++pins) a c d)(h:ll X.K C i ts D σ c d H):
  wpAny (model X.prog X.w) X.A (handleBy (.ref a) X.env [.ExceptHandler (some (.Name x np)) (some n) (b₀::suite) hpos]) (SP X pins D) X.xe s:=by
 obtain⟨_,hm,hk⟩:=h;obtain⟨⟨T,oe,vs,oT,tv,o,t,Y,G,w,E,m,l,y,K,A,L⟩,a0,B,hp⟩:=F;refine wpAny_handleBy_cons (codeAny_handlers_test ?_) (by intro q;cases q);have Q:Inv (X.re (X.A.mark (some (.ref a))) false (X.pn++pins) (fun _ _=>False)) [] σ H s:=I.re rfl (fun z=>nomatch z) fun p q=>by simpa using q
 refine mK Q O.gl O.mg ?_ O.db;have W:Looks (model X.prog X.w) s.heap (typeOf (.ref a)) c:=t▸(Looks.ld o).andThen .now;refine(exm_one I.kIn W hm).here (codeAny_handlers_suite_as ?_);refine wpAny_setFlight_none o G w m l (cq.mp y).1 ?_;obtain⟨a1,a2⟩:=I.vH m l;have R:=I.uQ (t':=s.toks) (h':=s.heap.update T (fz (·.setIfInBounds 3 .none))) (fun a3 a4 Z e=>by rw[aN _ _ (bE Z)];exact e) A a1 K a2 L;have P:Fly X.s₀.heap (s.heap.update T (fz (·.setIfInBounds 3 .none))) H (X.pn++pins) a c d:=by refine⟨⟨T,oe,vs,_,_,by rw[aN _ _ E];exact o,t,Y,G,w,E,bP _ m (jF (eW l _)),eW l _,?_,K,A,L⟩,a0,B,hp⟩;rw[qk (cq.mp y).1]
 have S:=R.take O.ex P;refine vq S O.nd O.at_ (.inl O.loc) (v:=.ref a) rfl (fun M U=>?_) (.inr O.loc);have V:Inv (X.re (X.A.mark (some (.ref a))) false (X.pn++pins) (fun _ _=>False)) [] (σ.set i (some (.ref a))) (upd H a (pS a c d)) M:=U.re rfl (fun z=>nomatch z) fun p q=>by simpa using q
 refine cL (O.su pins a [] M _ _ (D.drop i) V (hk a B)) (fun f N q=>?_) fun _ _ z=>z.elim;have k:∀{j:St}{b:Hp},Inv (X.re (X.A.mark (some (.ref a))) false (X.pn++pins) (fun _ _=>False)) [] j b N->Inv X pins j b N:=fun{j b} J=>J.Jj I.ok fun p q=>by simpa using q
 cases f with
 |next =>obtain⟨j,b,J,q⟩:=q;exact pd (k J) O.nd O.at_ O.loc fun r g=>⟨_,_,g,q⟩
 |brk=>obtain⟨j,b,J,q⟩:=q;exact pd (k J) O.nd O.at_ O.loc fun r g=>⟨_,_,g,q⟩
 |cont=>obtain⟨j,b,J,q⟩:=q;exact pd (k J) O.nd O.at_ O.loc fun r g=>⟨_,_,g,q⟩
 |ret u=>obtain⟨v,j,b,J,rv,q⟩:=q;exact pd (k J) O.nd O.at_ O.loc fun r g=>⟨v,_,_,g,rv,q⟩
def Jl(O:CZ X x n C i (b₀::suite) ts){e:Value}(ok:X.Ok)(m:X.calm=true)
  (I:Inv (X.re X.A X.calm (X.pn++pins) (jW X pins D [.ExceptHandler (some (.Name x np)) (some n) (b₀::suite) hpos])) pins' σ H s)(h:CXx X.prog X.w X.stack H s (ll X.K C i ts D σ) e s'):
  jW X pins D [.ExceptHandler (some (.Name x np)) (some n) (b₀::suite) hpos] e s':=by
 obtain⟨a,c,d,l,rfl,j,g,u,k,F,q⟩:=h;have J:Inv X pins σ H s:=I.Jj ok fun p z=>cz _ z;exact BD J O.stk O.fr O.ex j g u k F fun o f b=>tJ O f b q
def Jm(O:CZ X x n C i (b₀::suite) ts){c:Value}(ok:X.Ok)
  (I:Inv (X.re X.A X.calm (X.pn++pins) (jW X pins D [.ExceptHandler (some (.Name x np)) (some n) (b₀::suite) hpos])) pins' σ H s)(e:qO s.heap h' a c args)(h:ll X.K C i ts D σ c none H):
  jW X pins D [.ExceptHandler (some (.Name x np)) (some n) (b₀::suite) hpos] (.ref a) {s with heap:=h'}:=by
 have J:Inv X pins σ H s:=I.Jj ok fun p z=>cz _ z;exact BC J O.stk O.fr O.ex e fun f d b=>tJ O d b h
def ps_try{g:List Stmt}{tb:Ends->TS}(j:∀pins D,X.Ok->PSs (X.re X.A X.calm (X.pn++pins) (jW X pins D [.ExceptHandler (some (.Name x np)) (some n) (b₀::suite) hpos])) g (tb D)):
  PS X (.Try g [.ExceptHandler (some (.Name x np)) (some n) (b₀::suite) hpos] [] [] pos) (fun D σ H=>tb D D σ H):=by
 intro pins s σ H D I h;have i:Inv (X.re X.A X.calm (X.pn++pins) (jW X pins D [.ExceptHandler (some (.Name x np)) (some n) (b₀::suite) hpos])) [] σ H s:=I.re rfl I.ok.hd fun p q=>by simpa using q
 refine wpAny_Try_except (cL (j pins D I.ok [] s σ H D i h) (fun f d q=>?_) fun e d q=>q);have c:∀{b:St}{a:Hp},Inv (X.re X.A X.calm (X.pn++pins) (jW X pins D [.ExceptHandler (some (.Name x np)) (some n) (b₀::suite) hpos])) [] b a d->Inv X pins b a d:=fun{b a} J=>J.Jj I.ok fun p q=>by simpa using q
 cases f with
 |next =>obtain⟨b,a,J,q⟩:=q;exact zv pins d b a D (c J) q
 |brk=>obtain⟨b,a,J,q⟩:=q;exact⟨_,_,c J,q⟩
 |cont=>obtain⟨b,a,J,q⟩:=q;exact⟨_,_,c J,q⟩
 |ret u=>obtain⟨v,b,a,J,k,q⟩:=q;exact⟨v,_,_,c J,k,q⟩
end
noncomputable abbrev XS:=St->XK
noncomputable abbrev N0:XS:=fun _=>E0
def yQ(CX:CXT)(X:Cx)(E:XS):Prop:=∀(pins:List (Addr×Obj))(σ:St)(H:Hp)(s:Shared)(e:Value)(s':Shared),Inv X pins σ H s->CX X.stack H s (E σ) e s'->X.xe e s'
def MadeS(X:Cx)(E:XS):Prop:=∀(pins:List (Addr×Obj))(σ:St)(H:Hp)(s:Shared)(a:Addr)(c:Value)(args:List Value)(h':Heap),Inv X pins σ H s->qO s.heap h' a c args->E σ c none H->X.xe (.ref a) {s with heap:=h'}
section
variable {CX:CXT}{f:Addr}{fd:fg}{ps:List Str}{sp:Sp}{ds:List Value}{E:XS}{x:Str}{p:Pos}{es:List Expr}{t:TA}
def Ff{Q:VK}{vs:List V}(F:jm X.prog X.w X.K X.mg X.base CX k f fd ps sp)(g:i5 k X.A)(b:Binds X.K fd ps ds)(c:bG am ds)(i:yQ CX X E)
  (I:Inv X pins σ H s)(r:bG vs us)(h:sp (vs++am) H Q (E σ)):wpAny (model X.prog X.w) X.A (call (.ref f) us) (EP X pins σ Q) X.xe s:=by
 have a:bG (vs++am) (us++ds):=r.append c;have d:(us++ds).length=ps.length:=a.length.symm.trans (F.len _ _ _ _ h);refine iA (jO (F.run X.A X.stack s H ⟨us,[]⟩ (us++ds) (vs++am) Q (E σ) g I.env0 (b s us I.kIn d) a h) fun r j hq=>?_);cases r with
 |error e=>exact i pins σ H s e j I hq
 |ok fl=>cases fl<;>first |exact I.after hq|exact gL hq
def KR(F:jm X.prog X.w X.K X.mg X.base CX k f fd ps sp)(o:i5 k X.A)(j:Gl X x)(m:X.mg x=some (.ref f))(l:b7 X.K (.ref f)=true)(c:Binds X.K fd ps ds)(d:bG am ds)(u:yQ CX X E)
  (b:PA X (e::es) t)(g:(x==("__debug__":Str))=false)(i:bh (e::es) X.env=(false,eval e X.env)::bh es X.env)(n:(backTo pos (bh es X.env)).any (·.1)=false):
  PE X (.Call (.Name x p) (e::es) [] pos) (fun σ H Q=>A5 sp am (E σ) t σ H Q):=by
 intro v s σ H Q I h;refine eZ (mK I j m ?_ g);exact sF (h₀:=X.base) I.ok.mod.kin l (thn (b pos v s σ H _ I h) fun z y ⟨A,w,a,r,q⟩=>⟨a.kIn,Ff F o c d u a r q⟩) i n
def Ho(F:jm X.prog X.w X.K X.mg X.base CX k f fd ps sp)(i:i5 k X.A)(d:Gl X x)(g:X.mg x=some (.ref f))(e:b7 X.K (.ref f)=true)(a:Binds X.K fd ps ds)(b:bG am ds)(j:yQ CX X E)
  (c:(x==("__debug__":Str))=false):PE X (.Call (.Name x p) [] [] pos) (fun σ H Q=>A5 sp am (E σ) vm σ H Q):=by
 intro l s σ H Q I h;refine eZ (mK I d g ?_ c);exact PySem.W.callWith_K0 I.kIn e (Ff (us:=[]) F i a b j I .nil h)
end
section
variable {mg:Str->Option Value}
def Io{cd:Value}{outer:List Env}{E:XK}:
  yQ (CXx P w) (Ai (CXx P w) P w K mg base N qual scope f cd A outer s H E) (fun _=>E):=by
 intro R W Q U e S I h;obtain⟨a,c,d,i,rfl,D,C,u,G,F,q⟩:=h;show wpAny _ _ (leaving _ _) _ _ _;unfold leaving;refine aa (BD I rfl rfl rfl D C u G F fun V b g=>?_);obtain⟨⟨T,L,O,J,M,l,o,p,r,t,v,x,y,B,m,n,_⟩,j,k,_⟩:=g;exact⟨a,c,d,i,rfl,b.os,b.bare,b.base,b.hok,⟨⟨T,L,O,J,M,l,o,p,r,t,v,x,y,B,m,n,fun _ z=>nomatch z⟩,j,k,fun _ z=>nomatch z⟩,q⟩
def Ip{cd:Value}{outer:List Env}{E:XK}:
  MadeS (Ai (CXx P w) P w K mg base N qual scope f cd A outer s H E) (fun _=>E):=by
 intro G M e J a c D F I v q;show wpAny _ _ (leaving _ _) _ _ _;unfold leaving;refine aa (BC I rfl rfl rfl v fun L b d=>?_);obtain⟨⟨T,y,C,x,B,i,l,m,n,o,p,r,t,u,j,k,_⟩,g,h,_⟩:=d;exact⟨a,c,none,e,rfl,b.os,b.bare,b.base,b.hok,⟨⟨T,y,C,x,B,i,l,m,n,o,p,r,t,u,j,k,fun _ z=>nomatch z⟩,g,h,fun _ z=>nomatch z⟩,q⟩
def HY{o:List Env}{e:Value}(h:CXx P w o H s E0 e s'):False:=by obtain⟨_,_,_,_,_,_,_,_,_,_,q⟩:=h;exact q
def jm.calm{a:fg}{sp:Sp}(F:jm P w K mg base (CXx P w) k f a ps sp):jm P w K mg base CX0 k f a ps (fun vs H Q _=>sp vs H Q E0):=
 ⟨fun vs H Q E h=>F.len vs H Q E0 h,fun A l s H b m vs Q E g d c j i=>jO (F.run A l s H b m vs Q E0 g d c j i) fun r n q=>by
  cases r with
  |error e=>exact HY q
  |ok fl=>cases fl<;>exact q⟩
end
end L2
namespace Q
open PySem PySem.Spec PySem.W PyProof.Rows L2
abbrev gC(lt:Nat->Nat->Bool)(vs:List Value):List Value:=if vs.length<2 then vs else(run lt (dQ vs.length)).toList.map fun i=>vs.getD i .none
def Iz(prog:Program)(w:World)(A:Around)(lt:Nat->Nat->Bool)(vs:List Value)(h0:Heap):Prop:=
 ∀a:Shared,(∀b o,h0.get? b=some o->a.heap.get? b=some o)->
  ∃κ,(∀(c:SortKind->Shared->Prop)(d:Value->Shared->Prop),c κ a->wpAny (model prog w) A (keyKind' vs.toArray) c d a)/\
   ∀i j (C:Bool->Shared->Prop),i<vs.length->j<vs.length->i≠j->C (lt i j) a->kas_ask prog w A κ vs i j C a
section
variable {E:Value->Shared->Prop}{s:Shared}{lt:Nat->Nat->Bool}{vs:List Value}
def fU(h:n<64):n<=sizeLine:=by rw[pE];lia
def Fc(h:n<64):n<=sizeLine+1:=fu (fU h)
def Fb{P:dG->Shared->Prop}(T:Tot lt vs.length)(r:s.heap.get? a=some (seqObj "list" vs.toArray n))(k0:∀b o,h0.get? b=some o->s.heap.get? b=some o/\b≠a)(g:vs.length<64)
  (ask:2<=vs.length->Iz prog w A lt vs h0)(h:P (.done (.ret .none)) {s with heap:=sortedHeap s.heap a vs (gC lt vs).toArray}):wpAny (model prog w) A (Builtin.«list.sort» ⟨[.ref a],[]⟩) P E s:=by
 have f:vs.toArray.size=vs.length:=by simp
 obtain⟨c,v⟩:∃c,(s.heap.update a (aZ fun _=> #[])).get? a=some (seqObj "list" #[] c):=⟨_,sI r _⟩;have l:(((s.heap.update a (aZ fun _=> #[])).push (seqObj "tuple" vs.toArray 0)).push (seqObj "list" #[] 0)).get? a=some (seqObj "list" #[] c):=ag _ (ag _ v);have N:∀b o,h0.get? b=some o->(((s.heap.update a (aZ fun _=> #[])).push (seqObj "tuple" vs.toArray 0)).push (seqObj "list" #[] 0)).get? b=some o:=fun b o e=>
  ag _ (ag _ ((aN _ _ (bE (k0 b o e).2)).trans (k0 b o e).1))
 rw[list_sort_plain];refine aa (listItems_at r rfl (aa (fP r rfl ?_ (by rw[f];exact fU g) (aM _))));refine aa (uN v rfl (aa (wpAny_newTuple ?_ (show vs.length<=_ from fU g))));refine aa (pM (bH ?_) (aM _));by_cases hn:vs.length<2
 ·have e:gC lt vs=vs:=if_pos hn;rw[e]at h;dsimp only;rw[if_pos (by rw[f];exact hn),if_pos (by rw[f];exact hn)];refine aa (aj (aa ?_));rw[StateT.run_pure];refine aj (aa (uN l rfl (aa (fP l rfl ?_ (aM _) ?_))))
  ·have q:(arrOf (SortSt.mk' general' (vs.toArray.zip vs.toArray) #[] 7 none)).map (·.2)=vs.toArray:=by show(vs.toArray.zip vs.toArray).map (·.2)=vs.toArray;apply AQ;simp[nv]
   rw[q];have k:failedOf ((),SortSt.mk' general' (vs.toArray.zip vs.toArray) #[] 7 none).snd=none:=rfl;rw[k];simp only[bne_self_eq_false,aX,if_false];exact aj h
  ·show((vs.toArray.zip vs.toArray).map (·.2)).size<=_;rw[Array.size_map,Array.size_zip,f,Nat.min_self];exact fu (fU g)
 ·have u:2<=vs.length:=by lia
  have e:gC lt vs=(run lt (dQ vs.length)).toList.map fun i=>vs.getD i .none:=if_neg hn;rw[e]at h;dsimp only;rw[if_neg (by rw[f];exact hn),if_neg (by rw[f];exact hn)];obtain⟨κ,J,K⟩:=ask u {s with heap:=((s.heap.update a (aZ fun _=> #[])).push (seqObj "tuple" vs.toArray 0)).push (seqObj "list" #[] 0)} N;obtain⟨y,R,x⟩:=fN T (by lia:1<=vs.length);refine aa (J _ _ (aa ?_));have O:=kat_run (prog:=prog) (w:=w) (A:=A) (E:=E) (κ:=κ) (ks:=vs) (vs:=vs) (s:={s with heap:=((s.heap.update a (aZ fun _=> #[])).push (seqObj "tuple" vs.toArray 0)).push (seqObj "list" #[] 0)})
   (Q:=fun m d=>d={s with heap:=((s.heap.update a (aZ fun _=> #[])).push (seqObj "tuple" vs.toArray 0)).push (seqObj "list" #[] 0)}/\arrOf m=(run lt (dQ vs.length)).map (kas_item (vs.toArray.zip vs.toArray))/\failedOf m=none)
   (G:=fun p d=>d={s with heap:=((s.heap.update a (aZ fun _=> #[])).push (seqObj "tuple" vs.toArray 0)).push (seqObj "list" #[] 0)}/\p=run lt (dQ vs.length)) rfl u g
   (fun p m d _ B q k=>⟨k.1,by rw[B,k.2],q⟩)
   (wp_run (S:=fun d=>d={s with heap:=((s.heap.update a (aZ fun _=> #[])).push (seqObj "tuple" vs.toArray 0)).push (seqObj "list" #[] 0)}) (fun i j C d hi I H t D=>by subst t;exact K i j C hi I H (D _ rfl)) _ _ x rfl fun d t=>⟨t,rfl⟩)
  refine cL O ?_ fun _ _ z=>z;rintro⟨⟨⟩,m⟩ d ⟨rfl,F,hf⟩;have M:=kat_snds (ks:=vs) (vs:=vs) rfl F;dsimp only;rw[M,hf];have L:(dX ((run lt (dQ vs.length)).toList.map fun i=>vs.getD i bL)).size<=sizeLine+1:=by rw[aw,ai,cm,y.size];exact fu (fU g)
  refine aa (uN l rfl (aa (fP l rfl ?_ (aM _) L)));simp only[bne_self_eq_false,aX,if_false];exact aj h
def xY{Q:Value->Shared->Prop}(T:Tot lt vs.length)(g:s.heap.IsList l vs.toArray)(a:vs.length<64)(ask:2<=vs.length->Iz prog w A.in1.in1 lt vs s.heap)
  (h:Q (.ref (s.heap.objs.size+1)) {s with heap:=sortedAll s.heap vs (gC lt vs).toArray}):wpAny (model prog w) A (call (.builtin "sorted") [.ref l]) Q E s:=by
 refine mr kind_sorted plain_sorted entry_sorted (args_sorted1 _) ?_;unfold Builtin.«sorted»;refine aa (m:=checkCount "sorted" 1 1 _) (aj (aa (collect_list g (aa (pM ?_ (show vs.length<=_ from fU a))) (fU a))));generalize hH:(s.heap.push (seqObj "list" #[] 0)).update s.heap.objs.size (aZ (·++vs.toArray))=h1;have d:h1.objs.size=s.heap.objs.size+1:=by rw[<-hH,nF,IE]
 have i:∀b o,s.heap.get? b=some o->h1.get? b=some o:=fun b o e=>by have f:=ay e;rw[<-hH,aN _ _ (eK f)];exact ag _ e
 have c:(h1.push (seqObj "list" vs.toArray 0)).get? (s.heap.objs.size+1)=some (seqObj "list" vs.toArray 0):=by rw[<-d];exact ax _ rfl
 have hq:sortedAll s.heap vs (gC lt vs).toArray=sortedHeap (h1.push (seqObj "list" vs.toArray 0)) (s.heap.objs.size+1) vs (gC lt vs).toArray:=by rw[<-hH];rfl
 rw[hq]at h;show wpAny _ _ _ _ _ {s with heap:=h1.push (seqObj "list" vs.toArray 0)};rw[d];refine aa (bH (cK ID ⟨_,c,rfl⟩ ET (Fb T c (fun b o e=>⟨ag _ (i b o e),aK (bM (ay e))⟩) a ask ⟨_,rfl,?_⟩) (args_list_sort _)));exact aj ⟨_,rfl,h⟩
end
abbrev tlt(x y:Str):Bool:=decide (x.cps.toList<y.cps.toList)
abbrev nX(ks:List Str)(i j:Nat):Bool:=tlt (ks.getD i "") (ks.getD j "")
abbrev ord(ks:List Str):List Nat:=if ks.length<2 then aE ks.length else(run (nX ks) (dQ ks.length)).toList
abbrev sortBy{α:Type}(d:α)(ks:List Str)(ys:List α):List α:=(ord ks).map fun i=>ys.getD i d
def str_ext{x y:Str}(h:x.cps.toList=y.cps.toList):x=y:=by obtain⟨a⟩:=x;obtain⟨b⟩:=y;have :a=b:=Array.toList_inj.mp h;rw[this]
def xU{x y:Str}(a:tlt x y=true)(b:tlt y z=true):tlt x z=true:=by unfold tlt at *;rw[decide_eq_true_eq]at *;exact List.lt_trans a b
def tlt_tri{x y:Str}(h:x≠y):tlt x y= !tlt y x:=by
 unfold tlt;by_cases c:x.cps.toList<y.cps.toList;·have d:¬y.cps.toList<x.cps.toList:=fun z=>List.lt_irrefl _ (List.lt_trans c z);rw[decide_eq_true c,decide_eq_false d];rfl
 ·by_cases d:y.cps.toList<x.cps.toList;·rw[decide_eq_false c,decide_eq_true d];rfl
  ·exact absurd (str_ext (List.le_antisymm (List.not_lt.mp d) (List.not_lt.mp c))) h
def vj(nd:ks.Nodup):Tot (nX ks) ks.length where
 tri:=fun i j hi c h=>tlt_tri fun e=>h (by rw[af,af,ae hi,ae c]at e;exact(fL nd).mp e)
 tr:=fun i j k _ _ _ a b=>xU a b
def ord_len(ks:List Str)(nd:ks.Nodup):(ord ks).length=ks.length:=by
 unfold ord;split;·simp
 ·rw[cm,(fN (vj nd) (by lia)).1.size]
theorem K1(nd:ks.Nodup)(f:ks.length=ys.length)(r:bG ys vs):bG (sortBy .non ks ys) (gC (nX ks) vs):=by
 have o:=r.length;have e:vs.length=ks.length:=by lia
 unfold gC sortBy ord;rw[e];by_cases c:ks.length<2
 ·rw[if_pos c,if_pos c];have a:(aE ks.length).map (fun i=>ys.getD i V.non)=ys:=by
   rw[f];apply bR;·simp
   ·intro i n b;simp[b]
  rw[a];exact r
 ·rw[if_neg c,if_neg c];have P:=(fN (vj nd) (by lia)).1;have all:∀l:List Nat,(∀i∈l,i<ks.length)->bG (l.map fun i=>ys.getD i V.non) (l.map fun i=>vs.getD i bL):=by
   intro l
   induction l with
   |nil=>exact fun _=>.nil
   |cons i l ih=>
    intro h;have hi:i<ys.length:=by have :=h i (.head _);lia
    obtain⟨u,g,k⟩:=r.get (ae hi);refine .cons ?_ (ih fun j d=>h j (.tail _ d));show L2.RelV (ys.getD i V.non) (vs.getD i bL);rw[af,ae hi,af,g];exact k
  refine all _ fun i hi=>?_;have m:i∈(aE ks.length).toArray:=P.perm.mem_iff.mp (jQ.mp hi);simpa using m
def JE(r:AH vs ks)(hi:i<ks.length):∃t,vs.getD i .none=.str (ks.getD i "") t:=by
 induction r generalizing i with
 |nil=>exact absurd hi (dv _)
 |cons y t h ih=>
  cases i with
  |zero=>exact⟨t,rfl⟩
  |succ i=>exact ih (by simpa using hi)
def vp(r:AH vs ks):vs.length=ks.length:=by
 induction r with
 |nil=>rfl
 |cons y t h ih=>simp[ih]
section
def Iv(r:AH vs ks)(d:2<=vs.length):Iz prog w A (nX ks) vs h0:=by
 intro g _;refine⟨oneType',fun f e q=>?_,fun i j C hi a _ q=>?_⟩
 ·match vs,r,d with
  |v1::v2::rest,r,_=>rw[keyKind_strs r];exact aj q
 ·rw[vp r]at hi a;obtain⟨t,b⟩:=JE r hi;obtain⟨u,c⟩:=JE r a;unfold kas_ask;rw[b,c,keyLt'_oneType];exact oneLt_str q
end
def sA(H:Hp)(ys:List V)(ks:List Str):Prop:=Paired (fun v k=>∃a rest,v=V.ref a/\H a=some (.tup (V.str k::rest))) ys ks
theorem tU:∀{ys:List V}{ks:List Str},sA H ys ks->ks.length=ys.length
 |_,_,.nil=>rfl
 |_,_,.cons _ t=>by simp[tU t]
set_option maxHeartbeats 3200000
abbrev has(ad:List Key)(k:Key):Bool:=ad.any fun x=>decide (x=k)
def jI{a:List Key}{k:Key}:has a k=true↔k∈a:=by
 unfold has;rw[cw];constructor;·rintro⟨x,h,e⟩;rw[<-of_decide_eq_true e];exact h
 ·exact fun h=>⟨k,h,decide_eq_true rfl⟩
abbrev more(ad:List Key)(k:Key):List Key:=if has ad k=true then ad else ad++[k]
abbrev met(ks:List Key):List Key:=ks.foldl more []
def Lk(ks:List Key)(k:Key):met (ks++[k])=more (met ks) k:=by unfold met;rw[List.foldl_append];rfl
def BN{a:List Key}{k j:Key}:j∈more a k↔j∈a\/j=k:=by
 unfold more;split
 ·rename_i h;constructor;·exact .inl
  ·rintro(z|rfl);·exact z
   ·exact jI.mp h
 ·simp
def rE(a:List Key)(k:Key):(more a k).length=if has a k=true then a.length else a.length+1:=by unfold more;split <;>simp
def Ln(ks:List Key):(met ks).length<=ks.length:=by
 unfold met;have g:∀(l a:List Key),(l.foldl more a).length<=a.length+l.length:=by
  intro l
  induction l with
  |nil=>intro a;simp
  |cons k l ih=>intro a;have c:=ih (more a k);have b:=rE a k;rw[dO,ba];split at b<;>lia
 simpa using g ks []
def mI{ks:List Key}{k:Key}:k∈met ks↔k∈ks:=by
 unfold met;have g:∀(l a:List Key),k∈l.foldl more a↔k∈a\/k∈l:=by
  intro l
  induction l with
  |nil=>intro a;simp
  |cons j l ih=>intro a;rw[dO,ih,BN,aG,or_assoc]
 simpa using g ks []
def HF{ks:List Key}(h:ks.Nodup):met ks=ks:=by
 unfold met;have g:∀(l a:List Key),(a++l).Nodup->l.foldl more a=a++l:=by
  intro l
  induction l with
  |nil=>intro a _;simp
  |cons k l ih=>intro a b;have c:k∉a:=fun z=>(gB.mp b).2.2 k z k (.head _) rfl;have e:more a k=a++[k]:=if_neg fun z=>c (jI.mp z);rw[dO,e,ih (a++[k]) (by simpa using b)];simp
 simpa using g ks [] (by simpa using h)
def Hw(ks:List Key):(met ks).Nodup:=by
 unfold met;have g:∀(l d:List Key),d.Nodup->(l.foldl more d).Nodup:=by
  intro l
  induction l with
  |nil=>intro d h;exact h
  |cons k l ih=>
   intro d h;rw[dO];refine ih _ ?_;unfold more;split;·exact h
   ·rename_i c;refine gB.mpr ⟨h,by simp,fun a i b j e=>c ?_⟩;have f:b=k:=by simpa using j
    rw[<-f,<-e];exact jI.mpr i
 exact g ks [] jd
def zM{ks:List Key}(h:(met ks).length=ks.length):ks.Nodup:=by
 have s:∀(l d:List Key),(l.foldl more d).length<=d.length+l.length:=by
  intro l
  induction l with
  |nil=>intro d;simp
  |cons k l ih=>intro d;have m:=ih (more d k);have f:=rE d k;rw[dO,ba];split at f<;>lia
 have g:∀(l d:List Key),d.Nodup->(l.foldl more d).length=d.length+l.length->(d++l).Nodup:=by
  intro l
  induction l with
  |nil=>intro d h _;simpa using h
  |cons k l ih=>
   intro d q e;rw[dO,ba]at e;have m:=s l (more d k);have f:=rE d k;by_cases c:has d k=true;·rw[if_pos c]at f;lia
   ·rw[if_neg c]at f;have j:more d k=d++[k]:=if_neg c;rw[j]at e;have p:k∉d:=fun z=>c (jI.mpr z);have r:(d++[k]).Nodup:=gB.mpr ⟨q,by simp,fun a n b o e=>p (by
     have i:b=k:=by simpa using o
     rw[<-i,<-e];exact n)⟩
    have :=ih (d++[k]) r (by rw[aU,dR];lia);simpa using this
 simpa using g ks [] jd (by simpa[met]using h)
def met_one{ks:List Key}:(met ks).length<=1↔∀a∈ks,∀b∈ks,a=b:=by
 constructor
 ·intro h a f b g;have c:=mI.mpr f;have d:=mI.mpr g
  match e:met ks,h with
  | [],_=>rw[e]at c;cases c
  | [x],_=>rw[e]at c d;rw[aS.mp c,aS.mp d]
 ·intro h
  match e:met ks with
  | []=>simp
  | [x]=>simp
  |x::y::r=>have n:=Hw ks;rw[e]at n;have i:x∈ks:=mI.mp (by rw[e];exact .head _);have j:y∈ks:=mI.mp (by rw[e];exact .tail _ (.head _));have :=h x i y j;rw[this]at n;simp at n
noncomputable abbrev nj(led:Bool):Obj:={cls:=.type "set",dict:=none,data:=.set #[] 0 (.fresh 0 0 led)}
abbrev DH(a:Addr)(n:Nat):HO:=.ext fun h=>∃o es ep t,h.get? a=some o/\o.ExactSet/\o.data=.set es ep t/\es.size<fV/\t.fits es.size=true/\es.size=n
theorem zZ:∀{ks:List Key}{us:List Value},bG (ks.map kV) us->∀(i:Nat)(v:Value),us[i]? =some v->∃k,ks[i]? =some k/\RelV (kV k) v
 | [],_,.nil,i,v,e=>by simp at e
 |k::ks,_,.cons r t,0,v,e=>by simp at e;subst e;exact⟨k,rfl,r⟩
 |k::ks,_,.cons r t,i+1,v,e=>zZ t i v (by simpa using e)
def rSet(K:ah):List V->Hp->VK->Prop:=fun xs H Q=>∃p ks,xs=[V.ref p]/\SqL K H p (ks.map kV)/\ks.length<4000/\∀a,H a=none->Q (.ref a) (upd H a (DH a (met ks).length))
def xJ:fC X (.builtin "len") (fun xs H Q=>∃a n,xs=[V.ref a]/\H a=some (DH a n)/\Q (.int n) H):=by intro k s m H xs l Q I r h;obtain⟨a,n,rfl,e,q⟩:=h;obtain⟨u,rfl,i⟩:=vals1 r;cases i;obtain⟨⟨o,b,j,t,g,f,d,c,hf,rfl⟩,_⟩:=I.hok a _ e;refine call_len_set g f d hf (by have :b.size<4096:=c;lia) ?_;exact⟨.int b.size,H,I.tok _,⟨_,rfl⟩,q⟩
end Q
namespace L2
open PySem PySem.Spec PyProof.Rows
section
def Fq(K:ah):R2:=fun x y H Q=>∃a b ys,x=.ref a/\y=.ref b/\SqT K H a []/\SqT K H b ys/\Q (.ref b) H
def op_cat0:OpR X (eD .Add) (Fq X.K):=by intro K s N H x y v u Q I w z h;obtain⟨a,b,M,rfl,rfl,l,m,q⟩:=h;cases w;cases z;obtain⟨G,t,p,_⟩:=I.tuple l;obtain⟨J,L,r,_⟩:=I.tuple m;cases t;obtain⟨⟨C,j,E,A⟩,g,c,n,e⟩:=id p;obtain⟨⟨D,k,F,B⟩,i,d,o,f⟩:=id r;simp only at c e d f;subst c e d f;exact concat_meets ⟨_,g,rfl⟩ ⟨_,i,rfl⟩ C3 MQ nu mQ (mq _ _) (tuple_addW0 a b _ _ n o j k A B rfl) ⟨g,i,.ref b,H,I,rfl,q⟩
theorem yt(a b:Array Nat):∀k:Nat,((bj k a).foldl (·++·) b).size=b.size+k*a.size
 | 0=>by simp
 |k+1=>by rw[dM,dO,yt a (b++a) k,Array.size_append,IP];lia
def Ki:R2:=fun x y H Q=>∃(z:Str)(n:Int),x=.str z/\y=.int n/\2<=n/\n<=1000/\1<=z.length/\z.length<=1000/\Q (.str ⟨(bj n.toNat z.cps).foldl (·++·) #[]⟩) H
theorem op_repS:OpR X (eD .Mult) Ki:=by
 intro m s p H x y v u Q I f g h;obtain⟨z,n,rfl,rfl,i,j,k,d,q⟩:=h;obtain⟨t,rfl⟩:=f;obtain⟨o,rfl⟩:=g;have b:¬n<1:=by lia
 have c:(n==1||z.length==0)=false:=by rw[Bool.or_eq_false_iff];exact⟨by simp;lia,by simp;lia⟩
 have a:z.length*n.toNat<=1000*1000:=Nat.mul_le_mul d (by lia);have e:((n.toNat:Nat):Int)=n:=by lia
 have l:(z.length:Int)*n<=1000*1000:=by rw[<-e,<-Int.natCast_mul];exact Int.ofNat_le.mpr a
 refine P.mul_str (by rw[decide_eq_false (by lia),decide_eq_false (by lia)];rfl) (fun _ _=>?_) (fun _ _=>?_) ?_;·exact Int.not_lt.mpr (Int.le_ediv_of_mul_le (by lia) (by lia))
 ·exact decide_eq_false (Nat.not_lt.mpr (aF a (by decide)))
 ·rw[if_neg b,if_neg (by rw[c];exact ao)];refine⟨?_,.str _,H,I.tok _,⟨_,rfl⟩,q⟩;show((bj n.toNat z.cps).foldl (·++·) #[]).size<=_;rw[yt];exact aF (by rw[Nat.mul_comm];simpa[uP]using a) (by decide:1000*1000<=sizeLine)
end
end L2
set_option maxHeartbeats 1000000
namespace HT
open PySem PySem.Spec PyProof.Rows
section
variable {K:Type}[DecidableEq K]{knd:HeapKind prog w K}{s:Shared}{E:Value->Shared->Prop}
def setDef{d:Addr}{xs:List (K×Addr×Value)}{k:K}{v:Value}{Q:Value->Shared->Prop}(n:knd.room A)(h:knd.is s.heap k a)(B:s.heap.DictOfH knd d xs)
  (r:∀u,(atKey xs k).map (·.2)=some u->Q u {s with toks:=s.toks+knd.draws k})
  (t:atKey xs k=none->∀h',h'.DictOfH knd d (storedH xs k a v)->dm d s.heap h'->Q v {s with heap:=h',toks:=s.toks+knd.draws k})
  (G:xs.length<=sizeLine):wpAny (model prog w) A (IK d (.ref a) v) Q E s:=by
 obtain⟨o,F,q,c,z,b,g,l,i⟩:=B;unfold IK;refine bH ?_;refine aa (knd.pyHash n h ?_);refine aa (wpAny_dictFind_heap (s:={s with toks:=s.toks+knd.draws k}) n h c b g l i ?_ ?_)
 ·intro f;have C:k∉xs.map (·.1):=not_mem_keys_of_get f;refine aa (iy (aa (wpAny_updateDictKeys (hz:=by have e:=size_of_entries g;lia) (s:={s with toks:=s.toks+knd.draws k}) c b (aj (t (pH f) _ ⟨_,_,q+1,bP _ c (Obj.isFreed_of_dict (M0 b _)),
   z.mapDictKeys _,M0 b _,?_,?_,?_⟩ (bO ..))))))
  ·rw[storedH_new (pH f)];simp[g,entryOfKey]
  ·rw[storedH_new (pH f)];intro x hx;rcases cV.mp hx with hx|hx;·exact knd.keeps (l x hx) c b (bO ..)
   ·rw[aS.mp hx];exact knd.keeps h c b (bO ..)
  ·rw[storedH_new (pH f),cH,gB];refine⟨i,by simp,fun x hx y D e=>?_⟩;have :y=k:=by simpa using D
   exact C (by rw[<-this,<-e];exact hx)
 ·intro j p m;refine aa (wpAny_dictEntries (s:={s with toks:=s.toks+knd.draws k}) c b ?_);rw[entry_at g j,m];exact aa (iy (aj (r _ (by rw[atKey_of_get i m];rfl))))
variable(knd) in
def zW(d a:Addr)(g:(d==d9)=false)(b:Value):
  MeetsIn prog w (Builtin.«dict.setdefault» ⟨[.ref d,.ref a,b],[]⟩) (fun A R s=>knd.room A.in1/\∃k xs,knd.is s.heap k a/\s.heap.DictOfH knd d xs/\xs.length<=sizeLine/\
   (∀u,(atKey xs k).map (·.2)=some u->R (.ok (.ret u)) {s with toks:=s.toks+knd.draws k})/\
   (atKey xs k=none->∀h',h'.DictOfH knd d (storedH xs k a b)->dm d s.heap h'->R (.ok (.ret b)) {s with heap:=h',toks:=s.toks+knd.draws k})):=
 .of_wp fun A R s ⟨m,k,xs,h,c,o,e,f⟩=>by unfold Builtin.«dict.setdefault»;refine aa ?_;unfold Builtin.Dict.keyAndDefault;refine aa (wpAny_notOrdered_dict c.typeIs ?_);show wpAny _ _ (pure (d,bz a,some b)) _ _ s;refine aj ?_;show wpAny _ _ (if(d==d9)=true then _ else(IK d (.ref a) b>>=_)) _ _ s;rw[if_neg (by rw[g];exact ao)];exact aa (setDef m h c (fun v n=>aj ⟨v,rfl,e v n⟩) (fun j h' i l=>aj ⟨b,rfl,f j h' i l⟩) o)
end
end HT
namespace L2
open PySem PySem.Spec PyProof.Rows
section
variable {pins:List (Addr×Obj)}{s:Shared}{a b:Addr}{r:Value}{E:Value->Shared->Prop}{kvs:List (List Key×V)}{k:List Key}
def Mg{Q:Value->Shared->Prop}(K:A.units+1<cLine)(I:Inv X pins σ H s)(e:H a=some (.dT kvs))(i:H b=some (.tup (k.map kV)))(O:RelV v r)(S:kvs.length<sizeLine)
  (C:∀x g s',eN kvs k=some x->Inv X pins σ H s'->RelV x g->Q g s')(D:eN kvs k=none->∀s',Inv X pins σ (upd H a (.dT (putK kvs k v))) s'->Q r s'):
  wpAny (model X.prog X.w) A (call (.builtin "dict.setdefault") [.ref a,.ref b,r]) Q E s:=by
 obtain⟨z,l,m,f,h⟩:=Mc I.hok e;have N:m.length<=sizeLine:=by rw[<-mw f];exact z
 have F:(putK kvs k v).length<=sizeLine:=by have :=nZ kvs k v;lia
 have d:=f.val k;refine call_meetsIn xi h.typeIs PySem.F.entry_dict_setdefault (PySem.F.args_dict_setdefault_3 _ _ _) (HT.zW (qH (bS X.prog X.w)) a b l r) ⟨tupleKind_room_in1 K,k,m,LI I.hok i,h,N,fun u L=>?_,fun G R n J=>?_⟩
 ·rw[L]at d;cases hv:eN kvs k with
  |none=>rw[hv]at d;exact absurd d (by intro z;cases z)
  |some x=>rw[hv]at d;obtain⟨g,M,P⟩:=tN.some_of d;cases M;exact C x _ _ hv (I.tok _) P
 ·rw[G]at d;refine D (by
   cases hv:eN kvs k with
   |none=>rfl
   |some x=>rw[hv]at d;exact absurd d (by intro z;cases z)) _ ?_
  obtain⟨q,p,o,hq,t,w,y,_,B⟩:=n;refine Gk I (by rw[e];exact True.intro) J ⟨q,hq⟩ ⟨F,l,_,(f.put k i O).keeps fun c T j=>?_,q,p,o,hq,t,w,y,B⟩;rw[aW (ne_of j e (fun z=>nomatch z))];exact j
end
section
def HH{K:Type}[DecidableEq K]{knd:HeapKind prog w K}{d:Addr}{xs:List (K×Addr×Value)}{Q:Value->Shared->Prop}(c:(d==d9)=false)(a:s.heap.DictOfH knd d xs)(l:(xs.length:Int)<2^63)
  (h:Q (.int xs.length (s.toks+1)) {s with toks:=s.toks+1+1}):wpAny (model prog w) A (call (.builtin "len") [.ref d]) Q E s:=by
 have i:MeetsIn prog w (Builtin.«dict.__len__» ⟨[.ref d],[]⟩) (fun _ R s=>∃xs,s.heap.DictOfH knd d xs/\R (.ok (.ret (.int xs.length s.toks))) {s with toks:=s.toks+1}):=
  .of_wp fun A R s ⟨xs,a,h⟩=>by obtain⟨o,b,j,g,k,e,f,_⟩:=a;show wpAny _ _ (dictSize d>>=_) _ _ s;unfold dictSize;refine aa (aa (wpAny_dictEntries g e (aj ?_)));show wpAny _ _ (Builtin.Dict.pendingCount d>>=_) _ _ s;refine aa (wpAny_pendingCount_other c ?_);refine wpAny_ret_mkInt ?_;have :b.size=xs.length:=size_of_entries f;rw[Nat.add_zero,this];exact h
 refine mr kind_len plain_len entry_len (args_len1 _) ?_;unfold Builtin.«len»;refine aa (m:=oneArg "len" _) (aj ?_);refine aa (m:=callSpecial? (.ref d) (aP "__len__")) (eG (name:=aP "__len__") a.typeIs F.slot_dict_len
  (call_meetsIn F.slot_dict_len a.typeIs F.entry_dict_len (F.args_dict_len_1 _) i ⟨xs,a,?_⟩))
 show wpAny _ _ _ _ _ {s with toks:=s.toks+1};refine aa (bH (aj ?_));refine aa (pD ?_);show wpAny _ _ (if((xs.length:Nat):Int)<0 then _ else _) _ _ _;rw[if_neg (by lia)];show wpAny _ _ (if((xs.length:Nat):Int)≥ 2^63 then _ else _) _ _ _;rw[if_neg (by lia)];exact aa (wpAny_mkInt (aj ⟨_,rfl,h⟩))
def Cu:fC X (.builtin "len") (fun xs H Q=>∃a kvs,xs=[V.ref a]/\H a=some (.dT kvs)/\Q (.int kvs.length) H):=by intro g s k H xs i Q I r h;obtain⟨a,kvs,rfl,e,q⟩:=h;obtain⟨u,rfl,f⟩:=vals1 r;cases f;obtain⟨z,d,j,b,c⟩:=Mc I.hok e;refine HH d c (by rw[<-mw b];rw[pE]at z;lia) ?_;rw[<-mw b];exact⟨.int kvs.length,H,I.tok _,⟨_,rfl⟩,q⟩
def key_seq{ks:List Key}(I:Inv X pins σ H s)(h:SqT X.K H b (ks.map kV)):(qH (bS X.prog X.w)).is s.heap ks b:=by obtain⟨e,r,⟨o,a,c,n,d⟩,_⟩:=I.tuple h;exact⟨o,e.toArray,n,a,c,d,by simpa using tm r⟩
def rIxD(K:ah):R2:=fun x y H Q=>∃a b kvs k v,x=.ref a/\y=.ref b/\H a=some (.dT kvs)/\SqT K H b (k.map kV)/\eN kvs k=some v/\Q v H
def ix_dict(t:X.A.units+1<cLine):IxR X (rIxD X.K):=by
 intro J G g s j H x y v u Q I E F h n;obtain⟨a,b,M,k,z,rfl,rfl,e,l,w,q⟩:=h;cases E;cases F;obtain⟨_,L,K,C,d⟩:=Mc I.hok e;have f:s.TypeIs (.ref a) "dict":=d.typeIs;unfold MP;refine aa ?_;rw[getitemInPython_of_ne f.not_modules];refine aa (wpAny_specialOf f PySem.F.slot_dict_getitem.lookup ?_);have c:wpAny (model X.prog X.w) X.A (subscripted G false (.ref a) (.ref b)) (fun r i=>wpAny (model X.prog X.w) X.A (letTemporaryGo J (.ref a) r>>=fun _=>pure r) (EP X g j Q) X.xe i) X.xe s:=by rw[n];obtain⟨N,A,D⟩:=tN.some_of (v:=z) (o:=(atKey K k).map (·.2)) (by rw[<-w];exact C.val k);obtain⟨p,hp,m⟩:=iW.mp A;refine wpAny_operating (cL (wpAny_getItem_heap (Q:=EP X g j Q) (tupleKind_room_in1 t) (key_seq I l) d hp ?_) (fun r i B=>aa (wpAny_letTemporaryGo (aj B))) fun _ _ x=>x);rw[m];exact⟨z,H,I.tok _,D,q⟩
 first
  |exact aj (aa c)
  |exact aa (aj (aa c))
  |exact aa c
def Fl:V->List V->Hp->VK->Prop:=fun x xs H Q=>∃a b kvs k v,x=.ref a/\xs=[.ref b,v]/\H a=some (.dT kvs)/\H b=some (.tup (k.map kV))/\kvs.length<sizeLine/\
 (∀z,eN kvs k=some z->Q z H)/\(eN kvs k=none->Q v (upd H a (.dT (putK kvs k v))))
def HB(j:X.A.units+1<cLine):MtR X "dict.setdefault" Fl:=by intro A s F H x E v B Q I q p h;obtain⟨a,b,w,k,y,rfl,rfl,e,f,g,m,n⟩:=h;cases q;obtain⟨u,C,rfl,o,d⟩:=vals2 p;cases o;exact Mg j I e f d g (fun z D t l c r=>⟨z,H,c,r,m z l⟩) fun i t c=>⟨y,_,c,d,n i⟩
end
section
def rInD(K:ah)(b:Bool):R2:=fun x y H Q=>∃p xs ds d,y=.ref p/\SqL K H p xs/\Rep K H d x/\d8 K H ds xs/\gh ds<=30/\
 Q (.bl (if b then !(ds.any fun a=>eqD a d)else ds.any fun a=>eqD a d)) H
open Classical in
abbrev eqW(K:ah)(H:Hp)(d:D)(u:Value):Bool:=decide (∃y a,RelV y u/\Rep K H a y/\eqD a d=true)
open Classical in
def L9(I:Inv X pins σ H s){d d':D}(r:RelV y u)(h:Rep X.K H d' y):eqW X.K H d u=eqD d' d:=by
 unfold eqW;cases e:eqD d' d with
 |true=>exact decide_eq_true (p:=∃y a,RelV y u/\Rep X.K H a y/\eqD a d=true) ⟨y,d',r,h,e⟩
 |false=>refine decide_eq_false ?_;rintro⟨z,a,c,f,b⟩;cases c.inj r;rw[I.uU f h,e]at b;cases b
theorem Ay(I:Inv X pins σ H s){d:D}:∀{ds:List D}{xs:List V}{us:List Value},bG xs us->d8 X.K H ds xs->us.any (eqW X.K H d)=ds.any fun d'=>eqD d' d
 | [],_,us,r,h=>by rw[show _=[]from h]at r;cases r;rfl
 |d'::ds,_,us,r,h=>by
  obtain⟨x,t,rfl,a,b⟩:=h;cases r with
  |cons r1 r2=>rw[iF,iF,L9 I r1 a,Ay I r2 b]
theorem zV(I:Inv X pins σ H s){d:D}{v:Value}(c:Rep X.K H d x)(e:RelV x v)(a:A.units+31<cLine):∀{ds:List D}{xs:List V}{us:List Value},bG xs us->d8 X.K H ds xs->gh ds<=30->∀u∈us,MV A s u v (eqW X.K H d u)
 | [],_,us,r,h,_=>by rw[show _=[]from h]at r;cases r;exact fun u a=>nomatch a
 |d'::ds,_,us,r,h,hh=>by
  obtain⟨y,t,rfl,b,f⟩:=h;cases r with
  |cons r1 r2=>
   have g:max (hgt d') (gh ds)<=30:=hh;intro w hw;rcases aG.mp hw with rfl|hw;·rw[L9 I r1 b];exact I.Cg 30 A d' d _ x _ v b c r1 e (by lia) (by lia)
   ·exact zV I c e a r2 f (by lia) w hw
def op_inD(l:X.A.units+40<cLine):OpR X (cX .In) (rInD X.K false):=by intro n s t H x y v u Q I i j h;obtain⟨p,o,k,d,rfl,hq,c,a,e,q⟩:=h;cases j;obtain⟨b,r,g,m⟩:=I.list hq;refine SeqAt.in_listAt (eqW X.K H d) g.isList (fun w f=>zV I c i (by show X.A.units+1+31<cLine;lia) r a e w (by simpa using f)) ⟨.bl _,H,I,rfl,?_⟩;rw[show b.toArray.any (eqW X.K H d)=b.any (eqW X.K H d) by simp,Ay I r a];exact q
def Hs(l:X.A.units+40<cLine):OpR X (cX .NotIn) (rInD X.K true):=by intro n s t H x y v u Q I i j h;obtain⟨p,o,k,d,rfl,hq,c,a,e,q⟩:=h;cases j;obtain⟨b,r,g,m⟩:=I.list hq;refine MU (eqW X.K H d) g.isList (fun w f=>zV I c i (by show X.A.units+1+31<cLine;lia) r a e w (by simpa using f)) ⟨.bl _,H,I,rfl,?_⟩;rw[show b.toArray.any (eqW X.K H d)=b.any (eqW X.K H d) by simp,Ay I r a];exact q
end
end L2
namespace Q
open PySem PySem.Spec PySem.W PyProof.Rows L2
abbrev ltI(ns:List Int)(i j:Nat):Bool:=decide (ns.getD i 0<ns.getD j 0)
abbrev DY(ns:List Int):List Nat:=if ns.length<2 then aE ns.length else(run (ltI ns) (dQ ns.length)).toList
abbrev sortI(ns:List Int):List V:=(DY ns).map fun i=>(ns.map V.int).getD i .non
def totI(nd:ns.Nodup):Tot (ltI ns) ns.length where
 tri:=fun i j hi c h=>by
  have f:ns.getD i 0≠ns.getD j 0:=fun e=>by rw[af,af,ae hi,ae c]at e;exact h ((fL nd).mp e)
  unfold ltI;by_cases a:ns.getD i 0<ns.getD j 0;·rw[decide_eq_true a,decide_eq_false (by lia)];rfl
  ·rw[decide_eq_false a,decide_eq_true (by lia)];rfl
 tr:=fun i j k hi c d a b=>by unfold ltI at a b⊢;have a:=of_decide_eq_true a;have b:=of_decide_eq_true b;exact decide_eq_true (by lia)
def K2(nd:ns.Nodup):(DY ns).length=ns.length:=by
 unfold DY;split;·simp
 ·rw[cm,(fN (totI nd) (by lia)).1.size]
theorem outI(nd:ns.Nodup)(r:bG (ns.map V.int) vs):bG (sortI ns) (gC (ltI ns) vs):=by
 have g:=r.length;rw[ai]at g;have e:vs.length=ns.length:=by lia
 unfold gC sortI DY;rw[e];by_cases c:ns.length<2
 ·rw[if_pos c,if_pos c];have a:(aE ns.length).map (fun i=>(ns.map V.int).getD i V.non)=ns.map V.int:=by
   apply bR;·simp
   ·intro i o b;have d:i<ns.length:=by simpa using b
    simp[d]
  rw[a];exact r
 ·rw[if_neg c,if_neg c];have P:=(fN (totI nd) (by lia)).1;have all:∀l:List Nat,(∀i∈l,i<ns.length)->bG (l.map fun i=>(ns.map V.int).getD i V.non) (l.map fun i=>vs.getD i bL):=by
   intro l
   induction l with
   |nil=>exact fun _=>.nil
   |cons i l ih=>
    intro h;have hi:i<(ns.map V.int).length:=by rw[ai];exact h i (.head _)
    obtain⟨u,k,n⟩:=r.get (ae hi);refine .cons ?_ (ih fun j f=>h j (.tail _ f));show L2.RelV ((ns.map V.int).getD i V.non) (vs.getD i bL);rw[af,ae hi,af,k];exact n
  refine all _ fun i hi=>?_;have m:i∈(aE ns.length).toArray:=P.perm.mem_iff.mp (jQ.mp hi);simpa using m
def int_at(r:bY vs ns)(hi:i<ns.length):∃t,vs.getD i .none=.int (ns.getD i 0) t:=by
 induction r generalizing i with
 |nil=>exact absurd hi (dv _)
 |cons y t h ih=>
  cases i with
  |zero=>exact⟨t,rfl⟩
  |succ i=>exact ih (by simpa using hi)
def LM(r:bY vs ns):vs.length=ns.length:=by
 induction r with
 |nil=>rfl
 |cons y t h ih=>simp[ih]
def Iw(r:bY vs ns)(d:2<=vs.length):Iz prog w A (ltI ns) vs h0:=by
 intro g _;refine⟨oneType',fun f e q=>?_,fun i j C hi a _ q=>?_⟩
 ·match vs,r,d with
  |v1::v2::rest,r,_=>rw[keyKind_ints r];exact aj q
 ·rw[LM r]at hi a;obtain⟨t,b⟩:=int_at r hi;obtain⟨u,c⟩:=int_at r a;unfold kas_ask;rw[b,c,keyLt'_oneType];exact oneLt_int q
end Q
namespace L2
open PySem PySem.Spec PyProof.Rows
section
abbrev nats(n:Nat):List V:=(aE n).map fun i:Nat=>V.int (i:Int)
end
end L2
namespace D8
open PySem PySem.Spec PySem.W PyProof.Rows L2
end D8
namespace L2
open PySem PySem.Spec PyProof.Rows
def DkIn(P:Program)(w:World)(K:ah)(a:Addr)(kvs:List (Key×V)):Prop:=
 (a==d9)=false/\∃vs,KV kvs vs/\∀h,K.In h->h.DictOf (bS P w) a vs
end L2
namespace PySem
section
variable {E:Value->Shared->Prop}{s:Shared}
def K5{j t:Addr}{xs:Array Value}{v:Value}{Q:Value->Shared->Prop}(c:s.heap.IsTupleIter j t k)(g:s.heap.IsTuple t xs)(h:xs[k]? =some v)
  (q:∀h',h'.IsTupleIter j t (k+1)->dm j s.heap h'->Q v {s with heap:=h'}):wpAny (model prog w) A (eA (.ref j)) Q E s:=by
 obtain⟨o,b,d,a⟩:=id c;obtain⟨p,e,_,n,f⟩:=g;unfold eA;refine aa (eG (name:=aP "__next__") c.typeIs iq (cK iq c.typeIs Dp ?_ (C9 _)));show wpAny _ _ (field (.ref j) 0>>=_) _ _ s;refine aa (iz b a (x:=.ref t) rfl ?_);show wpAny _ _ (if(bz t==bL)=true then _ else _) _ _ s;rw[if_neg (fun z:(bz t==bL)=true=>absurd z ao)];show wpAny _ _ (field (.ref j) 1>>=_) _ _ s;refine aa (iz b a (x:=.int k 0) rfl ?_);show wpAny _ _ (u9 (.ref t)>>=_) _ _ s;refine aa (ix e f ?_);simp only[aQ,h];refine aa (uK b a (by simp) (aj ⟨v,rfl,aj (q _ ?_ (bO ..))⟩));exact⟨_,bP _ b (jF (eW a _)),(Obj.cls_mapFields ..).trans d,by rw[eW a];simp[rawInt]⟩
def FE{j t:Addr}{xs:Array Value}{Q:Value->Shared->Prop}(f:A.handled=none)(d:s.heap.IsTupleIter j t k)(i:s.heap.IsTuple t xs)(l:xs[k]? =none)
  (q:∀h' e,Heap.ExtBut j s.heap h'->(∃o,h'.get? e=some o/\o.cls=.type "StopIteration")->E (.ref e) {s with heap:=h'}):wpAny (model prog w) A (eA (.ref j)) Q E s:=by
 obtain⟨o,b,r,c⟩:=id d;obtain⟨p,g,_,n,h⟩:=i;unfold eA;refine aa (eG (name:=aP "__next__") d.typeIs iq (cK iq d.typeIs Dp ?_ (C9 _)));show wpAny _ _ (field (.ref j) 0>>=_) _ _ s;refine aa (iz b c (x:=.ref t) rfl ?_);show wpAny _ _ (if(bz t==bL)=true then _ else _) _ _ s;rw[if_neg (fun z:(bz t==bL)=true=>absurd z ao)];show wpAny _ _ (field (.ref j) 1>>=_) _ _ s;refine aa (iz b c (x:=.int k 0) rfl ?_);show wpAny _ _ (u9 (.ref t)>>=_) _ _ s;refine aa (ix g h ?_);simp only[aQ,l];refine aa (iy (aa (uK b c (by simp) ?_)));show wpAny _ _ (newExc (.type "StopIteration") []>>=_) _ _ _;refine aa ?_;simp only[newExc,newTuple];refine aa (bW ?_ (by size_fits));refine aa (m:=uO _ _) (pC (a:=bL) (by first |rfl| (simp only[uO];rfl)) ?_);refine bW ?_ (by size_fits);simp only[IG];refine aa (wpAny_handled ?_);first |rw[show A.in1.handled=none from f] |rw[f]
 refine aa (aj (wpAny_throw ?_));exact q _ _ (((bO ..).extBut.push _).push _) ⟨_,ax _ rfl,rfl⟩
end
end PySem
namespace L2
open PySem PySem.Spec PyProof.Rows
def tup_ne{g:Array Value}{o:Obj}(f:h.IsTuple a g)(b:h.get? c=some o)(d:o.cls≠.type "tuple"):a≠c:=by obtain⟨i,e,k,_⟩:=f;rintro rfl;rw[e]at b;cases b;exact d k
end L2
namespace PySem
open Sem (wp)
local macro_rules | `(term| «the numeral») => return Lean.mkIdent (b9 (b9 (b9 (Lean.Name.num (b9 (b9 (b9 (b9 (b9 Dm "_private") "PySem") "Builtin") "Int") "W0All") 0) "PySem") "Builtin") "readNumeral")
local macro_rules | `(term| «a value») => return Lean.mkIdent (b9 (b9 (b9 (b9 (Lean.Name.num (b9 (b9 (b9 (b9 (b9 Dm "_private") "PySem") "Builtin") "Int") "W0All") 0) "PySem") "Builtin") "Numeral") "value")
end PySem
namespace L2
open PySem PySem.Spec PyProof.Rows
inductive Fig:Str->Int->Prop
 |one {a:Nat} (h:a<10):Fig ⟨#[48+a]⟩ (a:Nat)
 |two {a b:Nat} (ha:a<10) (hb:b<10):Fig ⟨#[48+a,48+b]⟩ (10*a+b:Nat)
end L2
namespace Q
open PySem PySem.Spec PySem.W PyProof.Rows L2
abbrev llt:List Int->List Int->Bool
 | [],[]=>false
 | [],_::_=>true
 |_::_,[]=>false
 |a::x,b::y=>decide (a<b)||(decide (a=b)&&llt x y)
theorem yk:∀{x y z:List Int},llt x y=true->llt y z=true->llt x z=true
 | [],[],_,h,_=>nomatch h
 | [],_::_,[],_,h=>nomatch h
 | [],_::_,_::_,_,_=>rfl
 |_::_,[],_,h,_=>nomatch h
 |_::_,_::_,[],_,h=>nomatch h
 |a::x,b::y,c::z,h,k=>by
  simp only[llt,b8,az,decide_eq_true_eq]at h k⊢;rcases h with h|⟨rfl,h⟩
  ·rcases k with k|⟨rfl,k⟩;·exact .inl (by lia)
   ·exact .inl h
  ·rcases k with k|⟨rfl,k⟩;·exact .inl k
   ·exact .inr ⟨rfl,yk h k⟩
theorem uY:∀{x y:List Int},x≠y->llt x y= !llt y x
 | [],[],h=>absurd rfl h
 | [],_::_,_=>rfl
 |_::_,[],_=>rfl
 |a::x,b::y,h=>by
  by_cases e:a=b;·subst e;have :=uY (x:=x) (y:=y) fun z=>h (by rw[z]);simp[llt,this]
  ·by_cases c:a<b
   ·have :¬b<a:=by lia
    simp[llt,c,this,e,bE e]
   ·have :b<a:=by lia
    simp[llt,c,this,e,bE e]
abbrev ltL(ps:List (List Int))(i j:Nat):Bool:=llt (ps.getD i []) (ps.getD j [])
abbrev DX(ps:List (List Int)):List Nat:=if ps.length<2 then aE ps.length else(run (ltL ps) (dQ ps.length)).toList
abbrev dJ{α:Type}(d:α)(ps:List (List Int))(ys:List α):List α:=(DX ps).map fun i=>ys.getD i d
def neL{ps:List (List Int)}(nd:ps.Nodup)(hi:i<ps.length)(a:j<ps.length)(h:i≠j):ps.getD i []≠ps.getD j []:=fun e=>by rw[af,af,ae hi,ae a]at e;exact h ((fL nd).mp e)
def Jp{ps:List (List Int)}(nd:ps.Nodup):Tot (ltL ps) ps.length where
 tri:=fun i j hi c h=>uY (neL nd hi c h)
 tr:=fun i j k _ _ _ a b=>yk a b
theorem o7{ps:List (List Int)}(nd:ps.Nodup):(DX ps).Perm (aE ps.length):=by
 unfold DX;split;·exact dU _
 ·have P:=(fN (Jp nd) (by lia)).1;have :=eQ.mp P.perm;simpa using this
theorem yd{ps:List (List Int)}(nd:ps.Nodup)(f:ps.length=ys.length)(r:bG ys vs):bG (dJ .non ps ys) (gC (ltL ps) vs):=by
 have o:=r.length;have e:vs.length=ps.length:=by lia
 unfold gC dJ DX;rw[e];by_cases c:ps.length<2
 ·rw[if_pos c,if_pos c];have a:(aE ps.length).map (fun i=>ys.getD i V.non)=ys:=by
   rw[f];apply bR;·simp
   ·intro i n b;simp[b]
  rw[a];exact r
 ·rw[if_neg c,if_neg c];have P:=(fN (Jp nd) (by lia)).1;have all:∀l:List Nat,(∀i∈l,i<ps.length)->bG (l.map fun i=>ys.getD i V.non) (l.map fun i=>vs.getD i bL):=by
   intro l
   induction l with
   |nil=>exact fun _=>.nil
   |cons i l ih=>
    intro h;have hi:i<ys.length:=by have :=h i (.head _);lia
    obtain⟨u,g,k⟩:=r.get (ae hi);refine .cons ?_ (ih fun j d=>h j (.tail _ d));show L2.RelV (ys.getD i V.non) (vs.getD i bL);rw[af,ae hi,af,g];exact k
  refine all _ fun i hi=>?_;have m:i∈(aE ps.length).toArray:=P.perm.mem_iff.mp (jQ.mp hi);simpa using m
def tO(h:Heap)(vs:List Value)(ps:List (List Int)):Prop:=Paired (fun v k=>∃a o al n,v=.ref a/\h.get? a=some o/\o.cls=.type "tuple"/\o.data=.seq al n/\bY al.toList k) vs ps
def gW{ps:List (List Int)}(r:tO h vs ps)(hi:i<vs.length):∃a o al n,vs.getD i .none=.ref a/\h.get? a=some o/\o.data=.seq al n/\bY al.toList (ps.getD i []):=by
 unfold tO at r
 induction r generalizing i with
 |nil=>exact absurd hi (dv _)
 |cons y t ih=>
  cases i with
  |zero=>obtain⟨a,o,al,n,b,c,f,d,e⟩:=y;exact⟨a,o,al,n,b,c,d,e⟩
  |succ i=>exact ih (by simpa using hi)
def LN(q:∀b o,h.get? b=some o->h1.get? b=some o){ps:List (List Int)}(r:tO h vs ps)(hp:∀k∈ps,k≠[]):∃fs,KatTups h1 vs fs/\fs.length=vs.length/\∀v∈fs,∃x t,v=w8 x t:=by
 unfold tO at r
 induction r with
 |nil=>exact⟨[],.nil,rfl,fun v hv=>nomatch hv⟩
 | @cons v k vs ps y t ih=>
  obtain⟨fs,e,f,g⟩:=ih fun k c=>hp k (aD _ c);obtain⟨a,o,p,n,rfl,i,j,m,d⟩:=y;have c:=hp k aL;obtain⟨l⟩:=p;cases l with
  |nil=>cases d;exact absurd rfl c
  |cons u l=>
   cases d with
   |cons x t h=>
    refine⟨_::fs,.cons (q _ _ i) j m rfl e,by simp[f],fun v hv=>?_⟩;rcases aG.mp hv with rfl|hv;·exact⟨_,_,rfl⟩
    ·exact g v hv
def Lw{b j:Bool}{C:Bool->Shared->Prop}{xs ys:List Value}{x y:List Int}(i:Nat)(g:bY xs x)(d:bY ys y)(f:x.length=y.length)(h:x≠y)(q:C (llt x y) s):KatLex prog w A b j C (xs.zip ys) (i+1) s:=by
 induction g generalizing ys y i with
 |nil=>cases d with
  |nil=>exact absurd rfl h
  |cons=>simp at f
 |cons a t g ih=>cases d with
  |nil=>simp at f
  |cons c u d=>
   refine kat_cons (qG ?_);by_cases e:a=c;·subst e;rw[show(a==a)=true by simp];refine kat_yes (ih (i+1) d (by simpa using f) (fun z=>h (by rw[z])) ?_);simp[llt]at q;exact q
   ·rw[show(a==c)=false by simpa using e];refine kat_no ?_;rw[show(b&&(i+1==0))=false by simp];refine kat_one _ _ (lt_int ?_);simp[llt,e]at q;exact q
theorem Aw{ps:List (List Int)}(nd:ps.Nodup)(f:vs.length=ps.length)(r:tO h0 vs ps)(V:2<=vs.length)(g:∀k∈ps,k.length=m):Iz prog w A (ltL ps) vs h0:=by
 have l:m≠0:=fun z=>by
  have e:∀i,i<ps.length->ps.getD i []=[]:=fun i hi=>by rw[af,ae hi];exact bA.mp ((g _ (a6 hi)).trans z)
  exact neL nd (i:=0) (j:=1) (by lia) (by lia) (by decide) ((e 0 (by lia)).trans (e 1 (by lia)).symm)
 intro Y p;refine⟨tuples' true,fun S R q=>?_,fun i j C hi h L q=>?_⟩;·obtain⟨fs,s,U,B⟩:=LN p r fun k M z=>l (by rw[<-g k M,z];rfl);refine kat_kind (T:=.type "int") s (by lia) (fun v O=>?_) rfl q;obtain⟨x,t,rfl⟩:=B v O;exact Looks.of_pure rfl
 ·obtain⟨a,o,P,n,D,E,F,G⟩:=gW r hi;obtain⟨b,X,Q,W,H,I,J,K⟩:=gW r h;have N:=neL nd (f▸hi) (f▸h) L;have l1:(ps.getD i []).length=m:=by rw[af,ae (f▸hi)];exact g _ (a6 _)
  have l2:(ps.getD j []).length=m:=by rw[af,ae (f▸h)];exact g _ (a6 _)
  unfold kas_ask;unfold ltL at q;rw[D,H];generalize ps.getD i []=x at *;generalize ps.getD j []=y at *;refine kat_lt (p _ _ E) F (p _ _ I) J ?_;generalize P.toList=xs at *;generalize Q.toList=ys at *;cases G with
  |nil=>exact absurd l1.symm l
  | @cons c t xs x hx=>
   cases K with
   |nil=>exact absurd l2.symm l
   | @cons d u ys y hy=>
    refine kat_cons (qG ?_);by_cases e:c=d;·subst e;rw[show(c==c)=true by simp];refine kat_yes (Lw 0 hx hy (by simp at l1 l2;lia) (fun z=>N (by rw[z])) ?_);simp[llt]at q;exact q
    ·rw[show(c==d)=false by simpa using e];refine kat_no (oneLt_int ?_);simp[llt,e]at q;exact q
def IntKeys(H:Hp)(ys:List V)(ps:List (List Int)):Prop:=Paired (fun v k=>∃a,v=V.ref a/\H a=some (.tup (k.map V.int))) ys ps
def kP{ps:List (List Int)}(h:IntKeys H ys ps):ps.length=ys.length:=by
 unfold IntKeys at h
 induction h with
 |nil=>rfl
 |cons _ _ ih=>simp[ih]
def z6(ok:HOk P w H h){ps:List (List Int)}(k:IntKeys H ys ps):bG ys vs->tO h vs ps:=by
 unfold IntKeys at k
 induction k generalizing vs with
 |nil=>intro z;cases z;exact .nil
 |cons y t ih=>
  intro z;cases z with
  |cons r q=>obtain⟨a,rfl,e⟩:=y;cases r;obtain⟨_,f,g,o,b,c,n,d⟩:=ok a _ e;exact .cons ⟨a,o,f.toArray,n,rfl,b,c,d,by simpa using intsAre_of g⟩ (ih q)
def Kh(K:ah):List V->Hp->VK->Prop:=fun xs H Q=>∃p ys ps m,xs=[V.ref p]/\SqL K H p ys/\ps.length<64/\ps.Nodup/\(∀k∈ps,k.length=m)/\IntKeys H ys ps/\∀l,H l=none->Q (.ref l) (upd H l (.lst (dJ .non ps ys)))
def Am:fC X (.builtin "sorted") (Kh X.K):=by
 intro B s E H D C Q I r h;obtain⟨p,g,a,m,rfl,hq,y,nd,t,i,q⟩:=h;obtain⟨u,rfl,x⟩:=vals1 r;cases x;obtain⟨d,f,w,A⟩:=I.list hq;have n:a.length=g.length:=kP i;have z:=f.length;have j:d.length=a.length:=by lia
 refine xY (lt:=ltL a) (vs:=d) (by rw[j];exact Jp nd) w.isList (by lia) (fun k=>Aw nd j (z6 I.hok i f) k t) ?_;obtain⟨c,l⟩:=sortedAll_at s.heap d (gC (ltL a) d).toArray;have v:(dJ V.non a g).length<=sizeLine:=by unfold dJ;rw[ai,(o7 nd).length_eq,aY];lia
 exact⟨.ref (s.heap.objs.size+1),_,I.laid (t':=s.toks) (fun b o e=>sortedAll_old e) (dP _) (show dz X.prog X.w _ _ _ (.lst (dJ .non a g))from⟨v,_,c,yd nd n f,l⟩),rfl,q _ (I.hok.fresh (dP _))⟩
theorem BS:∀x:List Int,llt x x=false
 | []=>rfl
 |a::x=>by simp[llt,BS x]
def FW{B:Builtin}{op:CmpOp}{f:List Int->List Int->Bool}(H:(B=Builtin.«tuple.__lt__»/\op=.Lt/\f=llt)\/(B=Builtin.«tuple.__gt__»/\op=.Gt/\f=fun a b=>llt b a)){a b:List Int}{P:dG->Shared->Prop}(M:IsTup s.heap p us.toArray)(J:IsTup s.heap q vs.toArray)
  (C:bY us a)(D:bY vs b)(I:a.length=b.length)
  (h:P (.done (.ret (.bool (f a b)))) s):wpAny (model prog w) A (B ⟨[.ref p,.ref q],[]⟩) P E s:=by
 have⟨g,ci,fc⟩:∃g:Int->Int->Bool,(∀{m n:Int}{t u:Nat}{s:Shared}{Q:Value->Shared->Prop},Q (.bool (g m n)) s->wpAny (model prog w) A (cX op (.int m t) (.int n u)) Q E s)/\∀{m n:Int}{x y:List Int},m≠n->f (m::x) (n::y)=g m n:=by
  rcases H with⟨_,rfl,rfl⟩ |⟨_,rfl,rfl⟩;·exact⟨fun m n=>decide (m<n),fun q=>lt_int q,fun c=>by simp[llt,c]⟩
  ·exact⟨fun m n=>decide (n<m),fun q=>PyProof.Rows.gt_int q,fun c=>by simp[llt,bE c]⟩
 rcases H with⟨rfl,rfl,hf⟩ |⟨rfl,rfl,hf⟩
 all_goals
  show wpAny _ _ (II (.ref q) (.type "tuple")>>=_) _ _ s;refine aa (qF J.typeIs isSubtype_tuple_tuple ?_);simp only[gv,aX,if_false];refine aa (tupleItemsOf_ M ?_);refine aa (tupleItemsOf_ J ?_);refine aa ?_;show wpAny _ _ (forIn (us.zip vs) _ _) _ _ s;refine wpAny_forIn_list _ (fun K r G=>r.1=none/\G=s/\∃k l o v,K=List.zip k l/\k.length=l.length/\bY k o/\bY l v/\f a b=f o v) _ ?_ ?_ _ _ ⟨rfl,rfl,us,vs,a,b,rfl,by rw[C.length,D.length,I],C,D,rfl⟩
  ·rintro x K ⟨r,_⟩ G ⟨F,rfl,k,l,o,v,e,j,i,d,z⟩;obtain rfl:r=none:=F;cases i with
   |nil=>cases e
   |cons m t i=>
    cases d with
    |nil=>cases j
    |cons n u d=>
     rw[uv]at e;cases e;dsimp only;refine aa (qG ?_);by_cases c:m=n;·rw[show(m==n)=true by simpa using c];simp only[gv,aX,if_false];refine aj ⟨rfl,rfl,_,_,_,_,rfl,by simpa using j,i,d,?_⟩;rw[z];simp[hf,llt,c]
     ·rw[show(m==n)=false by simpa using c];simp only[Bool.not_false,if_true];rw[z,fc c]at h;refine aa (iy (aa (ci (aa (aj (aj ?_))))));exact aj h
  ·rintro⟨r,_⟩ G ⟨F,rfl,k,l,o,v,e,j,i,d,z⟩;obtain rfl:r=none:=F;dsimp only;have L:f a b=false:=by
    rw[z];cases i with
    |nil=>cases d with
     |nil=>rw[hf];rfl
     |cons n u d=>cases j
    |cons m t i=>cases d with
     |nil=>cases j
     |cons n u d=>rw[uv]at e;cases e
   rw[L]at h;have N:us.toArray.size=vs.toArray.size:=by rw[aw,aw,C.length,D.length,I]
   rw[N];simp only[Builtin.Tuple.tupleCompareSizes,dH,decide_false];exact aj h
def FR{a b:List Int}{P:dG->Shared->Prop}(f:IsTup s.heap p us.toArray)(g:IsTup s.heap q vs.toArray)
  (c:bY us a)(d:bY vs b)(e:a.length=b.length)
  (h:P (.done (.ret (.bool (llt a b)))) s):wpAny (model prog w) A (Builtin.«tuple.__lt__» ⟨[.ref p,.ref q],[]⟩) P E s:=FW (.inl ⟨rfl,rfl,rfl⟩) f g c d e h
def gt_tree{a b:List Int}{P:dG->Shared->Prop}(g:IsTup s.heap p us.toArray)(i:IsTup s.heap q vs.toArray)
  (c:bY us a)(d:bY vs b)(e:a.length=b.length)
  (h:P (.done (.ret (.bool (llt b a)))) s):wpAny (model prog w) A (Builtin.«tuple.__gt__» ⟨[.ref p,.ref q],[]⟩) P E s:=FW (f:=fun a b=>llt b a) (.inr ⟨rfl,rfl,rfl⟩) g i c d e h
section
variable {I:Addr}{fp wr:List Addr}{G:Array lF->Array lF->Prop}{P:Nat->Value->Prop}{St:Nat->Shared->Prop}{R:Result->Shared->Prop}
def Lg{N:String}{B:Builtin}{op:CmpOp}(m:IJ table N=some B)(k:plainId N=true)(n:(N="min.loop"/\B=Builtin.«min.loop»/\op=.Lt)\/(N="max.loop"/\B=Builtin.«max.loop»/\op=.Gt))(W:WalksS prog w A.in1 I fp wr G 2 P St)(q:S∉fp){v0 v1:Value}(h0:∀v,P 0 v->v=v0)(O:∀v,P 1 v->v=v1){c:Nat}{bt:Bool}(V:St 0 s)
  (K:s.heap.get? S=some {cls:=.type "list",dict:=none,data:=.seq #[] c,slots:= #[]})
  (U:∀(s':Shared)(Q:Value->Shared->Prop)(E:Value->Shared->Prop),Moved (S::wr) G s s'->Q (.bool bt) s'->wpAny (model prog w) A.in1 (richCompare op v1 v0) Q E s')
  (T:∀s',Moved (S::wr) G s s'->R (.ok (.ret (if bt=true then v1 else v0))) s'):gA (model prog w) A (.builtin N ⟨[.ref I,.none,.ref S],[]⟩) R s:=by
 have r:S∉wr:=fun h=>q (W.sub _ h);have J:∀b∈wr,b∈S::wr:=fun b f=>aD _ f;have D:(toString "min"++toString ".loop":String)="min.loop":=by decide
 have C:(toString "max"++toString ".loop":String)="max.loop":=by decide
 have F:∀{b:Addr},b∉S::wr->S≠b:=fun f h=>f (by rw[h];exact aL)
 --the u turn
 have u:∀(a:Shared)(x:Value)(d:Nat),St 2 a->a.heap.get? S=some {cls:=.type "list",dict:=none,data:=.seq #[x,x] d,slots:= #[]}->Moved (S::wr) G s a->x=(if bt=true then v1 else v0)->
   gA (model prog w) A (.builtin N ⟨[.ref I,.none,.ref S],[]⟩) R a:=by
  intro a x d H g y M;refine eI m ?_;rw[dA k _];rcases n with⟨rfl,rfl,rfl⟩ |⟨rfl,rfl,rfl⟩
  all_goals
   show wpAny _ A.in1 (u9 (.ref S)>>=_) _ _ a;refine aa (ix g rfl ?_);show wpAny _ A.in1 (tryCatch (pyNext (.ref I)) _>>=_) _ _ a;refine aa (uJ (W.done a _ _ H fun s' j=>?_));have i:=j.heap S _ r g;show wpAny _ A.in1 (updateSeq S (fun _=> #[])>>=_) _ _ _;refine aa (ER i rfl (aa (pD (aj ?_))));rw[M];exact T _ (IQ W.gtrans y ((j.mono J).then_heap (tk:=s'.toks) (av _) fun b o f e=>(aN _ _ (F f)).trans e))
 --the L
 have L:∀(a:Shared)(d:Nat),St 1 a->a.heap.get? S=some {cls:=.type "list",dict:=none,data:=.seq #[v0,v0] d,slots:= #[]}->Moved (S::wr) G s a->
   gA (model prog w) A (.builtin N ⟨[.ref I,.none,.ref S],[]⟩) R a:=by
  intro a d H g y;refine eI m ?_;rw[dA k _];rcases n with⟨rfl,rfl,rfl⟩ |⟨rfl,rfl,rfl⟩
  all_goals
   show wpAny _ A.in1 (u9 (.ref S)>>=_) _ _ a;refine aa (ix g rfl ?_);show wpAny _ A.in1 (tryCatch (pyNext (.ref I)) _>>=_) _ _ a;refine aa (uJ (W.item 1 a _ _ (by decide) H fun v s' p l j=>?_));obtain rfl:=O v p;have i:=j.heap S _ r g;have z:=IQ W.gtrans y (j.mono J);show wpAny _ A.in1 (tryCatch (holding [v,v] (richCompare _ v v0>>=_)) _>>=_) _ _ _;refine aa (uJ (bH (aa (U _ _ _ z ?_))));refine aa (bH (dk ?_));refine aa (pD (aj ?_));cases f:bt with
   |true=>
    simp only[if_true];refine aa (ER i rfl (aa (pD ?_)))
    first |rw[D] |rw[C]
    refine aj ⟨fO k _,u _ v _ (W.frame _ s' _ s'.toks l (av _) fun b t o e=>?_) (bP _ i rfl) (z.then_heap (av _) fun b o f e=>(aN _ _ (F f)).trans e) (by rw[f];rfl)⟩;exact(aN _ _ (fun h:S=b=>q (by rw[h];exact t))).trans e
   |false=>
    simp only[aX,if_false];refine aa (pD ?_)
    first |rw[D] |rw[C]
    exact aj ⟨fO k _,u _ v0 _ l i z (by rw[f];rfl)⟩
 refine eI m ?_;rw[dA k _];rcases n with⟨rfl,rfl,rfl⟩ |⟨rfl,rfl,rfl⟩
 all_goals
  show wpAny _ A.in1 (u9 (.ref S)>>=_) _ _ s;refine aa (ix K rfl ?_);show wpAny _ A.in1 (tryCatch (pyNext (.ref I)) _>>=_) _ _ s;refine aa (uJ (W.item 0 s _ _ (by decide) V fun v s' p l j=>?_));obtain rfl:=h0 v p;have i:=j.heap S _ r K;show wpAny _ A.in1 (updateSeq S (fun _=> #[v,v])>>=_) _ _ _;refine aa (ER i rfl ?_)
  first |rw[D] |rw[C]
  refine aj ⟨fO k _,L _ _ (W.frame _ s' _ s'.toks l (av _) fun b t o e=>?_) (bP _ i rfl) ((j.mono J).then_heap (av _) fun b o f e=>(aN _ _ (F f)).trans e)⟩;exact(aN _ _ (fun h:S=b=>q (by rw[h];exact t))).trans e
def mm_go{N:String}{B:Builtin}{op:CmpOp}(k:IJ table N=some B)(L:plainId N=true)(t:(N="min.loop"/\B=Builtin.«min.loop»/\op=.Lt)\/(N="max.loop"/\B=Builtin.«max.loop»/\op=.Gt))(y:A.handled=none){bt:Bool}
  (x:∀(s':Shared)(Q:Value->Shared->Prop)(E:Value->Shared->Prop),(∀c o,s.heap.get? c=some o->s'.heap.get? c=some o)->Q (.bool bt) s'->wpAny (model prog w) A.in1 (richCompare op (.ref q) (.ref p)) Q E s')
  (h:∀h' tk,(∀c o,s.heap.get? c=some o->h'.get? c=some o)->R (.ok (.ret (if bt=true then .ref q else .ref p))) {s with heap:=h',toks:=tk}) (l:n=s.heap.objs.size+1) (j:m=s.heap.objs.size+2):
  gA (model prog w) A (.builtin N ⟨[.ref n,.none,.ref m],[]⟩) R {s with heap:=((s.heap.push {cls:=.type "tuple",data:=.seq #[.ref p,.ref q]}).push {cls:=.type "tuple_iterator",data:=.fields #[.ref s.heap.objs.size,.int 0 0]}).push {cls:=.type "list",data:=.seq #[]}}:=by
 have u:(s.heap.push {cls:=.type "tuple",data:=.seq #[.ref p,.ref q]}).IsTuple s.heap.objs.size #[.ref p,.ref q]:=⟨_,ax _ rfl,rfl,0,rfl⟩;have C:(s.heap.push {cls:=.type "tuple",data:=.seq #[.ref p,.ref q]}).objs.size=s.heap.objs.size+1:=bD ..;have D:∀o d:Obj,((s.heap.push o).push d).objs.size=s.heap.objs.size+2:=fun o d=>by rw[bD,bD]
 rw[l,j];have old:∀{G:Array lF->Array lF->Prop}{F H I:Obj}{s':Shared},Moved [s.heap.objs.size+2,s.heap.objs.size+1] G {s with heap:=((s.heap.push F).push H).push I} s'->∀c o,s.heap.get? c=some o->s'.heap.get? c=some o:=fun a c o e=>by have z:=ay e;refine a.heap c o (fun b=>?_) (ag _ (ag _ (ag _ e)));simp only[aG,cu,or_false]at b;rcases b with e|e<;>exact absurd z (by rw[e];exact Nat.not_lt.mpr (xP _ _))
 refine Lg k L t (v0:=.ref p) (v1:=.ref q) (bt:=bt) ((Walks.tuple (A:=A.in1) y _ s.heap.objs.size (aK (dW _)) #[.ref p,.ref q]).toS) (by simp) (fun v e=>by simpa using e.symm) (fun v e=>by simpa using e.symm) ⟨⟨_,ag _ (C▸ax _ rfl),rfl,rfl⟩,(u.push _).push _⟩ (D _ _▸ax _ rfl) (fun s' g f a=>x s' g f (old a)) fun s' a=>?_;have J:=old a;obtain⟨h',r,i,M,K⟩:=s';obtain rfl:r=s.gens:=a.gens;obtain rfl:i=s.drawn:=a.drawn;obtain rfl:K=s.os:=a.os;exact h h' M J
def tK{a b:List Int}{Q:Value->Shared->Prop}(j:A.handled=none)(l:A.units+1<cLine)(m:IsTup s.heap p us.toArray)(n:IsTup s.heap q vs.toArray)(g:bY us a)(i:bY vs b)(k:a.length=b.length)
  (h:∀h' tk,(∀c o,s.heap.get? c=some o->h'.get? c=some o)->Q (if llt b a=true then .ref q else .ref p) {s with heap:=h',toks:=tk}):
  wpAny (model prog w) A (call (.builtin "min") [.ref p,.ref q]) Q E s:=by
 refine call_function_tree F.kind_min F.plain_min F.entry_min (F.args_min2 _ _) ?_;show wpAny _ A.in1 (fA "min" ["key","default"] 0 ⟨[],[]⟩>>=_) _ _ s;refine aa (pC (show fA "min" ["key","default"] 0 ⟨[],[]⟩=pure [none,none]from rfl) ?_);show wpAny _ A.in1 (newTuple [.ref p,.ref q]>>=_) _ _ s;refine aa (bW (aa (jo ⟨_,ax _ rfl,rfl,0,rfl⟩ (aa (bW ?_)))));rw[show(toString "min"++toString ".loop":String)="min.loop" by decide];refine aj ⟨fO F.plain_min_loop _,mm_go F.entry_min_loop F.plain_min_loop (.inl ⟨rfl,rfl,rfl⟩) j (fun v u t old r=>?_) h (bD ..) ((bD ..).trans (congrArg (·+1) (bD ..)))⟩;have f:=m.keeps old;have d:=n.keeps old;exact mP (op:=.Lt) d.typeIs f.typeIs qP (cK qP d.typeIs F.entry_tuple_lt (FR d f i g k.symm ⟨_,rfl,(fun e=>nomatch e),r⟩) (F.args_tuple_lt_2 _ _)) l
def Ii{a b:List Int}{Q:Value->Shared->Prop}(j:A.handled=none)(l:A.units+1<cLine)(m:IsTup s.heap p us.toArray)(n:IsTup s.heap q vs.toArray)(g:bY us a)(i:bY vs b)(k:a.length=b.length)
  (h:∀h' tk,(∀c o,s.heap.get? c=some o->h'.get? c=some o)->Q (if llt a b=true then .ref q else .ref p) {s with heap:=h',toks:=tk}):
  wpAny (model prog w) A (call (.builtin "max") [.ref p,.ref q]) Q E s:=by
 refine call_function_tree F.kind_max F.plain_max F.entry_max (F.args_max2 _ _) ?_;show wpAny _ A.in1 (fA "max" ["key","default"] 0 ⟨[],[]⟩>>=_) _ _ s;refine aa (pC (show fA "max" ["key","default"] 0 ⟨[],[]⟩=pure [none,none]from rfl) ?_);show wpAny _ A.in1 (newTuple [.ref p,.ref q]>>=_) _ _ s;refine aa (bW (aa (jo ⟨_,ax _ rfl,rfl,0,rfl⟩ (aa (bW ?_)))));rw[show(toString "max"++toString ".loop":String)="max.loop" by decide];refine aj ⟨fO F.plain_max_loop _,mm_go F.entry_max_loop F.plain_max_loop (.inr ⟨rfl,rfl,rfl⟩) j (fun v u t old r=>?_) h (bD ..) ((bD ..).trans (congrArg (·+1) (bD ..)))⟩;have f:=m.keeps old;have d:=n.keeps old;exact mP (op:=.Gt) d.typeIs f.typeIs F.slot_tuple_gt (cK F.slot_tuple_gt d.typeIs F.entry_tuple_gt (gt_tree d f i g k.symm ⟨_,rfl,(fun e=>nomatch e),r⟩) (F.args_tuple_gt_2 _ _)) l
end
def rMinL(K:ah):List V->Hp->VK->Prop:=fun xs H Q=>∃(p q:Addr)(a b:List Int),xs=[V.ref p,V.ref q]/\SqT K H p (a.map V.int)/\SqT K H q (b.map V.int)/\a.length=b.length/\Q (if llt b a=true then .ref q else .ref p) H
def rMaxL(K:ah):List V->Hp->VK->Prop:=fun xs H Q=>∃(p q:Addr)(a b:List Int),xs=[V.ref p,V.ref q]/\SqT K H p (a.map V.int)/\SqT K H q (b.map V.int)/\a.length=b.length/\Q (if llt a b=true then .ref q else .ref p) H
def Ig(e:X.calm=true)(g:X.A.units+1<cLine):fC X (.builtin "min") (rMinL X.K):=by intro x s B H A y Q I r h;obtain⟨p,q,a,b,rfl,c,d,f,hq⟩:=h;obtain⟨u,z,rfl,l,m⟩:=vals2 r;cases l;cases m;obtain⟨v,n,i,_⟩:=I.tuple c;obtain⟨w,o,j,_⟩:=I.tuple d;refine _root_.Q.tK (I.ok.hd e) g i j (intsAre_of n) (intsAre_of o) f fun t tk k=>⟨_,H,I.kept k,?_,hq⟩;split <;>rfl
def Ih(e:X.calm=true)(g:X.A.units+1<cLine):fC X (.builtin "max") (rMaxL X.K):=by intro x s B H A y Q I r h;obtain⟨p,q,a,b,rfl,c,d,f,hq⟩:=h;obtain⟨u,z,rfl,l,m⟩:=vals2 r;cases l;cases m;obtain⟨v,n,i,_⟩:=I.tuple c;obtain⟨w,o,j,_⟩:=I.tuple d;refine _root_.Q.Ii (I.ok.hd e) g i j (intsAre_of n) (intsAre_of o) f fun t tk k=>⟨_,H,I.kept k,?_,hq⟩;split <;>rfl
abbrev lS(k:List Int×List Int):List Int:=k.1++k.2
theorem FU:∀{a c:List Int}(b d:List Int),a.length=c.length->llt (a++b) (c++d)=(llt a c||(decide (a=c)&&llt b d))
 | [],[],b,d,_=>by simp[llt]
 |x::a,y::c,b,d,h=>by
  have e:=FU (a:=a) (c:=c) b d (by simpa using h);simp only[nC,llt,e];by_cases e1:x=y;·subst e1;simp
  ·simp[e1]
def P2(h:Heap)(v:Value)(k:List Int×List Int):Prop:=∃a o al n x y rest us ws,v=.ref a/\h.get? a=some o/\o.cls=.type "tuple"/\o.data=.seq al n/\al.toList=.ref x::.ref y::rest/\IsTup h x (us:List Value).toArray/\IsTup h y (ws:List Value).toArray/\bY us k.1/\bY ws k.2
def P2s(h:Heap)(vs:List Value)(ps:List (List Int×List Int)):Prop:=Paired (P2 h) vs ps
def p2_at{ps:List (List Int×List Int)}(r:P2s h vs ps)(hi:i<vs.length):P2 h (vs.getD i .none) (ps.getD i ([],[])):=by
 unfold P2s at r
 induction r generalizing i with
 |nil=>exact absurd hi (dv _)
 |cons y t ih=>
  cases i with
  |zero=>exact y
  |succ i=>exact ih (by simpa using hi)
def p2_kat(c:∀b o,h.get? b=some o->h1.get? b=some o){ps:List (List Int×List Int)}(r:P2s h vs ps):∃fs,KatTups h1 vs fs/\fs.length=vs.length/\∀v∈fs,∃x o,v=bz x/\h1.get? x=some o/\o.cls=.type "tuple":=by
 unfold P2s at r
 induction r with
 |nil=>exact⟨[],.nil,rfl,fun v hv=>nomatch hv⟩
 | @cons v k vs ps y t ih=>
  obtain⟨fs,d,e,f⟩:=ih;obtain⟨a,o,s,n,x,y,u,w,z,rfl,i,j,l,m,⟨q,p,g,_⟩,_⟩:=y;refine⟨.ref x::fs,.cons (c _ _ i) j l (by rw[<-GR,m];rfl) d,by simp[e],fun v hv=>?_⟩;rcases aG.mp hv with rfl|hv;·exact⟨x,q,rfl,c _ _ p,g⟩
  ·exact f v hv
section
variable {E:Value->Shared->Prop}{s:Shared}
def Ei{k:List Int}(r:bY us k):ItemsAre (bS prog w) (k.map .inl) us:=by
 induction r with
 |nil=>exact .nil
 |cons n t r ih=>exact .cons (nV _ _ _ _) ih
def E2{x:Addr}{k:List Int}(t:IsTup h x us.toArray)(r:bY us k):IsTupleKey (bS prog w) h (k.map .inl) x:=by obtain⟨o,c,a,n,b⟩:=t;exact⟨o,us.toArray,n,c,a,b,Ei r⟩
def inl_inj{a c:List Int}:decide (a.map (fq:Int->Key)=c.map fq)=decide (a=c):=by
 refine decide_eq_decide.mpr ⟨fun h=>?_,fun h=>by rw[h]⟩
 induction a generalizing c with
 |nil=>cases c with
  |nil=>rfl
  |cons=>cases h
 |cons x a ih=>cases c with
  |nil=>cases h
  |cons y c=>simp only[a8,IY,fq.injEq]at h;rw[h.1,ih h.2]
def Gh{x y:Addr}{a c:List Int}{Q:Bool->Shared->Prop}(e:A.units<cLine)(f:IsTup s.heap x us.toArray)(g:IsTup s.heap y ws.toArray)(b:bY us a)(d:bY ws c)(h:Q (decide (a=c)) s):wpAny (model prog w) A (eqBool (.ref x) (.ref y)) Q E s:=by rw[<-inl_inj]at h;exact wpAny_eqBool_tuple (knd:=bS prog w) e (E2 f b) (E2 g d) h
def FQ{x y:Addr}{a c:List Int}{Q:Bool->Shared->Prop}(j:A.units<cLine)(b:IsTup s.heap x us.toArray)(d:IsTup s.heap y ws.toArray)(f:bY us a)(g:bY ws c)(i:a.length=c.length)(h:Q (llt a c) s):wpAny (model prog w) A (oneLt' false (.ref x) (.ref y)) Q E s:=
 kat_one _ _ (mP (op:=.Lt) b.typeIs d.typeIs qP (cK qP b.typeIs F.entry_tuple_lt (FR b d f g i ⟨_,rfl,(fun e=>nomatch e),h⟩) (F.args_tuple_lt_2 _ _)) j)
end
def Ct{ps:List (List Int×List Int)}(i:Nat):(ps.map lS).getD i []=lS (ps.getD i ([],[])):=by rw[af,af,aC];cases ps[i]? <;>rfl
def asks_p2{ps:List (List Int×List Int)}(f:A.units<cLine)(nd:(ps.map lS).Nodup)(I:vs.length=ps.length)(r:P2s h0 vs ps)(h2:2<=vs.length)(J:∀k∈ps,k.1.length=m/\k.2.length=m):Iz prog w A (ltL (ps.map lS)) vs h0:=by
 intro s1 d;refine⟨tuples' false,fun Y X q=>?_,fun i j C hi H V q=>?_⟩;·obtain⟨fs,K,a2,L⟩:=p2_kat d r;refine kat_kind (T:=.type "tuple") K (by lia) (fun v W=>?_) rfl q;obtain⟨x,o,rfl,g,h⟩:=L v W;intro A Q E a9 k q;exact AA ⟨o,k _ _ g,h⟩ q
 ·obtain⟨a,o,a0,a5,x,b2,a7,us,ws,g,h,e3,M,N,s,t,u,y⟩:=p2_at r hi;obtain⟨Z,o',a4,n',x',y',a8,b0,b1,O,P,f3,R,S,B,D,F,G⟩:=p2_at r H;have l:=neL nd (i:=i) (j:=j) (by rw[ai];lia) (by rw[ai];lia) V;have l1:(ps.getD i ([],[])).1.length=m/\(ps.getD i ([],[])).2.length=m:=by rw[af,ae (I▸hi)];exact J _ (a6 _)
  have l2:(ps.getD j ([],[])).1.length=m/\(ps.getD j ([],[])).2.length=m:=by rw[af,ae (I▸H)];exact J _ (a6 _)
  unfold kas_ask;unfold ltL at q;rw[Ct,Ct]at q l;rw[g,O];generalize ps.getD i ([],[])=k at *;generalize ps.getD j ([],[])=k' at *;obtain⟨b,c⟩:=k;obtain⟨n,p⟩:=k';unfold lS at q l;rw[FU _ _ (l1.1.trans l2.1.symm)]at q;refine kat_lt (d _ _ h) M (d _ _ P) R ?_;rw[N,S];refine kat_cons (Gh f (s.keeps d) (B.keeps d) u F ?_);by_cases e:b=n;·subst e;rw[show decide (b=b)=true by simp];have U:c≠p:=fun z=>l (by rw[z]);refine kat_yes (kat_cons (Gh f (t.keeps d) (D.keeps d) y G ?_));dsimp only;rw[show decide (c=p)=false by simpa using U];refine kat_no (FQ f (t.keeps d) (D.keeps d) y G (l1.2.trans l2.2.symm) ?_);simp[BS]at q;exact q
  ·rw[show decide (b=n)=false by simpa using e];refine kat_no (FQ f (s.keeps d) (B.keeps d) u F (l1.1.trans l2.1.symm) ?_);simp[e]at q;exact q
def jl(H:Hp)(ys:List V)(ps:List (List Int×List Int)):Prop:=Paired (fun v k=>∃a x y rest,v=V.ref a/\H a=some (.tup (.ref x::.ref y::rest))/\H x=some (.tup (k.1.map V.int))/\H y=some (.tup (k.2.map V.int))) ys ps
def my{ps:List (List Int×List Int)}(h:jl H ys ps):ps.length=ys.length:=by
 unfold jl at h
 induction h with
 |nil=>rfl
 |cons _ _ ih=>simp[ih]
def p2_of(ok:HOk P w H h){ps:List (List Int×List Int)}(k:jl H ys ps):bG ys vs->P2s h vs ps:=by
 unfold jl at k
 induction k generalizing vs with
 |nil=>intro z;cases z;exact .nil
 |cons y t ih=>
  intro z;cases z with
  |cons r q=>
   obtain⟨a,x,z,A,rfl,e,g,i⟩:=y;cases r;obtain⟨_,v,b,o,c,d,n,f⟩:=ok a _ e;obtain⟨_,s,j,m⟩:=ok x _ g;obtain⟨_,u,l,p⟩:=ok z _ i;cases b with
   |cons r1 b=>cases b with
    |cons r2 b=>cases r1;cases r2;exact .cons ⟨a,o,_,n,x,z,_,s,u,rfl,c,d,f,rfl,m,p,intsAre_of j,intsAre_of l⟩ (ih q)
def Kg(K:ah):List V->Hp->VK->Prop:=fun xs H Q=>∃(p:Addr)(ys:List V)(ps:List (List Int×List Int))(m:Nat),xs=[V.ref p]/\SqL K H p ys/\ps.length<64/\(ps.map lS).Nodup/\(∀k∈ps,k.1.length=m/\k.2.length=m)/\jl H ys ps/\∀l,H l=none->Q (.ref l) (upd H l (.lst (dJ .non (ps.map lS) ys)))
def Al(v:X.A.units+2<cLine):fC X (.builtin "sorted") (Kg X.K):=by
 intro D s G H F E Q I r h;obtain⟨p,f,a,m,rfl,hq,A,nd,t,i,q⟩:=h;obtain⟨u,rfl,z⟩:=vals1 r;cases z;obtain⟨d,g,y,C⟩:=I.list hq;have n:a.length=f.length:=my i;have l:(a.map lS).length=f.length:=by rw[ai];exact n
 have B:=g.length;have w:d.length=(a.map lS).length:=by lia
 refine xY (lt:=ltL (a.map lS)) (vs:=d) (by rw[w];exact Jp nd) y.isList (by lia) (fun j=>asks_p2 v nd (by lia) (p2_of I.hok i g) j t) ?_;obtain⟨c,k⟩:=sortedAll_at s.heap d (gC (ltL (a.map lS)) d).toArray;have x:(dJ V.non (a.map lS) f).length<=sizeLine:=by unfold dJ;rw[ai,(o7 nd).length_eq,aY];lia
 exact⟨.ref (s.heap.objs.size+1),_,I.laid (t':=s.toks) (fun b o e=>sortedAll_old e) (dP _) (show dz X.prog X.w _ _ _ (.lst (dJ .non (a.map lS) f))from⟨x,_,c,yd nd l g,k⟩),rfl,q _ (I.hok.fresh (dP _))⟩
end Q
namespace PySem
noncomputable abbrev eT1(h:Heap)(t:Addr):Heap:=h.push {cls:=.type "tuple_iterator",data:=.fields #[.ref t,.int 0 0]}
noncomputable abbrev eT2(h:Heap)(t:Addr):Heap:=(eT1 h t).push {cls:=.type "enumerate",data:=.fields #[.none,.bool false,.ref h.objs.size,rawInt 0,.none,.none]}
def BQ(t:Addr)(xs:Array Value)(n:Nat)(c:Option Addr)(f:Array (Option Value)):
  Meets (Builtin.«enumerate.__new__» ⟨[.type "enumerate",.ref t],[]⟩) (fun _ R s=>s.heap.get? t=some {cls:=.type "tuple",dict:=c,data:=.seq xs n,slots:=f}/\R (.ok (.ret (.ref (eT1 s.heap t).objs.size))) {s with heap:=eT2 s.heap t}):=
 .of_wp fun j w A R s h=>by
  obtain⟨hp,g,d,tk,e⟩:=s;obtain⟨a,h⟩:=h;have i:=sub_enumerate;have b:Heap.IsTuple (Shared.heap ⟨hp,g,d,tk,e⟩) t xs:=⟨_,a,rfl,n,rfl⟩
  wp_walk using lK a
  refine wpAny_stack_any fun k=>aj ?_;split;·rename_i cc _ _ _ _ _;generalize(cc==lD "enumerate")=bb;cases bb<;>(wp_walk using lK a,jo b;exact⟨_,rfl,h⟩)
  ·wp_walk using lK a,jo b
   exact⟨_,rfl,h⟩
section
variable {E:Value->Shared->Prop}{s:Shared}
def EG{t:Addr}{xs:Array Value}{Q:Value->Shared->Prop}(i:s.heap.IsTuple t xs)
  (q:∀h',IsEnum h' (s.heap.objs.size+1) s.heap.objs.size 0 .none->h'.IsTupleIter s.heap.objs.size t 0->(∀c o,s.heap.get? c=some o->h'.get? c=some o)->Q (.ref (s.heap.objs.size+1)) {s with heap:=h'}):
  wpAny (model prog w) A (call (.type "enumerate") [.ref t]) Q E s:=by
 obtain⟨⟨c,b,d,k⟩,e,f,n,g⟩:=i;obtain rfl:c=lD "tuple":=f;obtain rfl:d=Data.seq xs n:=g;have l:(eT1 s.heap t).objs.size=s.heap.objs.size+1:=bD ..;have a:(eT2 s.heap t).get? (eT1 s.heap t).objs.size=some _:=ax _ rfl;have h:(eT2 s.heap t).get? s.heap.objs.size=some _:=ag _ (ax _ rfl);refine callType_new F.called_enumerate (by decide) (F.typeCall_enumerate_1 _) (F.newCall_enumerate_1 _) (fun j=>F.args_object_init_2 j _) F.entry_enumerate_new (BQ t xs n b k) ⟨e,?_⟩;show _/\_;rw[l]at a⊢;exact⟨⟨_,a,rfl⟩,q _ a ⟨_,h,rfl,rfl⟩ fun c o x=>ag _ (ag _ x)⟩
end
def drawsT(l:A.handled=none)(j t:Addr)(n:t≠j)(xs:Array Value):
  Draws prog w A j [j,t] xs.size (fun i v=>xs[i]? =some v) (fun i h=>h.IsTupleIter j t i/\h.IsTuple t xs) where
 live:=fun _ _ a=>by obtain⟨⟨o,b,_⟩,_⟩:=a;exact⟨o,b⟩
 frame:=fun _ _ _ a c=>by obtain⟨⟨o,b,r⟩,⟨e,p,q⟩⟩:=a;exact⟨⟨o,c j (by simp) o b,r⟩,⟨e,c t (by simp) e p,q⟩⟩
 item:=fun i s Q E hi a k=>K5 a.1 a.2 (v:=xs[i]) (by simp[hi]) fun f m d=>k _ f s.toks (by simp[hi]) ⟨m,a.2.extBut d.extBut n⟩ d
 done:=fun s Q E a g=>FE l a.1 a.2 (by simp) g
end PySem
namespace L2
open PySem PySem.Spec PyProof.Rows
noncomputable abbrev Itet(K:ah)(a:Addr):It:=IteG fun H xs=>SqT K H a xs
def en_tup(a f:Addr):En a f (fun K H xs=>SqT K H a xs) (fun i h=>h.IsTupleIter f a i) where
 obj:=fun i h j=>by obtain⟨o,p,c,d⟩:=j;exact⟨o,p,fun v z=>by rw[d]at z;cases z⟩
 kp:=fun i h l j k=>by obtain⟨o,u,r⟩:=j;exact⟨o,k o u,r⟩
 one:=fun I h l=>I.sP h l
 src:=fun{X _ _ _ s xs i} I m hq n=>by
  obtain⟨g,y,b,A⟩:=I.tuple hq;have b:s.heap.IsTuple a g.toArray:=b;have t:a≠f:=by obtain⟨B,w,x,_⟩:=id n;exact tup_ne b w (by rw[x];decide+kernel)
  exact⟨g,fun h=>h.IsTuple a g.toArray,y,b,fun e o q c=>bE (tup_ne b q (by rw[c];decide+kernel)),drawsT m f a t g.toArray,fun h Q E k=>FE m n b (EY h) k⟩
section
variable {es:List Expr}{kk:Nat}
def Eo(K:ah)(t:TA):TI:=fun σ H R=>t σ H fun vs H1=>∃a,vs=[.ref a]/\(∃xs,SqT K H1 a xs)/\R (Itet K a) H1
def Kx{l:Expr}{t:TA}{p:Pos}(k:Gl X "enumerate")(n:X.mg "enumerate"=none)(i:PA X [l] t)(o:bh [l] X.env=[(false,eval l X.env)]:=by rfl):
  PI X (.Tuple es kk pp) (.Call (.Name "enumerate" p) [l] [] pos) (Eo X.K t):=by
 intro x s D H R I h;refine Call_ (mL I k n boot_enumerate (d0 (thn (i pos x s D H _ I h) fun K C ⟨L,d,c,A,y⟩=>?_) o rfl));obtain⟨a,rfl,⟨M,hq⟩,q⟩:=y;obtain⟨u,rfl,B⟩:=A.one;cases B;obtain⟨v,G,b,F⟩:=c.tuple hq;have b:C.heap.IsTuple a v.toArray:=b;exact EG b fun E j m w=>c.enum (en_tup a _) j m w q fun r g tn J e t z f q=>⟨r,g,tn,J,d,rfl,e,t,z,f,q⟩
end
end L2
namespace L2
open PySem PySem.Spec PySem.W PyProof.Rows
section
variable {E:Value->Shared->Prop}{g:Array lF}{d:Drawn}{t:Nat}{os:OsState}{nm q:Str}{C N:Addr}{bs bm bmB:List Value}{hdct:Bool}{sn:List Str}{sub:List Value}{ab:Bool}{col:Option Bool}{dd:Option Addr}{k0 k1 k2 k3 k5:Option Value}{B newId initId:String}
noncomputable abbrev BH(h:Heap)(C:Addr)(rest:List Value):Heap:=(h.push {cls:=.type "tuple",data:=.seq rest.toArray}).push {cls:=.ref C,data:=.fields #[.ref h.objs.size,.none,.none,.none,.bool false,.none]}
def j9{o:Obj}(e:h.get? b=some o):(BH h C rest).get? b=some o:=ag _ (ag _ e)
def zO:(BH h C rest).get? (h.objs.size+1)=some {cls:=.ref C,data:=.fields #[.ref h.objs.size,.none,.none,.none,.bool false,.none]}:=Heap.get?_push_at (by rw[bD]) rfl
def vi(F:ExcBaseFacts B newId initId bmB)(T:OwnTail h bmB bm){f:Obj}{Q:dG->Shared->Prop}(a:h.get? C=some (jr nm q C N bs bm hdct sn sub ab col dd k0 k1 k2 k3 k5 newId))
  (m:h.Ns N mN)(hi:mN "__init__"=some (.ref fI))(hf:h.get? fI=some f)(l:f.cls=.type "function")(hrest:rest.length<=sizeLine)
  (hq:wpAny (model prog w) A (call (.ref fI) (.ref (h.objs.size+1)::rest)) (fun r s'=>r=.none/\Q (.done (.ret (.ref (h.objs.size+1)))) s') E ⟨BH h C rest,g,d,t,os⟩):
  wpAny (model prog w) A (Builtin.«type.__call__» ⟨.ref C::rest,[]⟩) Q E ⟨h,g,d,t,os⟩:=by
 repeat(first
  |with_reducible refine jK a ?_
  |with_reducible refine wpAny_madeBy_exc a ?_
  |wp_step)
 refine codeAny_call_builtin_code (uB _ F.quiet) (wpAny_check_new_subT F T a ?_);refine codeAny_exc_new_subT F T a ?_ hrest;show wpAny _ _ _ _ _ (⟨BH h C rest,g,d,t,os⟩:Shared);have c:=j9 (C:=C) (rest:=rest) a;have n:(BH h C rest).Ns N mN:=m.keeps fun b o e=>j9 e;have i:=T.keeps (h':=BH h C rest) fun b o e=>j9 e;have j:(bz C::bm).contains (.ref C)=true:=by simp
 have k:=zO (h:=h) (C:=C) (rest:=rest);unfold II;repeat(first
  |with_reducible refine jK k ?_
  | (with_reducible refine wpAny_isSubtype_exc c ?_;rw[j])
  |wp_step)
 show wpAny _ _ (typeLookup (.ref C) _) _ _ _;refine wpAny_typeLookup_tail c n i F.mroIs F.init.lookup ?_;rw[hi];refine bH (aa ?_);unfold bindSpecial;refine aa (AA (T:="function") ⟨_,j9 hf,l⟩ ?_);rw[if_pos (by decide)];refine aj (aa (cL hq (fun r s' z=>?_) fun _ _ z=>z));obtain⟨rfl,z⟩:=z
 wp_walk
 exact z
def Ik(F:ExcBaseFacts B newId initId bmB)(T:OwnTail h bmB bm){b:Obj}{Q:Value->Shared->Prop}(a:h.get? C=some (jr nm q C N bs bm hdct sn sub ab col dd k0 k1 k2 k3 k5 newId))
  (e:h.Ns N mN)(hi:mN "__init__"=some (.ref fI))(hf:h.get? fI=some b)(c:b.cls=.type "function")(hrest:rest.length<=sizeLine)
  (hq:wpAny (model prog w) (A.under (.builtin "type.__call__" ⟨.ref C::rest,[]⟩)) (call (.ref fI) (.ref (h.objs.size+1)::rest)) (fun r s'=>r=.none/\Q (.ref (h.objs.size+1)) s') E ⟨BH h C rest,g,d,t,os⟩):
  wpAny (model prog w) A (call (.ref C) rest) Q E ⟨h,g,d,t,os⟩:=by
 have f:=tc_lookup;have i:=tc_bind (.ref C);have j:(⟨h,g,d,t,os⟩:Shared).TypeIs (.ref C) "type":=⟨_,a,rfl⟩;refine iA (EU ?_);show wpAny _ _ (callAny (.ref C) _) _ _ _;repeat(any_goals (first
  |assumption
  |with_reducible refine jK a ?_
  |wp_step))
 refine⟨rfl,?_⟩;exact codeAny_call_builtin_at (uB _ (by decide+kernel)) entry_typeCall (wpAny_check_type_call_sub a (vi F T a e hi hf c hrest hq))
def Iu(F:ExcBaseFacts B newId initId bmB)(T:OwnTail h bmB bm){e:Addr}{Q:Value->Shared->Prop}(f:h.get? C=some (jr nm q C N bs bm hdct sn sub ab col dd k0 k1 k2 k3 k5 newId))
  (a:h.get? e=some {cls:=.ref C,data:=.fields #[.ref x0,.none,.none,.none,.bool false,.none]}) (hrest:rest.length<=sizeLine)
  (hq:∀h':Heap,(∀b o,b≠e->h.get? b=some o->h'.get? b=some o)->(∃b,h'.get? e=some {cls:=.ref C,data:=.fields #[.ref b,.none,.none,.none,.bool false,.none]})->h.objs.size<=h'.objs.size->Q .none ⟨h',g,d,t,os⟩):
  wpAny (model prog w) A (call (.builtin initId) (.ref e::rest)) Q E ⟨h,g,d,t,os⟩:=by
 refine iA (iC F.init.plain F.initEntry (wpAny_check_init_subT F T f a rfl ?_))
 wp_walk
 have j:=ay a;refine hq _ (fun b o i c=>?_) ⟨h.objs.size,?_⟩ ?_;·rw[aN _ _ (bE i)];exact ag _ c
 ·rw[bP _ (ag _ a) rfl];rfl
 ·rw[nF,bD];exact dP _
end
abbrev exO(e C:Addr)(d:Option Addr):HO:=.ext fun h=>∃x0,h.get? e=some {cls:=.ref C,dict:=d,data:=.fields #[.ref x0,.none,.none,.none,.bool false,.none]}
abbrev xdO(d:Addr)(fs:List (Str×V)):HO:=.ext fun h=>∃mA,h.Ns1 d mA/\(∀f,tN (fs.lookup f) (mA f))/\kG mA (fs.map (·.1))
abbrev isTT:Value->Bool
 |.type t=>decide (t="type")
 |_=>false
abbrev dCl(o:Option Obj)(k:ClassData->Array (Option Value)->Bool):Bool:=match o with
 |some o=>isTT o.cls&&(match o.data with
  |.cls cd=>k cd o.slots
  |_=>false)
 |none=>false
def dCl_of{o:Option Obj}{k:ClassData->Array (Option Value)->Bool}(h:dCl o k=true):∃od cd sl,o=some ⟨.type "type",od,.cls cd,sl⟩/\k cd sl=true:=by
 cases o with
 |none=>cases h
 |some o=>
  obtain⟨c,od,d,sl⟩:=o;obtain⟨a,b⟩:=fh.mp h;have e:c=.type "type":=by cases c<;>first |cases a|exact congrArg _ (of_decide_eq_true a)
  subst e;cases d<;>first |exact⟨_,_,_,rfl,b⟩ |cases b
abbrev dMr(l:List Value)(k:Addr->List Value->Bool):Bool:=match l with
 |.ref c::bm=>k c bm
 |_=>false
def dMr_of{l:List Value}{k:Addr->List Value->Bool}(h:dMr l k=true):∃c bm,l=.ref c::bm/\k c bm=true:=by
 cases l with
 |nil=>cases h
 |cons v bm=>cases v<;>first |exact⟨_,_,rfl,h⟩ |cases h
abbrev dBn(o:Option Value)(k:String->Bool):Bool:=match o with
 |some (.builtin n)=>k n
 |_=>false
def dBn_of{o:Option Value}{k:String->Bool}(h:dBn o k=true):∃n,o=some (.builtin n)/\k n=true:=by
 cases o with
 |none=>cases h
 |some v=>cases v<;>first |exact⟨_,rfl,h⟩ |cases h
def lN{b:Type}{l:List b}(h:l.length=n+1):∃a r,l=a::r/\r.length=n:=by
 cases l with
 |nil=>cases h
 |cons a r=>exact⟨a,r,rfl,jU h⟩
abbrev tF(K:ah)(C f:Addr)(bmB:List Value)(newId:String):Bool:=dCl (K.lookup C) fun cd sl=>dMr cd.mro fun a bm=>decide (sl.toList.length=6)&&dBn (sl.toList.getD 4 none) fun n=>
 a==C&&n==newId&& !cd.hasDel&&tailIn K bmB bm&&nsOkIn K cd.ns&&nsIn K cd.ns "__init__"==some (some (.ref f))
def ns_some{N:Addr}{n:Str}{v:Value}(X:K.In h)(G:h.Ns N mg)(e:nsIn K N n=some (some v)):mg n=some v:=by
 obtain⟨o,d,c,b,a,_,hf⟩:=G;unfold nsIn at e;split at e
 ·rename_i q;have z:=X _ _ q;rw[b]at z;cases z;cases a;split at e;·rename_i en he;rw[<-hf];unfold nsFind findBy;rw[<-tT,he];simpa using e
  ·split at e<;>cases e
 ·cases e
def ExcO(h:Heap)(C f:Addr)(bmB:List Value)(newId:String):Prop:=∃nm b N bs bm a sn sub ab col dd k0 k1 k2 k3 k5 mN,h.get? C=some (jr nm b C N bs bm a sn sub ab col dd k0 k1 k2 k3 k5 newId)/\h.Ns N mN/\mN "__init__"=some (.ref f)/\OwnTail h bmB bm
def wD{newId:String}(a:K.In h)(q:tF K C f bmB newId=true):ExcO h C f bmB newId:=by
 obtain⟨od,cd,F,v,q⟩:=dCl_of q;obtain⟨k,l,u,q⟩:=dMr_of q;obtain⟨E,q⟩:=fh.mp q;obtain⟨n,c,q⟩:=dBn_of q;obtain⟨x,W,d,G⟩:=lN (of_decide_eq_true E);obtain⟨y,X,e,H⟩:=lN G;obtain⟨z,Y,g,I⟩:=lN H;obtain⟨A,Z,i,J⟩:=lN I;obtain⟨B,r4,j,L⟩:=lN J;obtain⟨D,r5,b,M⟩:=lN L;rw[e,g,i,j,b,bA.mp M]at d;rw[d]at c;have c:B=some (.builtin n):=c;subst c;have w:=d;rw[az,az,az,az,az,beq_iff_eq,beq_iff_eq,beq_iff_eq]at q;obtain⟨⟨⟨⟨⟨e,g⟩,i⟩,j⟩,b⟩,p⟩:=q;subst e;subst g;obtain⟨N,P,o,Q,R,S,T,U,V,O,m⟩:=cd;have r:o=.ref k::l:=u;have s:m=false:=by simpa using i
 have t:F= #[x,y,z,A,some (.builtin n),D]:=by
  apply AQ
  exact w
 subst r;subst s;subst t;exact⟨_,_,_,_,_,_,_,_,_,_,_,_,_,_,_,_,_,a _ _ v,.of_isNs (isNs_of_in a b),ns_some a (.of_isNs (isNs_of_in a b)) p,tail_of_in a j⟩
structure MkX(K:ah)(C f:Addr):Prop where
 ex:tF K C f bmV "ValueError.__new__"=true
 fn:∃o,K.lookup f=some o/\o.cls=.type "function"
 kp:keepIn K (.ref C)=true
section
variable {CX:CXT}{C f:Addr}{fd:fg}{ps:List Str}{sp:Sp}{ds:List Value}{E:XK}
def Hg{Q:VK}{vs:List V}(M:MkX X.K C f)(F:jm X.prog X.w X.K X.mg X.base CX k f fd ps sp)(y:i5 (k+1) X.A)(o:Binds X.K fd ps ds)(p:bG am ds)
  (A:∀(H':Hp)(i:Shared)(e:Value)(s':Shared),Inv X pins σ H' i->CX X.stack H' i E e s'->X.xe e s')(I:Inv X pins σ H s)(r:bG vs us)(w:vs.length<=sizeLine)
  (h:∀x,s.heap.objs.size<=x->H x=none->sp (.ref x::(vs++am)) (upd H x (exO x C none)) (fun v H2=>v=.non/\Q (.ref x) H2) E):
  wpAny (model X.prog X.w) X.A (call (.ref C) us) (EP X pins σ Q) X.xe s:=by
 have hq:=h (s.heap.objs.size+1) (dP _) (I.hok.fresh (dP _));obtain⟨nm,qn,N,bs,K,U,sn,sub,J,L,O,W,Y,Z,k3,k5,mN,m,n,hi,T⟩:=wD (bmB:=bmV) I.kIn M.ex;obtain⟨oI,hf,q⟩:=M.fn;have c:Inv X pins σ (upd H (s.heap.objs.size+1) (exO (s.heap.objs.size+1) C none)) {s with heap:=BH s.heap C us}:=by refine I.laid (t':=s.toks) (fun b a0 e=>j9 e) (dP _) ?_;exact⟨⟨_,zO⟩,⟨_,zO⟩,fun R S ⟨G,z⟩ k=>⟨G,k _ z⟩⟩
 have g:bG (V.ref (s.heap.objs.size+1)::(vs++am)) (bz (s.heap.objs.size+1)::(us++ds)):=.cons rfl (r.append p);have t:(bz (s.heap.objs.size+1)::us++ds).length=ps.length:=by have e:=g.length;rw[F.len _ _ _ _ hq]at e;exact e.symm
 obtain⟨d,P,dr,tk,os⟩:=s;refine Ik (fI:=f) kJ T m n hi (I.kIn _ _ hf) q (by rw[<-r.length];exact w) ?_;refine iA (jO (F.run _ X.stack _ _ ⟨bz (d.objs.size+1)::us,[]⟩ (bz (d.objs.size+1)::(us++ds)) _ _ E (y.make C us []) (c.env0.make C us []) (o _ (bz (d.objs.size+1)::us) c.kIn t) g hq) fun r s' a=>?_);cases r with
 |error e=>exact A _ _ e s' c a
 |ok fl=>
  cases fl with
  |ret u=>obtain⟨v,H',j,D,l,B⟩:=c.after a;subst l;exact⟨D,⟨V.ref (d.objs.size+1),H',j,rfl,B⟩⟩
  |next =>exact gL a
  |brk=>exact gL a
  |cont=>exact gL a
end
end L2
namespace L2
open PySem PySem.Spec PySem.W PyProof.Rows PySem.Builtin PySem.Builtin.ObjectAttr
abbrev Bs:List Value->Bool
 |.ref _::r=>Bs r
 |l=>l==bmV
def refuseV(a:Value):refuseLoop a "__setattr__" bmV=pure ():=by kernel_rfl
theorem Fk(a:Value):∀{l:List Value},Bs l=true->refuseLoop a "__setattr__" l=pure ()
 |.ref c::r,e=>by rw[refuseLoop_ref];exact Fk a e
 | [],e=>by cases e
 |.type n::r,e=>by rw[show(.type n::r:List Value)=bmV from beq_iff_eq.mp e];exact refuseV a
 |.none::r,e=>by cases e
 |.ellipsis::r,e=>by cases e
 |.notImplemented::r,e=>by cases e
 |.bool _::r,e=>by cases e
 |.int _ _::r,e=>by cases e
 |.float _ _::r,e=>by cases e
 |.str _ _::r,e=>by cases e
 |.bytes _ _::r,e=>by cases e
 |.builtin _::r,e=>by cases e
theorem yc:∀{l:List Value},Bs l=true->l.contains (.type "object")=true
 |.ref c::r,e=>by rw[List.contains_cons,yc (l:=r) e,GQ]
 | [],e=>by cases e
 |.type n::r,e=>by rw[show(.type n::r:List Value)=bmV from beq_iff_eq.mp e];decide
 |.none::r,e=>by cases e
 |.ellipsis::r,e=>by cases e
 |.notImplemented::r,e=>by cases e
 |.bool _::r,e=>by cases e
 |.int _ _::r,e=>by cases e
 |.float _ _::r,e=>by cases e
 |.str _ _::r,e=>by cases e
 |.bytes _ _::r,e=>by cases e
 |.builtin _::r,e=>by cases e
section
variable {R:Result->Shared->Prop}{s:Shared}{x C:Addr}
def Bu{r:Obj}{od:Option Obj}{name:Str}{tk:Tok}{v:Value}(X:K.In s.heap)(I:InstAt s.heap x r C od)(hp:(clsIn K C).any (fun cd=>Bs cd.mro)=true)(p:takerIn K C name=some none)
  (h:∀b,wpAny (model prog w) A.in1 (storeInOwnDict (.ref x) (.ref C) (.str name tk) name v b)
   (fun k s'=>match k with |.done f=>R (.ok f) s'|.again c'=>c'.quiet=true/\gA (model prog w) A c' R s') (fun e s'=>R (.error e) s') s):
  gA (model prog w) A (.call (.builtin "object.__setattr__") ⟨[.ref x,.str name tk,v],[]⟩) R s:=by
 have c:=PySem.F.store_object;obtain⟨cd,i,d⟩:=any_some hp;have ne:cd.mro.isEmpty=false:=by cases q:cd.mro with |nil=>rw[q]at d;cases d|cons _ _=>rfl
 have sub:Looks (model prog w) s.heap (II (.ref x) (.type "object")) true:=I.type.andThen (looks_mroIn X (by unfold mroIn;rw[i,fE,if_neg (by rw[ne];decide),yc d]));refine iC c.slot.plain c.entry (@check_slot (model prog w) _ _ s "object.__setattr__" "object" "__setattr__" (.ref x) [.str name tk,v] [] _ c.kind c.split sub (c.args (.ref x) (.str name tk) v) ?_);obtain⟨g,l,o⟩:=Option.bind_eq_some_iff.mp p;have n:Looks (model prog w) s.heap (mroOf (.ref C)) cd.mro:=(looks_clsIn X i).andThen .now;have j:Looks (model prog w) s.heap (storeTaker? g) none:=by
  cases g with
  |none=>exact .now
  |some a=>
   obtain⟨b,m,q⟩:=iW.mp o;refine(looks_takesIn X m).andThen ?_;cases b;·exact .now
   ·cases q
 rw[osa_eq,refuse_eq];refine aa (aa (I.type.here (aa (n.here ?_))));rw[Fk _ d];refine aj (aa (I.type.here (aa ((sE X l).here (aa (j.here ?_))))));exact h _
end
section
variable {E:Value->Shared->Prop}{s:Shared}{e C:Addr}{name:Str}{v:Value}{vs:Array Value}{Q:Unit->Shared->Prop}
structure StX(K:ah)(C:Addr)(name:Str):Prop where
 hs:findIn K (.ref C) "__setattr__"=some (some (.builtin "object.__setattr__"))
 hp:(clsIn K C).any (fun cd=>Bs cd.mro)=true
 ht:takerIn K C name=some none
 hd:(clsIn K C).any (·.hasDict)=true
noncomputable abbrev mY(C:Addr)(d:Option Addr)(vs:Array Value):Obj:={cls:=.ref C,dict:=d,data:=.fields vs}
def L8(a:h.get? e=some (mY C none vs)):InstAt h e (mY C none vs) C none:=⟨a,rfl,rfl,trivial⟩
def L7{d:Addr}{o:Obj}(b:h.get? e=some (mY C (some d) vs))(a:h.get? d=some o):InstAt h e (mY C (some d) vs) C (some o):=⟨b,rfl,rfl,a⟩
def DG(X:K.In s.heap)(S:StX K C name)(a:s.heap.get? e=some (mY C none vs))
  (h:∀h',h'.get? e=some (mY C (some s.heap.objs.size) vs)->h'.Ns1 s.heap.objs.size (fun y=>if y=name then some v else none)->(∀b o,b≠e->s.heap.get? b=some o->h'.get? b=some o)->Q () {s with heap:=h',toks:=s.toks+2}):
  wpAny (model prog w) A (setAttr (.ref e) name v) Q E s:=by
 have I:=L8 a;refine set_plain X I S.hs (Bu (s:={s with toks:=s.toks+1}) X I S.hp S.ht fun b=>?_);obtain⟨cd,k,m⟩:=any_some S.hd;refine aa (aj (aa (aa (IB a (aa (AK (s:={s with toks:=s.toks+1}) (GH X k) ?_))))));rw[m];show wpAny _ _ (alloc {cls:=.type "dict",data:=.dict #[]}>>=_) _ _ _;have c:(s.heap.push {cls:=.type "dict",data:=.dict #[]}).get? e=some (mY C none vs):=ag _ a;have r:=ay a;refine aa (wpAny_alloc (aa (wpAny_update c ?_)));show wpAny _ _ (pure (some s.heap.objs.size)) _ _ _;refine aj ?_;show wpAny _ _ (pure ()>>=_) _ _ _;refine aa (aj (aa ?_));have f:s.heap.objs.size≠e:=eK r;have n:((s.heap.push {cls:=.type "dict",data:=.dict #[]}).update e fun o=>{o with dict:=some s.heap.objs.size}).get? s.heap.objs.size=some {cls:=.type "dict",data:=.dict #[]}:=by rw[aN _ _ (bE f)];exact ax _ rfl
 have t:((s.heap.push {cls:=.type "dict",data:=.dict #[]}).update e fun o=>{o with dict:=some s.heap.objs.size}).Ns1 s.heap.objs.size (fun _=>none):=
  ⟨_,#[],_,n,rfl,fun x B=>by simp at B,jV,fun y=>rfl⟩
 have z:kG (fun _=>none:Str->Option Value) []:=kG.nil;refine wpAny_nsSet1 t fun h' d g=>?_;obtain⟨G,F,D,u,p,l⟩:=d.count (C5 name v z);refine aa (wpAny_lookBehind u (by rw[p];exact pastItsLine_dict (aF l (by show 1<=sizeLine+1;decide))) ?_);refine aj (h _ ?_ d fun b o i q=>?_);·rw[g.2 _ (bE f),bP _ c rfl]
 ·have j:b≠s.heap.objs.size:=aK (ay q);rw[g.2 _ j,aN _ _ (bE i)];exact ag _ q
def G8{d:Addr}{g:List Str}(X:K.In s.heap)(S:StX K C name)(a:s.heap.get? e=some (mY C (some d) vs))(c:s.heap.Ns1 d mA)(q:kG mA g)(B:g.length<sizeLine)
  (h:∀h',h'.Ns1 d (fun y=>if y=name then some v else mA y)->dm d s.heap h'->Q () {s with heap:=h',toks:=s.toks+2}):
  wpAny (model prog w) A (setAttr (.ref e) name v) Q E s:=by
 obtain⟨o,u,r,m,z⟩:=id c;have I:=L7 a m;refine set_plain X I S.hs (Bu (s:={s with toks:=s.toks+1}) X I S.hp S.ht fun b=>?_);obtain⟨cd,i,k⟩:=any_some S.hd;refine aa (aj (aa (aa (IB a (aa (AK (s:={s with toks:=s.toks+1}) (GH X i) ?_))))));rw[k];show wpAny _ _ (pure (some d)) _ _ _;refine aj ?_;show wpAny _ _ (pure ()>>=_) _ _ _;refine aa (aj (aa ?_));refine wpAny_nsSet1 (s:={s with toks:=s.toks+1}) c fun h' f p=>?_;obtain⟨D,x,t,n,l,j⟩:=f.count (C5 name v q);refine aa (wpAny_lookBehind n (by rw[l];exact pastItsLine_dict (aF j (by rw[ba];lia))) ?_);exact aj (h _ f p)
end
end L2
namespace L2
open PySem PySem.Spec PySem.W PyProof.Rows
section
variable {pins:List (Addr×Obj)}{s:Shared}{E:Value->Shared->Prop}{a C:Addr}{f:Str}
def xd_ok{d:Addr}{fs:List (Str×V)}(H:Hp)(n:h.Ns1 d mA)(r:∀f,tN (fs.lookup f) (mA f))(a:kG mA (fs.map (·.1))):dz P w H h d (xdO d fs):=
 ⟨⟨mA,n,r,a⟩,let⟨o,_,_,e,_⟩:=n;⟨o,e⟩,fun b c ⟨m,n,r⟩ k=>⟨m,n.at k,r⟩⟩
def ex_ok{e:Addr}(H:Hp)(q:h.get? e=some (mY C d #[.ref x0,.none,.none,.none,.bool false,.none])):dz P w H h e (exO e C d):=
 ⟨⟨x0,q⟩,⟨_,q⟩,fun a b ⟨x,z⟩ k=>⟨x,k _ z⟩⟩
def JU{Q:Unit->Shared->Prop}(I:Inv X pins σ H s)(e:H a=some (exO a C none))(S:StX X.K C f)(D:RelV y u)
  (h:∀s' dd,H dd=none->Inv X pins σ (upd (upd H dd (xdO dd [(f,y)])) a (exO a C (some dd))) s'->Q () s'):wpAny (model X.prog X.w) A (setAttr (.ref a) f u) Q E s:=by
 obtain⟨⟨J,i⟩,_⟩:=I.hok a _ e;refine DG I.kIn S i fun F d p z=>h _ s.heap.objs.size (I.hok.fresh (av _)) ?_;obtain⟨od,n,m,l,r⟩:=id p;have G:H s.heap.objs.size=none:=I.hok.fresh (av _);have w:s.heap.objs.size≠a:=eK (ay i);have c:(s.heap.push od).get? s.heap.objs.size=some od:=ax _ (Obj.isFreed_of_dict r.1);have B:(s.heap.push od).Ns1 s.heap.objs.size (fun y=>if y=f then some u else none):=⟨od,n,m,c,r⟩;have j:Inv X pins σ (upd H s.heap.objs.size (xdO s.heap.objs.size [(f,y)])) {s with heap:=s.heap.push od,toks:=s.toks}:=by
  refine I.laid (t':=s.toks) (fun b o q=>ag _ q) (av _) (xd_ok _ B (fun g=>?_) fun g v=>?_)
  ·by_cases q:g=f;·subst q;simp[cS];exact D
   ·have :(g==f)=false:=by simpa using q
    simp[cS,this,q];exact True.intro
  ·by_cases q:g=f;·simp[q]
   ·exact absurd (if_neg q) v
 have k:upd H s.heap.objs.size (xdO s.heap.objs.size [(f,y)]) a=some (exO a C none):=by rw[aW (bE w)];exact e
 refine j.write (x:=a) (e:=a) (t':=s.toks+2) (by rw[k];exact True.intro) (.inl rfl) (fun b o t q=>?_) ⟨_,d⟩ (ex_ok _ d);by_cases hbs:b=s.heap.objs.size;·subst hbs;have q:(s.heap.push od).get? s.heap.objs.size=some o:=q;rw[c]at q;cases q;exact l
 ·refine z b o t ?_;have q:(s.heap.push od).get? b=some o:=q;rw[Heap.get?_push_ne _ _ _ hbs]at q;exact q
def JT{fs:List (Str×V)}{Q:Unit->Shared->Prop}(I:Inv X pins σ H s)(e:H a=some (exO a C (some dd)))(c:H dd=some (xdO dd fs))(B:fs.length<1000)(S:StX X.K C f)(v:RelV y u)
  (h:∀s',Inv X pins σ (upd H dd (xdO dd (mF f y fs))) s'->Q () s'):wpAny (model X.prog X.w) A (setAttr (.ref a) f u) Q E s:=by
 obtain⟨⟨D,n⟩,_⟩:=I.hok a _ e;obtain⟨⟨d,t,r,j⟩,_⟩:=I.hok dd _ c;refine G8 I.kIn S n t j (by rw[ai,pE];lia) fun k i w=>h _ ?_;have m:∃o,k.get? dd=some o:=let⟨o,_,_,e',_⟩:=i;⟨o,e'⟩;refine I.write (x:=dd) (e:=dd) (t':=s.toks+2) (by rw[c];exact True.intro) (.inl rfl) (fun b o l q=>(w.2 b l).trans q) m (xd_ok _ i (fun g=>?_) fun g p=>?_)
 ·show tN ((mF f y fs).lookup g) (if g=f then some u else d g);rw[t8];by_cases q:g=f;·rw[if_pos q,if_pos q];exact v
  ·rw[if_neg q,if_neg q];exact r g
 ·by_cases q:g=f;·rw[q];exact(tj f y fs).1
  ·refine(tj f y fs).2 g (j g fun z=>p ?_);show(if g=f then some u else d g)=none;rw[if_neg q];exact z
end
def sFldX(K:ah)(ta tv:TE)(f:Str):TS:=fun D σ H=>tv σ H fun y H1=>ta σ H1 fun x H2=>∃a C,x=.ref a/\StX K C f/\
 ((H2 a=some (exO a C none)/\∀dd,H2 dd=none->D.nx σ (upd (upd H2 dd (xdO dd [(f,y)])) a (exO a C (some dd))))\/
  ∃dd fs,H2 a=some (exO a C (some dd))/\H2 dd=some (xdO dd fs)/\fs.length<1000/\D.nx σ (upd H2 dd (xdO dd (mF f y fs))))
section
variable {value:Expr}{f:Str}{ta tv:TE}
def ps_fldX(r:PE X o ta)(z:PE X value tv)(w:qI value (some (.Attribute o f pos')) pos.line X.env=pure false):PS X (.Assign [.Attribute o f pos'] value pos) (sFldX X.K ta tv f):=by
 intro i s b H D I h;refine plainObj_wpAny_Assign_Attribute (thn (z i s b H _ I h) fun u F ⟨y,l,m,j,q⟩=>thn (r i F b l _ m q) fun A K ⟨x,J,d,E,a,C,p,S,B⟩=>?_) w;subst p;obtain rfl:A=bz a:=E;rcases B with⟨e,k⟩ |⟨g,fs,e,n,v,k⟩;·exact JU d e S j fun G g t c=>⟨b,_,c,k g t⟩
 ·exact JT d e n v S j fun G c=>⟨b,_,c,k⟩
end
structure BsX(K:ah)(B:Addr):Prop where
 ga:specialIn K (.ref B) "__getattribute__"=some (some (.builtin "type.__getattribute__"))
 rd:readsIn K B (.type "type")=true
 fd:findCls K (.ref B) (.type "type") "__init__"=some (.val (.builtin "ValueError.__init__"))
def tBase(K:ah)(B:Addr)(t:TA):TE:=fun σ H Q=>BsX K B/\t σ H fun vs H1=>∃a C f us,vs=.ref a::us/\H1 a=some (exO a C none)/\us.length<=sizeLine/\tF K C f bmV "ValueError.__new__"=true/\Q .non H1
section
variable {x:Str}{B:Addr}{es:List Expr}{t:TA}{apos:Pos}
def Ka{Q:VK}(I:Inv X pins σ H s)(e:H a=some (exO a C none))(m:us.length<=sizeLine)(p:tF X.K C f bmV "ValueError.__new__"=true)(q:Q .non H):
  wpAny (model X.prog X.w) X.A (call (.builtin "ValueError.__init__") (.ref a::us)) (EP X pins σ Q) X.xe s:=by
 obtain⟨⟨S,l⟩,_⟩:=I.hok a _ e;obtain⟨O,P,N,bs,v,B,R,sub,u,w,y,F,G,J,K,L,M,j,A,hi,T⟩:=wD (bmB:=bmV) I.kIn p;obtain⟨D,h,dr,tk,t⟩:=s;refine Iu kJ T j l m fun i r ⟨b,g⟩ E=>?_;have n:upd H a (exO a C none)=H:=by
  funext c
  by_cases z:c=a;·rw[z,aq,e]
  ·rw[aW z]
 have d:Inv X pins σ (upd H a (exO a C none)) ⟨i,h,dr,tk,t⟩:=I.write (x:=a) (e:=a) (t':=tk) (by rw[e];exact True.intro) (.inl rfl) (fun b o k q=>r b o k q) ⟨_,g⟩ (ex_ok _ g);rw[n]at d;exact⟨.non,H,d,rfl,q⟩
def Lj{env:Env}{name:Str}{a:List Expr}{Q:Value->Shared->Prop}
  (g:MS o name env (eval o env)=eval o env)
  (i:((backTo pos (bh a env)).all (fun x=> !x.1)&&(AF pos (pF [] env)).all (fun x=>x.1.isSome)
   &&decide (a.length+([]:List Keyword).length+(if([]:List Keyword).isEmpty then 0 else 1)<30))=true)
  (k:(apos.endLine==pos.line)=true)
  (h:wpAny (model prog w) A (eval o env) (fun c d=>∀pl,wpAny (model prog w) A (getMethod c name pl) (fun b f=>wpAny (model prog w) A (callWith pos b.1 b.2 (backTo pos (bh a env)) (AF pos (pF [] env))) Q E f) E d) E s):
  wpAny (model prog w) A (eval (.Call (.Attribute o name apos) a [] pos) env) Q E s:=by
 rw[arm_eval_Call,g];refine aa (cL h (fun c d m=>?_) fun _ _ e=>e);refine aa (gM ?_);have j:methodCallForm (a.length+([]:List Keyword).length) (backTo pos (bh a env)) (AF pos (pF [] env))=true:=i;have l:methodCallPos true o env apos pos=pure pos:=by unfold methodCallPos;simp[k]
 unfold methodCall;rw[j];refine aa (bH (cL (m _) (fun b f n=>?_) fun _ _ e=>e));exact aa (pC l n)
def pe_base(m:Gl X x)(p:X.mg x=some (.ref B))(j:PA X (e::es) t)(k:(x==("__debug__":Str))=false)(u:bh (e::es) X.env=(false,eval e X.env)::bh es X.env)(r:(backTo pos (bh es X.env)).any (·.1)=false)
  (l:((backTo pos (bh (e::es) X.env)).all (fun x=> !x.1)&&(AF pos (pF [] X.env)).all (fun x=>x.1.isSome)
   &&decide ((e::es).length+([]:List Keyword).length+(if([]:List Keyword).isEmpty then 0 else 1)<30))=true)
  (o:(apos.endLine==pos.line)=true):
  PE X (.Call (.Attribute (.Name x np) "__init__" apos) (e::es) [] pos) (tBase X.K B t):=by
 intro w s y H Q I h;obtain⟨b,h⟩:=h;refine Lj rfl l o (mK I m p (fun D=>?_) k);refine PySem.W.method_cls I.kIn b.ga (PySem.W.cls_value I.kIn b.rd b.fd (by decide+kernel) ?_);refine iQ (thn (j pos w _ y H _ (I.tok (s.toks+1)) h) fun F E z=>?_) u r;obtain⟨G,A,d,c,a,C,f,J,g,i,n,v,q⟩:=z;subst g;cases c with
 |cons r0 c=>cases r0;exact Ka d i (by rw[<-c.length];exact n) v q
end
abbrev del(H:Hp)(a:Addr):Hp:=fun b=>if b=a then none else H b
def fk:del H a a=none:=if_pos rfl
def fG(h:b≠a):del H a b=H b:=if_neg h
section
variable {M:Model}{E:Value->Shared->Prop}{env:Env}{nm q:Str}{C N:Addr}{bs bm:List Value}{hdct:Bool}{sn:List Str}{sub:List Value}{ab:Bool}{col:Option Bool}{dd:Option Addr}{k0 k1 k2 k3 k5:Option Value}{newId:String}
def DL{x:Sem Value}{Q:Flow->Shared->Prop}(f:bm.contains (.type "BaseException")=true)(k:A.handled=none)
  (h:wpAny M A x (fun v a=>∃e t dx,v=.ref e/\a.heap.get? C=some (jr nm q C N bs bm hdct sn sub ab col dd k0 k1 k2 k3 k5 newId)/\
   a.heap.get? e=some (mY C dx #[.ref t,.none,.none,.none,.bool false,.none])/\E (.ref e) a) E s):
  wpAny M A (raiseStmt env (some x) none) Q E s:=by
 have i:(bz C::bm).contains (.type "BaseException")=true:=by rw[List.contains_cons,f,GQ]
 unfold raiseStmt;refine aa (cL h (fun v a l=>?_) fun _ _ x=>x);obtain⟨e,t,dx,rfl,b,j,c⟩:=l;obtain⟨hp,g,d,tk,m⟩:=a;repeat(first |with_reducible refine jK j ?_ |with_reducible refine jK b ?_ | (with_reducible refine wpAny_isSubtype_exc b ?_;rw[i]) |wp_step)
 exact wpAny_raiseNew_none k c
end
section
variable {pins:List (Addr×Obj)}{s:Shared}
theorem Inv.del{g:Heap->Prop}(I:Inv X pins σ H s)(e:H a=some (.ext g)):Inv X pins σ (L2.del H a) s:=by
 have ne:∀{b:Addr}{o:HO},H b=some o->(∀j,o≠.ext j)->b≠a:=fun{b o} q n z=>by rw[z,e]at q;exact n g (bc q).symm
 refine⟨I.ok,I.os,I.bare,⟨I.base.keep,I.base.slot,fun b o q n d=>?_,I.base.there,fun b f q=>?_,fun b o u q=>?_,fun b h q=>?_⟩,I.loc,I.cell,?_,fun x c q=>?_,fun p q=>?_,fun b u q=>?_,I.len⟩
 ·by_cases z:b=a;·rw[z];exact fk
  ·rw[fG z];exact I.base.free b o q n d
 ·have r:=I.base.tups b f q;rw[fG (ne r fun _ z=>by cases z)];exact r
 ·have r:=I.base.frzs b o u q;rw[fG (ne r fun _ z=>by cases z)];exact r
 ·obtain⟨more,r⟩:=I.base.tbls b h q;exact⟨more,by rw[fG (ne r fun _ z=>by cases z)];exact r⟩
 ·by_cases z:X.env.locals=a;·rw[z];exact fk
  ·rw[fG z];exact I.free
 ·by_cases z:c=a;·rw[z];exact fk
  ·rw[fG z];exact I.freeC x c q
 ·obtain⟨i,n,r⟩:=I.pin p q;refine⟨i,?_,r⟩;by_cases z:p.1=a;·rw[z];exact fk
  ·rw[fG z];exact n
 ·by_cases d:b=a;·rw[d,fk]at q;cases q
  ·rw[fG d]at q;exact(I.hok b u q).sR (fun _ _ _ r=>r) (fun c r=>by rw[fG (ne r fun _ z=>by cases z)];exact r) fun c f r=>by rw[fG (ne r fun _ z=>by cases z)];exact r
structure NewX(X:Cx)(pins:List (Addr×Obj))(H:Hp)(s:Shared)(a C:Addr)(d:Option Addr):Prop where
 at_:∃x0,s.heap.get? a=some (mY C d #[.ref x0,.none,.none,.none,.bool false,.none])
 new:X.s₀.heap.get? a=none
 un:H a=none
 pins:∀p∈X.pn++pins,p.1≠a
def yf{M:Model}{Q:Unit->Shared->Prop}(I:Inv X pins σ H s)(c:X.stack=X.env::X.outer)(hf:X.env.frame=some X.env.locals)(n:NewX X pins H s a C d)
  (h:∀s2,Inv X pins σ H s2->Fly X.s₀.heap s2.heap H (X.pn++pins) a (.ref C) d->Q () s2):
  wpAny M X.A (ng (.ref a) X.env) (fun _ s'=>wpAny M X.A (C1 (.ref a) none) Q E s') E s:=by
 obtain⟨e,b⟩:=n.at_;unfold ng;simp only[hf];refine aa (iz (x:=.none) b rfl (by rfl) ?_);rw[if_neg (show ¬(bL != bL)=true by simp)];exact enter I c hf b rfl (by simp) n.new n.un n.pins h
def EM(X:Cx)(E:XS):Prop:=∀(pins:List (Addr×Obj))(σ:St)(H:Hp)(s:Shared)(a C:Addr)(d:Option Addr),Inv X pins σ H s->NewX X pins H s a C d->E σ (.ref C) d H->X.xe (.ref a) s
def EH{cd:Value}{outer:List Env}{E:XK}:
  EM (Ai (CXx P w) P w K mg base N qual scope f cd A outer s H E) (fun _=>E):=by
 intro F L e G a C d I n q;show wpAny _ _ (leaving _ _) _ _ _;unfold leaving;refine aa (yf I rfl rfl n fun J b c=>?_);obtain⟨⟨T,y,D,x,B,i,l,m,o,p,r,t,u,v,j,k,_⟩,g,h,_⟩:=c;exact⟨a,.ref C,d,e,rfl,b.os,b.bare,b.base,b.hok,⟨⟨T,y,D,x,B,i,l,m,o,p,r,t,u,v,j,k,fun _ z=>nomatch z⟩,g,h,fun _ z=>nomatch z⟩,q⟩
def GZ{x n:Str}{b:Stmt}{c:List Stmt}{e:Pos}{g:TS}{D:Ends}(O:CZ X x n C i (b::c) g){f:Addr}(ok:X.Ok)
  (I:Inv (X.re X.A X.calm (X.pn++pins) (jW X pins D [.ExceptHandler (some (.Name x np)) (some n) (b::c) e])) pins' σ H s)(m:NewX (X.re X.A X.calm (X.pn++pins) (jW X pins D [.ExceptHandler (some (.Name x np)) (some n) (b::c) e])) pins' H s a f d)(h:ll X.K C i g D σ (.ref f) d H):
  jW X pins D [.ExceptHandler (some (.Name x np)) (some n) (b::c) e] (.ref a) s:=by
 have J:Inv X pins σ H s:=I.Jj ok fun p z=>cz _ z;exact yf J O.stk O.fr ⟨m.at_,m.new,m.un,fun p hp=>m.pins p (cz _ hp)⟩ fun l k j=>tJ O k j h
def JY(C:Addr)(sp:Sp)(am:List V)(E:XS)(t:TA):TS:=fun _ σ H=>t σ H fun vs H1=>vs.length<=sizeLine/\∀a,H1 a=none->
 sp (.ref a::(vs++am)) (upd H1 a (exO a C none)) (fun v H2=>v=.non/\∃d,H2 a=some (exO a C d)/\E σ (.ref C) d (del H2 a)) (E σ)
def Hj{CX:CXT}{y:fg}{sp:Sp}{E:XS}{x:Str}{i:List Expr}{t:TA}(Mk:MkX X.K C f)(F:jm X.prog X.w X.K X.mg X.base CX k f y ps sp)(hr:i5 (k+1) X.A)(W:Binds X.K y ps ds)(hd:bG am ds)
  (hx:yQ CX X E)(hg:Gl X x)(hm:X.mg x=some (.ref C))(S:PA X (e::i) t)(Z:X.calm=true)(a0:(x==("__debug__":Str))=false)
  (a3:bh (e::i) X.env=(false,eval e X.env)::bh i X.env)(a2:(backTo bo (bh i X.env)).any (·.1)=false)(a4:EM X E):
  PS X (.Raise (some (.Call (.Name x np) (e::i) [] bo)) none pos) (JY C sp am E t):=by
 intro u s g H D I h;obtain⟨nm,G,N,bs,bm,A,sn,sub,ab,col,dd,k0,k1,k2,k3,k5,mN,P,hN,hi,T⟩:=wD (bmB:=bmV) I.mod.kin Mk.ex;have Y:bm.contains (.type "BaseException")=true:=T.hasType (by decide+kernel);rw[arm_exec_Raise];show wpAny _ _ (do AB pos;raiseStmt X.env (some (do let v<-eval (.Call (.Name x np) (e::i) [] bo) X.env;AB pos;pure v)) none) _ _ s;refine aa (gM (DL (C:=C) (nm:=nm) (q:=G) (N:=N) (bs:=bs) (bm:=bm) (hdct:=A) (sn:=sn) (sub:=sub) (ab:=ab) (col:=col) (dd:=dd) (k0:=k0) (k1:=k1) (k2:=k2) (k3:=k3) (k5:=k5) (newId:="ValueError.__new__") Y (I.ok.hd Z) (aa (cL (Q:=fun v c=>∃a a9 M,v=.ref a/\c.heap.get? C=some (jr nm G C N bs bm A sn sub ab col dd k0 k1 k2 k3 k5 "ValueError.__new__")/\c.heap.get? a=some (mY C M #[.ref a9,.none,.none,.none,.bool false,.none])/\X.xe (.ref a) c) (E:=X.xe) ?_ (fun v c z=>aa (gM (aj z))) fun _ _ z=>z))));refine eZ (mK I hg hm ?_ a0);refine sF (h₀:=X.base) I.ok.mod.kin Mk.kp (thn (S bo u s g H _ I h) fun us c ⟨vs,H1,l,a6,a1,q⟩=>⟨l.kIn,?_⟩) a3 a2;refine cL (Hg (E:=E g) (Q:=fun v b=>∃a d,c.heap.objs.size<=a/\v=.ref a/\b a=some (exO a C d)/\E g (.ref C) d (del b a)) Mk F hr W hd (fun K s' e a8 L z=>hx u g K s' e a8 L z) l a6 a1 (fun a m U=>?_)) (fun v s2 z=>?_) fun _ _ z=>z
 ·have e:(fun(v:V)(b:Hp)=>v=.non/\∃d,b a=some (exO a C d)/\E g (.ref C) d (del b a))=fun v b=>v=.non/\∃j d,c.heap.objs.size<=j/\V.ref a=V.ref j/\b j=some (exO j C d)/\E g (.ref C) d (del b j):=by
   funext v b
   apply propext
   constructor;·rintro⟨o,d,p,r⟩;exact⟨o,a,d,m,rfl,p,r⟩
   ·rintro⟨o,b0,d,_,O,p,r⟩;cases O;exact⟨o,d,p,r⟩
  rw[<-e];exact q a U
 ·obtain⟨w',b,n,a7,a,d,m,rfl,w,R⟩:=z;cases a7;obtain⟨⟨J,B⟩,_⟩:=n.hok a _ w;refine⟨a,J,d,rfl,n.bk _ _ P,B,a4 u g (del b a) s2 a C d (n.del w) ⟨⟨J,B⟩,qN (aF l.sz m),fk,fun a5 hp=>?_⟩ R⟩;exact aK (aT (ay (l.pin a5 hp).1) m)
end
abbrev ke(K:ah)(C:Addr)(f:Str):Bool:=
 mX K C&&findIn K (.ref C) f==some none&&(match clsIn K C with |some cd=>cd.hasDict|none=>false)
def Er(r:RelV v u):handedIn u=true:=by
 cases v with
 |non=>cases r;rfl
 |bl b=>cases r;rfl
 |int i=>obtain⟨t,rfl⟩:=r;rfl
 |str x=>obtain⟨t,rfl⟩:=r;rfl
 |byt b=>obtain⟨t,rfl⟩:=r;rfl
 |flt b=>obtain⟨t,rfl⟩:=r;rfl
 |ref a=>cases r;rfl
 |ty n=>cases r;rfl
def Ls{d:Addr}{m:Str->Option Value}{f:Str}(N:h.Ns1 d m)(e:m f=some u):∃o,h.get? d=some o/\lookIn f o=some (some u):=by
 obtain⟨o,a,g,c,b,_,_,hf⟩:=N;refine⟨o,c,?_⟩;have q:=(hf f).trans e;unfold nsFind findBy at q;rw[<-tT]at q;unfold lookIn;rw[b];dsimp only;cases hz:a.toList.find? (·.key.isStr f)with
 |none=>rw[hz]at q;cases q
 |some en=>rw[hz]at q;simpa using q
def Cd{f:Str}{o:Obj}(F:ke K C f=true)(e:lookIn f o=some (some u)):vc K C (some o) f=some (.value u):=by
 unfold ke at F;rw[az,az,beq_iff_eq]at F;obtain⟨⟨_,b⟩,a⟩:=F;cases hc:clsIn K C with
 |none=>rw[hc]at a;cases a
 |some cd=>
  rw[hc]at a;unfold vc;rw[hc,fE,b,fE];have c:PySem.W.ownOf cd (some o) f=some (some u):=by unfold PySem.W.ownOf;rw[if_pos a];exact e
  simp[c]
section
variable {E:Value->Shared->Prop}{s:Shared}{a C:Addr}{o:Obj}{od:Option Obj}{f:Str}{u:Value}
def MF{tk:Tok}{R:Result->Shared->Prop}(b:K.In s.heap)(J:InstAt s.heap a o C od)(F:w6 K C)(hf:vc K C od f=some (.value u))(h:R (.ok (.ret u)) s):
  gA (model prog w) A (.call (.builtin "BaseException.__getattribute__") ⟨[.ref a,.str f tk],[]⟩) R s:=by
 obtain⟨i,g,d,t,j⟩:=s;have c:=J.type (M:=model prog w);have e:=looks_find (M:=model prog w) b J hf;refine iC fY.ga.plain Di (wX b J F ?_);unfold Builtin.«object.__getattribute__»;repeat(first |with_reducible refine iA ?_ |lk|wp_step)
 exact h
def exc_fld{b:Bool}{Q:Value->Shared->Prop}(c:K.In s.heap)(J:InstAt s.heap a o C od)(F:w6 K C)(hf:vc K C od f=some (.value u))(l:handedIn u=true)(h:Q u {s with toks:=s.toks+1}):
  wpAny (model prog w) A (getAttr (.ref a) f b) Q E s:=by
 obtain⟨k,g,d,t,m⟩:=s;have e:=J.type (M:=model prog w);have i:=sE (M:=model prog w) c F.ga;have j:=sE (M:=model prog w) c F.hook;unfold getAttr getAttrBy;refine aa (wpAny_mkText (bH (aa (e.at (aa (i.at ?_))))));show wpAny _ _ (if(C2 (.ref C)&&(iE "BaseException.__getattribute__"==iE "object.__getattribute__"))=true then _ else _) _ _ _;rw[ga_ne,dh,if_neg ao];unfold getAttrByItsOwn hookBefore;rw[if_pos (show C2 (.ref C)=true from rfl)];refine aa (j.at ?_);unfold callGetattribute boundAndCalled;rw[show C2 (iE "BaseException.__getattribute__")=false from rfl,dh,if_neg ao];refine aa (i6 (bH (aa ?_)));rw[fY.ga.bind (.ref a)];refine aj (iA (MF (s:=⟨k,g,d,t+1,m⟩) c J F hf ?_));show wpAny _ _ (handedOut u) _ _ _;rw[handedOut_of l];exact aj h
end
def rFld(K:ah)(f:Str):V->Hp->VK->Prop:=fun x H Q=>∃a C dd fs v,x=.ref a/\H a=some (pS a (.ref C) (some dd))/\H dd=some (xdO dd fs)/\ke K C f=true/\fs.lookup f=some v/\Q v H
section
variable {pins:List (Addr×Obj)}{s:Shared}
def get_fld{f:Str}{b:Bool}{Q:VK}(I:Inv X pins σ H s)(r:RelV x u)(h:rFld X.K f x H Q):wpAny (model X.prog X.w) X.A (getAttr u f b) (EP X pins σ Q) X.xe s:=by
 obtain⟨a,C,e,fs,v,rfl,l,m,F,p,q⟩:=h;obtain rfl:u=.ref a:=r;obtain⟨⟨o,g,i,j,k⟩,_⟩:=I.hok a _ l;obtain⟨⟨w,N,z,_⟩,_⟩:=I.hok e _ m;have c:=z f;rw[p]at c;cases hm:w f with
 |none=>rw[hm]at c;exact c.elim
 |some y=>
  rw[hm]at c;obtain⟨od,t,n⟩:=Ls N hm;have d:mX X.K C=true:=by unfold ke at F;rw[az,az]at F;exact F.1.1
  exact exc_fld I.kIn (od:=some od) ⟨g,i,k,by rw[j];exact t⟩ (Ce d) (Cd F n) (Er c) ⟨v,H,I.tok _,c,q⟩
def FA{n f:Str}{t:TE}(b:PE X (.Name n np) t):PE X (.Attribute (.Name n np) f pos) (fun σ H Q=>t σ H fun x H1=>rFld X.K f x H1 Q):=by intro c s σ H Q I h;refine Attribute_name (thn (b c s σ H _ I h) fun u d ⟨x,H1,a,r,q⟩=>?_);exact get_fld a r q
def rQ:fC X (.builtin "isinstance") (fun xs H Q=>∃a C d y cv b,xs=[.ref a,y]/\H a=some (pS a (.ref C) d)/\(∀dd,d=some dd->∃fs,H dd=some (xdO dd fs))/\mX X.K C=true/\((∃T,y=.ty T/\cv=lD T)\/(∃D,y=.ref D/\cv=bz D))/\kitOne X.K (.ref C) cv=some b/\Q (.bl b) H):=by
 intro o s r H xs p Q I n h;obtain⟨a,C,d,y,cv,b,rfl,g,j,ok,l,e,q⟩:=h;obtain⟨u,c,rfl,m,f⟩:=n.two;obtain rfl:u=bz a:=m;have i:c=cv:=by
  rcases l with⟨T,rfl,rfl⟩ |⟨D,rfl,rfl⟩;·cases f;rfl
  ·cases f;rfl
 subst i;exact kia_one (LD (Ce ok)) I.kIn (Et I.hok g fun dd z=>by obtain⟨fs,k⟩:=j dd z;exact⟨_,k⟩) e (fun z=>nomatch z) fun tk=>⟨.bl b,H,I.tok tk,rfl,q⟩
end
end L2
namespace Q
open PySem
def tM(xs:Array Nat):Prop:=xs.toList.Pairwise (·<·)
structure Parts(xs:Array Nat)(j p:Nat):Prop where
 le:p<=xs.size
 lo:∀i x,i<p->xs[i]? =some x->x<j
 hi:∀i x,p<=i->xs[i]? =some x->j<=x
def uT{xs:Array Nat}(h:tM xs){x y:Nat}(e:i<k)(f:xs[i]? =some x)(j:xs[k]? =some y):x<y:=by
 have g:xs.toList[i]? =some x:=by simpa using f
 have l:xs.toList[k]? =some y:=by simpa using j
 obtain⟨c,a⟩:=aH.mp g;obtain⟨d,b⟩:=aH.mp l;have :=eY.mp h i k c d e;rw[a,b]at this;exact this
theorem wu{xs:Array Nat}(h:tM xs)(j:Nat):∀(fuel lo hi:Nat),hi-lo<=fuel->lo<=hi->hi<=xs.size->(∀i x,i<lo->xs[i]? =some x->x<j)->(∀i x,hi<=i->xs[i]? =some x->j<=x)->Parts xs j (AI xs j fuel lo hi)
 | 0,lo,hi,hf,hl,hs,a,b=>by
  have e:lo=hi:=by lia
  subst e;exact⟨hs,a,b⟩
 |fuel+1,lo,hi,hf,hl,hs,a,b=>by
  unfold AI;by_cases c:lo<hi
  ·rw[if_pos c];have g:(lo+hi)/2<xs.size:=by lia
   have f:xs[(lo+hi)/2]? =some xs[(lo+hi)/2]:=by simp[g]
   have l:xs.getD ((lo+hi)/2) j=xs[(lo+hi)/2]:=by simp[M9,g]
   simp only[l];by_cases d:xs[(lo+hi)/2]<j
   ·rw[if_pos d];refine wu h j fuel _ hi (by lia) (by lia) hs (fun i x m e=>?_) b;by_cases k:i=(lo+hi)/2;·subst k;rw[f]at e;cases e;exact d
    ·exact fW (uT h (by lia) e f) d
   ·rw[if_neg d];refine wu h j fuel lo _ (by lia) (by lia) (by lia) a fun i x m e=>?_;by_cases k:i=(lo+hi)/2;·subst k;rw[f]at e;cases e;lia
    ·have :=uT h (by lia:(lo+hi)/2<i) f e;lia
  ·rw[if_neg c];have e:lo=hi:=by lia
   subst e;exact⟨hs,a,b⟩
def kY{xs:Array Nat}(h:tM xs)(j:Nat):Parts xs j (cj xs j):=
 wu h j xs.size 0 xs.size (by lia) (aM _) (av _) (fun i x hi _=>absurd hi (dv _)) fun i x hi e=>by have :=(cq.mp e).1;lia
def B0{a:Type}(xs:Array a)(p:Nat)(x:a):(sJ xs p x).toList=xs.toList.take p++x::xs.toList.drop p:=by unfold sJ;simp;exact jc (by simp)
theorem Bh{xs:Array Nat}(h:tM xs)(d:∀i:Nat,xs[i]? ≠some j):tM (sJ xs (cj xs j) j):=by
 have P:=kY h j;unfold tM;rw[B0];have sub:=h;unfold tM at sub;rw[List.pairwise_append];refine⟨sub.sublist (ve _ _),List.pairwise_cons.mpr ⟨fun y hy=>?_,sub.sublist (List.drop_sublist _ _)⟩,fun x f y hy=>?_⟩
 ·obtain⟨i,hi⟩:=bK.mp hy;rw[iR]at hi;have e:xs[cj xs j+i]? =some y:=by simpa using hi
  have :=P.hi _ _ (xP _ _) e;have ne:y≠j:=fun z=>d _ (z▸e);lia
 ·obtain⟨i,hi⟩:=bK.mp f;have a:i<cj xs j:=by have :=(aH.mp hi).1;rw[cY]at this;lia
  rw[Dj a]at hi;have e:xs[i]? =some x:=by simpa using hi
  have g:=P.lo _ _ a e;rcases aG.mp hy with rfl|hy;·exact g
  ·obtain⟨k,b⟩:=bK.mp hy;rw[iR]at b;have c:xs[cj xs j+k]? =some y:=by simpa using b
   have :=P.hi _ _ (xP _ _) c;lia
theorem EJ{xs:Array Nat}(h:tM xs){x:Nat}(e:xs[i]? =some x):cj xs (x+1)=i+1:=by
 have P:=kY h (x+1);have hi:=(cq.mp e).1;apply AN
 ·apply hZ
  intro c;have f:i+1<xs.size:=aT c P.le;have d:xs[i+1]? =some xs[i+1]:=by simp[f]
  have a:=P.lo _ _ c d;have b:=uT h (dW i) e d;lia
 ·apply hZ
  intro c;have :=P.hi i x (by lia) e;lia
theorem EI{xs:Array Nat}(h:tM xs):cj xs 0=0:=by have P:=kY h 0;apply AN _ (aM _);apply hZ;intro c;have a:0<xs.size:=aT c P.le;have :=P.lo 0 xs[0] c (by simp[a]);lia
theorem Ir{xs:Array Nat}(h:tM xs){x:Nat}(e:xs[i]? =some x):cj xs x=i:=by
 have P:=kY h x;apply AN
 ·apply hZ
  intro c;exact dH _ (P.lo i x c e)
 ·apply hZ
  intro c;have f:cj xs x<xs.size:=fW c (cq.mp e).1;have d:xs[cj xs x]? =some xs[cj xs x]:=by simp[f]
  have a:=P.hi _ _ (av _) d;have b:=uT h c d e;lia
def DJ(n:Nat):tM (Array.range n):=by unfold tM;rw[Array.toList_range];exact GK
structure kE(t:bC):Prop where
 up:tM t.place
 no:t.dummies= #[]
def slot_no{t:bC}(T:kE t)(j:Nat):t.slot j≠.dummy:=by
 unfold bC.slot;simp only[T.no];split;·simp
 ·split;·rename_i h;exact absurd h (by simp[AR])
  ·simp
def G6{t:bC}(T:kE t)(h:t.slot j=.empty):∀i:Nat,t.place[i]? ≠some j:=fun i e=>by have :=Ir T.up e;unfold bC.slot at h;simp only[this,e,beq_self_eq_true,if_true]at h;cases h
def xK(t:bC)(p:bC.Probe):(t.advance p).dummy=p.dummy:=by unfold bC.advance;split <;>rfl
theorem vI{t:bC}(T:kE t){f:Nat->Int}{h:Int}{d:Option Nat}:∀(fuel:Nat)(p:bC.Probe),p.dummy=none->pI t f h fuel p=some (.empty j d)->t.slot j=.empty/\d=none
 | 0,p,_,e=>by simp[pI]at e
 |fuel+1,p,hp,e=>by
  unfold pI at e;cases hs:t.slot p.j with
  |empty=>rw[hs]at e;simp only[fR,bC.Met.empty.injEq]at e;exact⟨by rw[<-e.1];exact hs,by rw[<-e.2];exact hp⟩
  |dummy=>exact absurd hs (slot_no T _)
  |live i=>
   rw[hs]at e;simp only at e;split at e;·cases e
   ·exact vI T fuel _ (by rw[xK];exact hp) e
def xF{t:bC}(T:kE t){h:Int}{b:Bool}(e:t.freeSlot h=some (j,b)):(∀i:Nat,t.place[i]? ≠some j)/\b=false:=by
 unfold bC.freeSlot at e;split at e;·rename_i j' d hm;unfold bC.probe at hm;obtain⟨a,c⟩:=vI T _ _ (by rfl) hm;subst c;simp only[vd,IV,fR,Prod.mk.injEq]at e;obtain⟨rfl,rfl⟩:=e;exact⟨G6 T a,rfl⟩
 ·cases e
def jG(t:bC)(n:Nat):kE (t.standIn n):=⟨DJ n,rfl⟩
def Km{t:bC}(T:kE t)(a:∀i:Nat,t.place[i]? ≠some j):kE (t.put j).1:=by refine⟨Bh T.up a,?_⟩;show(if AR t.dummies j=true then _ else t.dummies)= #[];rw[T.no];simp[AR]
def vN{t:bC}(T:kE t)(n:Nat):kE (t.orStandIn n):=by
 unfold GG;split;·exact T
 ·exact jG t n
def BY{t:bC}(T:kE t)(a:Array (Int×Value))(h:Int)(x:Value):kE (layNew t a h x).2.1/\(layNew t a h x).2.2.1=false:=by
 unfold layNew;split;·rename_i j b e;obtain⟨c,d⟩:=xF T e;subst d;exact⟨vN (Km T c) _,rfl⟩
 ·exact⟨jG t _,rfl⟩
def ym{mask finger moves:Nat}{plain:Bool}{f:Array Int}{t:bC}{g:Array Nat}(h:bC.laid mask finger moves led plain f=some (t,g)):kE t/\t.led=led/\t.plain=plain:=by
 unfold bC.laid at h;cases e:bC.layClean mask f with
 |none=>rw[e]at h;cases h
 |some owner=>
  rw[e]at h;have i:some (({mask,place:=(((aE (mask+1)).filterMap fun j=>(owner.getD j none).map (j,·)).map (·.1)).toArray,dummies:= #[],finger,led,moves,plain}:bC),(((aE (mask+1)).filterMap fun j=>(owner.getD j none).map (j,·)).map (·.2)).toArray)=some (t,g):=h;have k:=(Prod.mk.inj (bc i)).1;subst k;refine⟨⟨?_,rfl⟩,rfl,rfl⟩;show((((aE (mask+1)).filterMap fun j=>(owner.getD j none).map (j,·)).map (·.1)).toArray).toList.Pairwise (·<·);rw[M1,mR,List.pairwise_filterMap];refine GK.imp fun{a b} l x c y d=>?_;cases ha:owner.getD a none with
  |none=>rw[ha]at c;cases c
  |some u=>
   cases hb:owner.getD b none with
   |none=>rw[hb]at d;cases d
   |some v=>rw[ha]at c;rw[hb]at d;cases c;cases d;exact l
def xA(t:bC)(a:Array (Int×Value))(b:Nat):kE (qJ t a b).2.1:=by
 unfold qJ;split
 ·rename_i t' order e;simp only;split;·unfold MT at e;exact(ym e).1
  ·exact jG t _
 ·exact jG t _
theorem put_led(t:bC)(j:Nat):(t.put j).1.led=t.led:=rfl
def xD(t:bC)(n:Nat):(t.orStandIn n).led=t.led:=by unfold GG;split <;>rfl
def Ed(t:bC)(a:Array (Int×Value))(h:Int)(x:Value):(layNew t a h x).2.1.led=t.led:=by
 unfold layNew;split;·exact(xD _ _).trans (put_led _ _)
 ·rfl
def zt(t:bC)(a:Array (Int×Value))(b:Nat):(qJ t a b).2.1.led=t.led:=by
 unfold qJ;split
 ·rename_i t' order e;simp only;split;·unfold MT at e;exact(ym e).2.1
  ·rfl
 ·rfl
section
variable {K:Type}[DecidableEq K]{knd:KeyKind prog w K}{E:Value->Shared->Prop}{s:Shared}
def sC(knd:KeyKind prog w K)(h:Heap)(a:Addr)(S:K->Bool)(n:Nat)(led:Bool):Prop:=
 ∃o es ep t,h.get? a=some o/\o.ExactSet/\o.data=.set es ep t/\ElemsOf knd es.toList/\(∀k,S k=true↔∃e∈es.toList,knd.is k e.2=true)/\es.size<fV/\t.fits es.size=true/\es.size=n/\kE t/\t.led=led
def sC.of{S:K->Bool}(x:sC knd h a S n led):h.SetOf knd a S n:=by obtain⟨o,l,k,t,b,c,d,e,f,g,i,j,_⟩:=x;exact⟨o,l,k,t,b,c,d,e,f,g,i,j⟩
def vC{o:Obj}{t:bC}(l:h.get? a=some o)(i:o.ExactSet)(j:o.data=.set es ep t){t':bC}{b:K->Bool}(d:ElemsOf knd es'.toList)(f:∀k,b k=true↔∃e∈es'.toList,knd.is k e.2=true)(c:es'.size<fV)(hf:t'.fits es'.size=true)(m:kE t'):
  sC knd (h.update a (Obj.putSet es' t')) a b es'.size t'.led:=by
 have g:=(SetOf_store (knd:=knd) l i j d f c hf).1;exact⟨_,es',ep+1,t',g,i,rfl,d,f,c,hf,rfl,m,rfl⟩
def CY{g:Bool->Sem Unit}(G:∀(b:Bool)(C:Shared)(x:Unit->Shared->Prop),x () C->wpAny (model prog w) A (g b) x E C){o:Obj}{t:bC}(p:s.heap.get? a=some o)(u:o.ExactSet)(k:o.data=.set es ep t)
  {c:bC}{y:K->Bool}(m:ElemsOf knd bn.toList)(n:∀f,y f=true↔∃e∈bn.toList,knd.is f e.2=true)(d:bn.size<fV)(hf:c.fits bn.size=true)(H:kE c){I:Bool}{R:Option Bool->Shared->Prop}
  (h:∀h',dm a s.heap h'->sC knd h' a y bn.size c.led->R (some true) {s with heap:=h'}):
  wpAny (model prog w) A (do
    storeSet a bn c
    if(!I&&c.tooFull)=true then do
      g (qJ c bn (fv bn.size)).2.2
      storeSet a (qJ c bn (fv bn.size)).1 (qJ c bn (fv bn.size)).2.1
      pure (some true)
     else pure (some true)) R E s:=by
 refine aa (wpAny_storeSet_of p k ?_ (pG d));have z:=(SetOf_store (knd:=knd) p u k m n d hf).1;have J:=vC (knd:=knd) p u k m n d hf H;have B:=bO s.heap a (Obj.putSet bn c);split
 ·have hp:=relayAll_perm c bn (fv bn.size);have r:=relayAll_fits c bn (fv bn.size);have j:=xA c bn (fv bn.size);have i:=zt c bn (fv bn.size);generalize qJ c bn (fv bn.size)=Rl at hp r j i⊢;obtain⟨F,t3,L⟩:=Rl;dsimp only at hp r j i⊢;have v:F.size=bn.size:=by rw[<-cm,hp.length_eq,cm]
  refine aa (G _ _ _ (aa (wpAny_storeSet_of z rfl ?_ (pG (by rw[v];exact d)))));have D:=vC (knd:=knd) z u rfl (m.perm hp) (fun f=>(n f).trans ⟨fun⟨e,l,q⟩=>⟨e,hp.mem_iff.mpr l,q⟩,fun⟨e,l,q⟩=>⟨e,hp.mem_iff.mp l,q⟩⟩) (by rw[v];exact d) r j;rw[v,i]at D;exact aj (h _ (B.trans (bO _ a _)) D)
 ·exact aj (h _ B J)
def DQ{t:bC}(T:kE t):kE {t with plain:=false}:=⟨T.up,T.no⟩
def addX{S:K->Bool}{k:K}{x:Value}{Q:Bool->Shared->Prop}(F:knd.is k x=true)(H:x.scannable=true)(V:sC knd s.heap a S n led)(O:n+1<fV)
  (h:∀h',dm a s.heap h'->sC knd h' a (fun c=>S c||decide (c=k)) (if S k then n else n+1) led->Q (!S k) {s with heap:=h'}):
  wpAny (model prog w) A (setAddHashed a x (knd.hash k)) Q E s:=by
 obtain⟨o,d,U,t,u,I,p,B,C,N,hf,G,P,z⟩:=V;have a0:d.size+1<fV:=by rw[G];exact O
 unfold setAddHashed setAddHashedIn;refine bH (aa (gZ u p hf ?_));dsimp only;rw[byScan_of H N B];simp only[↓reduceIte];unfold setAddByScan;refine aa ?_;refine aa (iy (aa (wpAny_setScan_of F u p hf B ?_)));cases hr:List.findIdx? (fun e=>knd.is k e.2) d.toList with
 |some j=>
  dsimp only;obtain⟨W,hp,_⟩:=List.findIdx?_eq_some_iff_getElem.mp hr;have l:S k=true:=(C k).mpr ⟨d.toList[j],a6 W,hp⟩;refine aj (aj ?_);have :=h s.heap (dm.refl a s.heap) ⟨o,d,U,t,u,I,p,B,fun c=>by rw[b8,decide_eq_true_eq,<-C c];exact⟨fun q=>q.elim id (fun e=>e▸l),.inl⟩,N,hf,by rw[l];exact G,P,z⟩
  rw[l]at this;exact this
 |none=>
  dsimp only;have l:S k=false:=by
   cases q:S k with
   |false=>rfl
   |true=>obtain⟨e,D,Y⟩:=(C k).mp q;have :=List.findIdx?_eq_none_iff.mp hr e D;rw[Y]at this;cases this
  have X:∀(b:Bool){y:Shared}{f:Unit->Shared->Prop},f () y->wpAny (model prog w) A (match b with |true=>rule "set.scan.the-table-gave-way" |false=>pure ()) f E y:=fun b y f q=>by cases b<;>first |exact aj q|exact iy q
  have hp:=layNew_perm t d (knd.hash k) x;have r:=layNew_fits t d (knd.hash k) x;have m:=(BY P d (knd.hash k) x).1;have i:=Ed t d (knd.hash k) x;generalize layNew t d (knd.hash k) x=L at hp r m i⊢;obtain⟨g,t1,wd,Z⟩:=L;dsimp only at hp r m i⊢;rw[Array.toList_push]at hp;have l1:ElemsOf knd g.toList:=(B.push F H).perm hp;have D:∀c,(S c||decide (c=k))=true↔∃e∈g.toList,knd.is c e.2=true:=mem_push_iff F C hp;have R:g.size=n+1:=by rw[<-cm,hp.length_eq,aU,cm,G];rfl
  have J:g.size<fV:=by rw[R];exact O
  refine aa (X _ ?_);have M:∀h',dm a s.heap h'->sC knd h' a (fun c=>S c||decide (c=k)) g.size led->Q true {s with heap:=h'}:=fun h' v x=>by have :=h h' v;rw[l]at this;rw[R]at x;exact this x
  split
  ·refine aa ?_;rw[hashByValue_scannable 8 H];refine aj (CY ?_ u I p l1 D J ?_ ?_ ?_);·intro b y f q;cases b<;>first |exact aj q|exact iy q
   ·split;·exact r
    ·exact bC.fits_plain_off r
   ·split;·exact m
    ·exact DQ m
   ·intro h' v x;refine aj (M h' v ?_);split at x;·rw[i,z]at x;exact x
    ·have T:({t1 with plain:=false}:bC).led=led:=i.trans z;rw[T]at x;exact x
  ·refine aa (aj ?_);simp only[↓reduceIte];refine CY ?_ u I p l1 D J r m ?_;·intro b y f q;cases b<;>first |exact aj q|exact iy q
   ·intro h' v x;rw[i,z]at x;exact aj (M h' v x)
end
end Q
set_option maxHeartbeats 3200000
namespace Q
open PySem PySem.Spec PySem.W PyProof.Rows L2
section
variable {R:Result->Shared->Prop}{I:Addr}{fp wr:List Addr}{G:Array lF->Array lF->Prop}{P:Nat->Value->Prop}{St:Nat->Shared->Prop}
theorem x6(W:WalksS prog w A.in1 I fp wr G n P St)(S:Addr)(h:S∉fp)(ks:List Key)(r:ks.length=n)(y:∀i v,P i v->∃k,ks[i]? =some k/\RelV (kV k) v)(d:n+1<fV):
  ∀(m i:Nat)(s:Shared),n-i=m->i<=n->St i s->sC (bS prog w) s.heap S (has (met (ks.take i))) (met (ks.take i)).length led->
   (∀s',Moved (S::wr) G s s'->sC (bS prog w) s'.heap S (has (met ks)) (met ks).length led->R (.ok (.ret .none)) s')->
   gA (model prog w) A (.builtin "set.update.loop" ⟨[.ref S,.ref I],[]⟩) R s
 | 0,i,s,hm,hi,st,hS,hR=>by
  obtain rfl:i=n:=by lia
  rw[<-r,fK]at hS;refine eI nh ?_;rw[dA fZ _];show wpAny _ A.in1 (pyNext (.ref I)>>=_) _ _ s;refine aa (W.done s _ _ st fun s' g=>?_);obtain⟨o,c,a,t,f,p⟩:=hS;exact aj (hR s' (g.mono fun b d=>aD _ d) ⟨o,c,a,t,g.heap S _ (fun z=>h (W.sub _ z)) f,p⟩)
 |m+1,i,s,hm,hi,st,hS,hR=>by
  have q:i<n:=by lia
  refine eI nh ?_;rw[dA fZ _];show wpAny _ A.in1 (pyNext (.ref I)>>=_) _ _ s;refine aa (W.item i s _ _ q st fun v s' D a0 g=>?_);obtain⟨k,O,l⟩:=y i v D;have E:sC (bS prog w) s'.heap S (has (met (ks.take i))) (met (ks.take i)).length led:=by obtain⟨o,c,a,t,f,p⟩:=hS;exact⟨o,c,a,t,g.heap S _ (fun z=>h (W.sub _ z)) f,p⟩
  have V:v.scannable=true:=by
   cases k with
   |inl j=>obtain⟨t,rfl⟩:=l;rfl
   |inr x=>obtain⟨t,rfl⟩:=l;rfl
  show wpAny _ A.in1 (holding [v] (setAdd S v)>>=_) _ _ s';refine aa (bH ?_);unfold setAdd;refine bH (aa ((bS prog w).pyHash (k:=k) (F0 l) ?_));have Q:=Ln (ks.take i);rw[cY]at Q;refine addX (knd:=bS prog w) (led:=led) (s:={s' with toks:=s'.toks+1}) (F0 l) V E (by lia) fun C u F=>?_;have B:ks.take (i+1)=ks.take i++[k]:=by rw[dI,O];rfl
  have H:sC (bS prog w) C S (has (met (ks.take (i+1)))) (met (ks.take (i+1))).length led:=by rw[B,Lk];obtain⟨o,c,a,t,f,N,L,M,T,K,hf,U,X⟩:=F;refine⟨o,c,a,t,f,N,L,M,fun j=>?_,K,hf,by rw[rE];exact U,X⟩;rw[<-T j,jI,BN,b8,jI,decide_eq_true_eq]
  refine aj ⟨fO fZ _,x6 W S h ks r y d m (i+1) _ (by lia) q (W.frame _ s' _ _ a0 (dP _) fun b hq o e=>?_) H fun Z Y J=>?_⟩;·rw[u.2 b (fun z:b=S=>h (by rw[<-z];exact hq))];exact e
  ·refine hR Z (IQ W.gtrans ((g.mono fun b d=>aD _ d).then_heap (dP _) fun b o hq e=>?_) Y) J;rw[u.2 b (fun z:b=S=>hq (by rw[z];exact aL))];exact e
end
section
variable {E:Value->Shared->Prop}{s:Shared}
def Ia(a:Value)(h:Q₁ (.ref s.heap.objs.size) {s with heap:=s.heap.push (nj (!w.params.followText "set-order"))}):gA (model prog w) A (.call (.builtin "set.__new__") ⟨[.type "set",a],[]⟩) (wants Q₁ E) s:=by refine EU ?_;show wpAny _ A.in1 (do C4 "set.__new__" ⟨[.type "set",a],[]⟩;again (.builtin "set.__new__" ⟨[.type "set",a],[]⟩)) _ _ s;refine aa (pC (F.newCall_set_1 a) (aj ⟨fO F.plain_set_new _,eI F.entry_set_new ?_⟩));rw[dA F.plain_set_new _];unfold Builtin.«set.__new__» Builtin.Frozenset.newClass;have b:=sub_set_self;obtain⟨hp,g,d,tk,c⟩:=s;dsimp only;wp_walk;refine iK (aj ?_);dsimp only;simp only[newObj];exact aa (wpAny_alloc (aj (aj h)))
def G9{P:Bool->Heap->Prop}{Q:Value->Shared->Prop}(D:s.heap.IsList l cr)
  (I:∀(led:Bool)(R:Result->Shared->Prop),(∀s',Moved (s.heap.objs.size::[(s.heap.push (nj led)).objs.size]) (fun a b=>b=a) {s with heap:=(s.heap.push (nj led)).push {cls:=.type "list_iterator",data:=.fields #[.ref l,.int 0 0]}} s'->P led s'.heap->R (.ok (.ret .none)) s')->gA (model prog w) A.in1.in1 (.builtin "set.update.loop" ⟨[.ref s.heap.objs.size,.ref (s.heap.push (nj led)).objs.size],[]⟩) R {s with heap:=(s.heap.push (nj led)).push {cls:=.type "list_iterator",data:=.fields #[.ref l,.int 0 0]}})
  (h:∀(h':Heap)(tk:Nat),P (!w.params.followText "set-order") h'->(∀b o,b<s.heap.objs.size->s.heap.get? b=some o->h'.get? b=some o)->Q (.ref s.heap.objs.size) {s with heap:=h',toks:=tk}):
  wpAny (model prog w) A (call (.type "set") [.ref l]) Q E s:=by
 have d:=F.called_set;obtain⟨c,tl,a1⟩:=d.mro;have V:=d.made;have W:=d.sub;have X:=d.notType;have Y:=d.canCreate;have Z:=F.typeCall_set_1 (.ref l);refine iA (EU ?_);show wpAny _ _ (callAny (.type "set") _) _ _ _;refine aj ⟨uB _ (by decide+kernel),eI F.entry_type_call ?_⟩;rw[Around.under_plain (weight_type_call_type "set" [.ref l] []) rfl];repeat(any_goals (first |assumption|wp_step))
 refine jO (Ia (.ref l) (E:=E) (Q₁:=fun obj n=>∃led:Bool,led=(!w.params.followText "set-order")/\obj=.ref s.heap.objs.size/\n={s with heap:=s.heap.push (nj led)}) ⟨_,rfl,rfl,rfl⟩) fun r n f=>?_;rcases r with e|fl;·exact f
 rcases fl with _|_|_|obj;·exact f.elim
 ·exact f.elim
 ·exact f.elim
 obtain⟨led,H,rfl,rfl⟩:=f;rw[<-H]at h;have u:(s.heap.push (nj led)).get? s.heap.objs.size=some (nj led):=ax _ rfl;have x:Shared.TypeIs {s with heap:=s.heap.push (nj led)} (.ref s.heap.objs.size) "set":=⟨_,u,rfl⟩;have f6:=d.init.lookup;have f7:=d.init.bind (.ref s.heap.objs.size);repeat(any_goals (first |assumption|wp_step))
 refine jO (iC (R:=wants (fun r p=>r=.none/\∃h' tk,p={s with heap:=h',toks:=tk}/\P led h'/\
  (∀b o,b<s.heap.objs.size->s.heap.get? b=some o->h'.get? b=some o)) E) d.init.plain F.entry_set_init (check_set_init_1 x ?_)) fun T p g=>?_
 ·obtain⟨N,m,y,k,B⟩:=D;obtain⟨L,od,M,S⟩:=N;obtain rfl:L=.type "list":=y;obtain rfl:M=.seq cr k:=B;have J:(s.heap.push (nj led)).get? l=some {cls:=.type "list",dict:=od,data:=.seq cr k,slots:=S}:=ag _ m;have g1:=F.sub_list_set;have g2:=F.sub_list_frozenset;have g3:(lD "list"==lD "dict")=false:=by decide
  have G:(s.heap.push (nj led)).IsList l cr:=⟨_,J,rfl,k,rfl⟩;unfold Builtin.«set.__init__» noKeywords Builtin.Frozenset.updateFrom;generalize hPI:pyIter=PI
  wp_walk
  subst hPI;refine pB G (aa (wpAny_runValue ?_));have a0:l<s.heap.objs.size:=ay m;have K:(s.heap.push (nj led)).objs.size=s.heap.objs.size+1:=bD _ _;refine I led _ fun s' i j=>?_
  ·obtain⟨h',t,q,U,O⟩:=s';obtain rfl:t=s.gens:=i.gens;obtain rfl:q=s.drawn:=i.drawn;obtain rfl:O=s.os:=i.os;show wpAny _ _ _ _ _ _;refine aj ?_;show wpAny _ _ (ret bL) _ _ _;refine aj ⟨rfl,h',U,rfl,j,fun b o hq e=>i.heap b o (fun z=>?_) (ag _ (ag _ e))⟩;rcases aG.mp z with z|z;·exact aK hq z
   ·exact aK (bM hq) ((aS.mp z).trans K)
 ·rcases T with e|fl2;·exact g
  rcases fl2 with _|_|_|v;·exact g.elim
  ·exact g.elim
  ·exact g.elim
  obtain⟨rfl,h',tk,rfl,j,C⟩:=g;repeat(any_goals (first |assumption|wp_step))
  exact h _ _ j C
def x8{ks:List Key}{Q:Value->Shared->Prop}(p:A.handled=none)(a:s.heap.IsList l cr)(q:ks.length=cr.size)
  (u:∀(i:Nat)(v:Value),cr[i]? =some v->∃k,ks[i]? =some k/\RelV (kV k) v)(m:cr.size+1<fV)
  (h:∀(h':Heap)(tk:Nat),sC (bS prog w) h' s.heap.objs.size (has (met ks)) (met ks).length (!w.params.followText "set-order")->(∀b o,b<s.heap.objs.size->s.heap.get? b=some o->h'.get? b=some o)->Q (.ref s.heap.objs.size) {s with heap:=h',toks:=tk}):
  wpAny (model prog w) A (call (.type "set") [.ref l]) Q E s:=by
 have c:l<s.heap.objs.size:=let⟨_,e,_⟩:=a;ay e;refine G9 (P:=fun led h=>sC (bS prog w) h s.heap.objs.size (has (met ks)) (met ks).length led) a (fun led R g=>?_) h;have f:A.in1.in1.in1.handled=none:=by simp[p]
 have d:(s.heap.push (nj led)).objs.size=s.heap.objs.size+1:=bD _ _;have r:l≠(s.heap.push (nj led)).objs.size:=by rw[d];exact aK (bM c)
 have t:s.heap.objs.size∉[(s.heap.push (nj led)).objs.size,l]:=by
  rw[d];intro z;rcases aG.mp z with z|z;·exact aK (dW _) z
  ·exact eK c (aS.mp z)
 have j:(s.heap.push (nj led)).get? s.heap.objs.size=some (nj led):=ax _ rfl;refine x6 (led:=led) ((Walks.list f _ l r cr).toS) s.heap.objs.size t ks q u m (cr.size-0) 0 _ (by lia) (aM _) ⟨⟨_,ax _ rfl,rfl,rfl⟩,(a.push _).push _⟩ ?_ g;exact⟨nj led,#[],0,_,ag _ j,⟨rfl,rfl,rfl⟩,rfl,fun e n=>by simp at n,fun k=>by simp[met,has],by decide,by rfl,rfl,⟨jV,rfl⟩,rfl⟩
end
def Ie(m:X.calm=true):fC X (.type "set") (rSet X.K):=by intro M s P H O N Q I r h;obtain⟨p,ks,rfl,hq,K,q⟩:=h;obtain⟨u,rfl,C⟩:=vals1 r;cases C;obtain⟨L,g,A,_⟩:=I.list hq;have f:=g.length;rw[ai]at f;refine x8 (ks:=ks) (I.ok.hd m) A.isList (by rw[aw];exact f) (fun i v e=>zZ g i v (by simpa using e)) (by rw[aw,<-f];unfold fV;lia) fun D tk j y=>?_;refine⟨.ref s.heap.objs.size,_,I.laid (t':=tk) (fun b o e=>y b o (ay e) e) (av _) (show dz X.prog X.w _ _ _ (DH _ (met ks).length)from ?_),rfl,q _ (I.hok.fresh (av _))⟩;obtain⟨o,d,c,t,a,w,n,G,J,l,hf,x⟩:=j.of;refine⟨⟨o,d,c,t,a,w,n,l,hf,x⟩,⟨o,a⟩,fun E F z k=>?_⟩;obtain⟨o,d,c,t,a,B⟩:=z;exact⟨o,d,c,t,k o a,B⟩
end Q
set_option maxHeartbeats 1000000
namespace Q
open PySem
theorem qy{c:Type}:∀{l:List c}{i:Nat}(h:i<l.length),(l[i]::l.eraseIdx i).Perm l
 |a::l,0,_=>dU _
 |a::l,i+1,h=>by
  have hi:i<l.length:=by simpa using h
  have b:=qy hi;show(l[i]::a::l.eraseIdx i).Perm (a::l);exact(xn _ _ _).trans (b.cons a)
theorem Fy{c:Type}(next :Nat->Nat):∀(fuel k:Nat)(b:List c)(out:Array c),b.length<=fuel->(AD next fuel k b out).toList.Perm (out.toList++b)
 | 0,k,b,out,h=>by have e:b=[]:=bA.mp (by lia);subst e;simp[AD]
 |fuel+1,k,b,out,h=>by
  unfold AD;cases b with
  |nil=>simp
  |cons a l=>
   have hi:next k%(a::l).length<(a::l).length:=C7 _ (by simp)
   rw[ae hi];dsimp only;refine(Fy next fuel (k+1) _ _ (by rw[lG hi];simp at h⊢;lia)).trans ?_;rw[Array.toList_push,mT];exact List.Perm.append_left _ (qy hi)
def o6{a:Type}(next :Nat->Nat)(xs:Array a):(jq next xs).toList.Perm xs.toList:=by unfold jq;exact(Fy next xs.size 0 xs.toList #[] (by simp)).trans (by simp)
section
variable {M:Model}{E:Value->Shared->Prop}
def xx{a:Source}{Q:Nat->Shared->Prop}(h:n≠0)(q:∀i d,i<n->Q i {s with drawn:=d}):wpAny M A (choose a n) Q E s:=fun c p b=>by unfold choose;rw[Sem.wp_choose];exact⟨h,q _ _ (C7 _ (Nat.pos_of_ne_zero h))⟩
theorem yv{b:Type}:∀(n:Nat)(xs:List b)(s:Shared)(Q:List b->Shared->Prop),xs.length<=n->(∀ys d,ys.Perm xs->Q ys {s with drawn:=d})->wpAny M A (drawOrder n xs) Q E s
 | 0,xs,s,Q,h,q=>by have e:xs=[]:=bA.mp (by lia);subst e;unfold drawOrder;exact aj (q [] s.drawn (dU _))
 |n+1,[],s,Q,h,q=>by unfold drawOrder;exact aj (q [] s.drawn (dU _))
 |n+1,a::l,s,Q,h,q=>by unfold drawOrder;refine aa (xx (by simp) fun i d hi=>?_);rw[ae hi];dsimp only;refine aa (yv n _ _ _ (by rw[lG hi];simp at h⊢;lia) fun ys c f=>aj ?_);exact q _ c ((f.cons _).trans (qy hi))
end
end Q
set_option maxHeartbeats 3200000
namespace Q
open PySem PySem.Spec PySem.W PyProof.Rows L2
def fF:Slot "set_iterator" "__next__" "set_iterator.__next__":=
 .of (owner:="set_iterator") (n:="__next__") (by rw[typeLookup_type,builtinLookup_eq_fast];kernel_rfl) (by decide+kernel) (by decide+kernel) (by decide+kernel) (by first |exact .inl (by decide+kernel) |exact .inr (by decide+kernel)) (by rw[IH];kernel_rfl)
def pT:IJ table "set_iterator.__next__"=some Builtin.«set_iterator.__next__»:=entryFor_of_tree (by kernel_rfl)
def sv(a:Value):argsOk "set_iterator.__next__" ⟨[a],[]⟩:=by unfold argsOk;kernel_rfl
def uI:IJ table "set.__iter__"=some Builtin.«frozenset.__iter__»:=entryFor_alias (id':="frozenset.__iter__") (by kernel_rfl) rfl (by decide+kernel) (by kernel_rfl)
noncomputable abbrev siO(S:Addr)(first :Value)(i n ep:Nat):Obj:={cls:=.type "set_iterator",dict:=none,data:=.fields #[first,.int i 0,.ref S,.int n 0,.int ep 0],slots:= #[]}
section
variable {E:Value->Shared->Prop}{s:Shared}
abbrev ja(es:Array (Int×Value))(t:bC):Bool:= !t.plain&&es.size>1
def qQ{o:Obj}{t:bC}{Q:Bool->Shared->Prop}(c:s.heap.get? a=some o)(b:o.data=.set es ep t)(hf:t.fits es.size=true)(h:Q (!w.params.followText "set-order"&&ja es t) s):
  wpAny (model prog w) A (setDrawn a) Q E s:=by
 unfold setDrawn IF;refine aa (gZ c b hf ?_);dsimp only;refine aa (aa (iK (aj (aj ?_))));exact h
def LK{o:Obj}{t:bC}{Q:Value->Shared->Prop}(b:s.heap.get? S=some o)(g:o.cls=.type "set")(a:o.data=.set es ep t)(hf:t.fits es.size=true)(k:es.size<fV)
  (e:(!w.params.followText "set-order"&&ja es t)=false->Q (.ref s.heap.objs.size) {s with heap:=s.heap.push (siO S (.int 0 0) 0 es.size ep)})
  (f:(!w.params.followText "set-order"&&ja es t)=true->∀(ps:List Nat)(d:Drawn),ps.Perm (aE es.size)->Q (.ref (s.heap.objs.size+1)) {s with drawn:=d,heap:=(s.heap.push {cls:=.type "tuple",data:=.seq (ps.map fun(i:Nat)=>rawInt i).toArray}).push (siO S (.ref s.heap.objs.size) 0 es.size ep)}):
  wpAny (model prog w) A (pyIter (.ref S)) Q E s:=by
 have c:s.TypeIs (.ref S) "set":=⟨o,b,g⟩;refine wpAny_pyIter_slot c F.slot_set_iter (cK F.slot_set_iter c uI ?_ (F.args_set_iter_1 _));unfold Builtin.«frozenset.__iter__» Builtin.Frozenset.slot0 Builtin.Frozenset.sizeOf
 wp_walk
 have h:(t.place.size != es.size||decide (t.fill>t.mask))=false:=by simp only[bC.fits,az,beq_iff_eq,decide_eq_true_eq]at hf;simp[hf.1,Nat.not_lt.mpr hf.2]
 rw[a];dsimp only;rw[if_neg (by rw[h];decide)];refine aj (aj (aj ?_));refine aa (qQ b a hf ?_);dsimp only;cases hb:(!w.params.followText "set-order"&&ja es t)with
 |false=>rw[if_neg (by decide)];refine aa (aj (aa (wpAny_setEpoch_of b a hf ?_)));refine aa (bW (aj ⟨_,rfl,"set_iterator",_,⟨_,ax _ rfl,rfl⟩,fF.lookup,e hb⟩))
 |true=>rw[if_pos rfl];refine aa (yv _ _ _ _ (by simp) fun ps d hp=>?_);refine aa (bW ?_ (by show(ps.map fun(i:Nat)=>rawInt i).toArray.size<=sizeLine;rw[aw,ai,hp.length_eq,aY];exact pG k));have j:(s.heap.push {cls:=.type "tuple",data:=.seq (ps.map fun(i:Nat)=>rawInt i).toArray}).get? S=some o:=ag _ b;refine aa (wpAny_setEpoch_of (s:={s with drawn:=d,heap:=s.heap.push {cls:=.type "tuple",data:=.seq (ps.map fun(i:Nat)=>rawInt i).toArray}}) j a hf ?_);have l:(s.heap.push {cls:=.type "tuple",data:=.seq (ps.map fun(i:Nat)=>rawInt i).toArray}).objs.size=s.heap.objs.size+1:=bD ..;refine aa (bW (aj ⟨_,rfl,"set_iterator",_,⟨_,ax _ rfl,rfl⟩,fF.lookup,?_⟩));have :=f hb ps d hp;rw[<-l]at this;exact this
end
section
variable {E:Value->Shared->Prop}{s:Shared}
structure kZ(h:Heap)(S:Addr)(es:Array (Int×Value))(ep:Nat)(t:bC):Prop where
 ob:∃o,h.get? S=some o/\o.cls=.type "set"/\o.data=.set es ep t
 fit:t.fits es.size=true
def jR{first :Value}{t:bC}{Q:dG->Shared->Prop}(hi:s.heap.get? I=some (siO S first i es.size ep))(c:kZ s.heap S es ep t)
  (h:wpAny (model prog w) A (match first with
   |.int slot _=>do
    match<-setNext S slot.toNat i ep with
    |some (x,next)=>do
     uL (.ref I) 0 (rawInt next)
     uL (.ref I) 1 (rawInt ((i:Int)+1))
     ret x
    |none=>do
     uL (.ref I) 2 .none
     IG (<-newExc (.type "StopIteration") [])
   |_=>do
    let some places<-u9 first |unsupported "internal:set_iterator"
    match places[i]? with
    |some (.int place _)=>do
     let x<-setNextDrawn S place.toNat ep
     uL (.ref I) 1 (rawInt ((i:Int)+1))
     ret x
    |some _=>unsupported "internal:set_iterator"
    |none=>do
     uL (.ref I) 0 (rawInt 0)
     uL (.ref I) 2 .none
     IG (<-newExc (.type "StopIteration") [])) Q E s):
  wpAny (model prog w) A (Builtin.«set_iterator.__next__» ⟨[.ref I],[]⟩) Q E s:=by
 obtain⟨⟨o,b,d,a⟩,hf⟩:=c;unfold Builtin.«set_iterator.__next__»;show wpAny _ _ (fieldsOf (.ref I)>>=_) _ _ _;refine aa (wpAny_fieldsOf hi rfl ?_);dsimp only;refine aa (wpAny_setEntries_of b a hf ?_);rw[if_neg (by simp)];exact h
def nxA{t:bC}{o:Obj}{Q:Option (Value×Nat)->Shared->Prop}(c:w.params.followText "set-order"=true)(b:s.heap.get? S=some o)(a:o.data=.set es ep t)(hf:t.fits es.size=true)
  (q:Q ((jq (w.params.setOrder S ep) es)[i]?.map fun e=>(e.2,k)) s):wpAny (model prog w) A (setNext S k i ep) Q E s:=by
 unfold setNext IF;refine aa (gZ b a hf ?_);dsimp only;refine aa (aa (iK (aj ?_)));dsimp only;rw[show(model prog w).w.params.followText "set-order"=true from c];simp only[if_true,bne_self_eq_false,aX,if_false];refine aa ?_;unfold setWalk IF;refine aa (gZ b a hf ?_);dsimp only;refine aa (aa (iK (aj ?_)));dsimp only;rw[show(model prog w).w.params.followText "set-order"=true from c];simp only[if_true];exact aa (iK (aj (aj q)))
def nxB{t:bC}{o:Obj}{Q:Option (Value×Nat)->Shared->Prop}(h:w.params.followText "set-order"=false)(e:ja es t=false)(f:t.led=true)(g:s.heap.get? S=some o)(d:o.data=.set es ep t)(hf:t.fits es.size=true)(b:cj t.place k=i)
  (l:∀x j,es[i]? =some x->t.place[i]? =some j->Q (some (x.2,j+1)) s)(m:es[i]? =none->Q none s):wpAny (model prog w) A (setNext S k n ep) Q E s:=by
 unfold setNext IF;refine aa (gZ g d hf ?_);dsimp only;refine aa (aa (iK (aj ?_)));dsimp only;rw[show(model prog w).w.params.followText "set-order"=false from h];simp only[aX,if_false];rw[if_neg (fun z=>by have c:ja es t=true:=z;rw[e]at c;cases c)];refine aa (show wpAny _ _ (if(!t.led&& !es.isEmpty)=true then unsupported "set:maker-not-led" else pure ()) _ _ _ from ?_);rw[if_neg (by rw[f];simp)];refine aj (aj ?_);cases hx:es[i]? with
 |none=>simp only[b,hx];exact m hx
 |some x=>
  have q:t.place.size=es.size:=by simp only[bC.fits,az,beq_iff_eq]at hf;exact hf.1
  have p:i<es.size:=(cq.mp hx).1;have a:t.place[i]? =some (t.place[i]'(by lia)):=by simp[show i<t.place.size by lia]
  simp only[b,hx,a];exact l x _ hx a
def nextA{t:bC}{x:Int×Value}{Q:dG->Shared->Prop}(j:w.params.followText "set-order"=true)(hi:s.heap.get? I=some (siO S (.int k 0) i es.size ep))(d:kZ s.heap S es ep t)
  (l:(jq (w.params.setOrder S ep) es)[i]? =some x)(h:∀h',h'.get? I=some (siO S (.int k 0) (i+1) es.size ep)->dm I s.heap h'->Q (.done (.ret x.2)) {s with heap:=h'}):
  wpAny (model prog w) A (Builtin.«set_iterator.__next__» ⟨[.ref I],[]⟩) Q E s:=by
 refine jR hi d ?_;obtain⟨⟨o,g,p,f⟩,hf⟩:=d;refine aa (nxA j g f hf ?_);rw[l,jT];dsimp only;refine aa (dB hi (by simp) fun e a m=>?_);have a:e.get? I=some (siO S (.int k 0) i es.size ep):=a;refine aa (dB a (by simp) fun c b n=>?_);have b:c.get? I=some (siO S (.int k 0) (i+1) es.size ep):=b;exact aj (h c b (m.trans n))
def nextB{t:bC}{x:Int×Value}{Q:dG->Shared->Prop}(u:w.params.followText "set-order"=false)(n:ja es t=false)(q:t.led=true)(hi:s.heap.get? I=some (siO S (.int k 0) i es.size ep))(e:kZ s.heap S es ep t)
  (p:cj t.place k=i)(f:es[i]? =some x)(h:∀h' j,t.place[i]? =some j->h'.get? I=some (siO S (.int (j+1:Nat) 0) (i+1) es.size ep)->dm I s.heap h'->Q (.done (.ret x.2)) {s with heap:=h'}):
  wpAny (model prog w) A (Builtin.«set_iterator.__next__» ⟨[.ref I],[]⟩) Q E s:=by
 refine jR hi e ?_;obtain⟨⟨o,r,C,m⟩,hf⟩:=e;refine aa (nxB u n q r m hf p (fun y j c g=>?_) fun z=>by rw[f]at z;cases z);rw[f]at c;cases c;dsimp only;refine aa (dB hi (by simp) fun l a v=>?_);have a:l.get? I=some (siO S (.int (j+1:Nat) 0) i es.size ep):=a;refine aa (dB a (by simp) fun d b B=>?_);have b:d.get? I=some (siO S (.int (j+1:Nat) 0) (i+1) es.size ep):=b;exact aj (h d _ g b (v.trans B))
def nextC{p:Nat}{tk:Tok}{t:bC}{ps:Array Value}{d:Obj}{x:Int×Value}{Q:dG->Shared->Prop}(hi:s.heap.get? I=some (siO S (.ref T) i es.size ep))(c:kZ s.heap S es ep t)
  (e:s.heap.get? T=some d)(f:d.data=.seq ps m)(hp:ps[i]? =some (.int p tk))(k:es[p]? =some x)(h:∀h',h'.get? I=some (siO S (.ref T) (i+1) es.size ep)->dm I s.heap h'->Q (.done (.ret x.2)) {s with heap:=h'}):
  wpAny (model prog w) A (Builtin.«set_iterator.__next__» ⟨[.ref I],[]⟩) Q E s:=by
 refine jR hi c ?_;obtain⟨⟨o,j,n,g⟩,hf⟩:=c;dsimp only;refine aa (ix e f ?_);simp only[hp,aQ];refine aa ?_;unfold setNextDrawn;refine aa (gZ j g hf ?_);simp only[bne_self_eq_false,aX,if_false,k];refine aj ?_;refine aa (dB hi (by simp) fun b a l=>?_);have a:b.get? I=some (siO S (.ref T) (i+1) es.size ep):=a;exact aj (h b a l)
end
section
variable {E:Value->Shared->Prop}{s:Shared}
def qo{d:Type}{Q:d->Shared->Prop}(b:A.handled=none)(h:∀h' e,(∀c o,s.heap.get? c=some o->h'.get? c=some o)->(∃o,h'.get? e=some o/\o.cls=.type "StopIteration")->E (.ref e) {s with heap:=h'}):
  wpAny (model prog w) A (newExc (.type "StopIteration") []>>=fun x=>IG x) Q E s:=by
 refine aa ?_;simp only[newExc,newTuple];refine aa (bW ?_ (by size_fits));refine aa (m:=uO _ _) (pC (a:=bL) (by first |rfl| (simp only[uO];rfl)) ?_);refine bW ?_ (by size_fits);simp only[IG];refine aa (wpAny_handled ?_);rw[b];refine aa (aj (wpAny_throw ?_));exact h _ _ (fun c o e=>ag _ (ag _ e)) ⟨_,ax _ rfl,rfl⟩
def Ends(E:Value->Shared->Prop)(I:Addr)(s:Shared):Prop:=∀h' e,(∀c o,c≠I->s.heap.get? c=some o->h'.get? c=some o)->(∃o,h'.get? e=some o/\o.cls=.type "StopIteration")->E (.ref e) {s with heap:=h'}
def endA{t:bC}{Q:dG->Shared->Prop}(j:A.handled=none)(m:w.params.followText "set-order"=true)(hi:s.heap.get? I=some (siO S (.int k 0) es.size es.size ep))(a:kZ s.heap S es ep t)(h:Ends E I s):
  wpAny (model prog w) A (Builtin.«set_iterator.__next__» ⟨[.ref I],[]⟩) Q E s:=by
 have n:(jq (w.params.setOrder S ep) es)[es.size]? =none:=by have :=(o6 (w.params.setOrder S ep) es).length_eq;simp at this⊢;lia
 refine jR hi a ?_;obtain⟨⟨o,l,v,g⟩,hf⟩:=a;refine aa (nxA m l g hf ?_);rw[n,Option.map_none];dsimp only;refine aa (dB hi (by simp) fun f u r=>?_);exact qo (s:={s with heap:=f}) j fun d e p i=>h d e (fun c o b q=>p c o (r.extBut c o b q)) i
def endB{t:bC}{Q:dG->Shared->Prop}(n:A.handled=none)(v:w.params.followText "set-order"=false)(l:ja es t=false)(r:t.led=true)(hi:s.heap.get? I=some (siO S (.int k 0) es.size es.size ep))(a:kZ s.heap S es ep t)
  (p:cj t.place k=es.size)(h:Ends E I s):wpAny (model prog w) A (Builtin.«set_iterator.__next__» ⟨[.ref I],[]⟩) Q E s:=by
 refine jR hi a ?_;obtain⟨⟨o,u,D,i⟩,hf⟩:=a;refine aa (nxB v l r u i hf p (fun y j d C=>by simp at d) fun _=>?_);dsimp only;refine aa (dB hi (by simp) fun g B z=>?_);exact qo (s:={s with heap:=g}) n fun f e x m=>h f e (fun c o b q=>x c o (z.extBut c o b q)) m
def endC{t:bC}{ps:Array Value}{d:Obj}{Q:dG->Shared->Prop}(n:A.handled=none)(hi:s.heap.get? I=some (siO S (.ref T) es.size es.size ep))(r:kZ s.heap S es ep t)(j:s.heap.get? T=some d)(k:d.data=.seq ps m)(hp:ps.size=es.size)(h:Ends E I s):
  wpAny (model prog w) A (Builtin.«set_iterator.__next__» ⟨[.ref I],[]⟩) Q E s:=by
 refine jR hi r ?_;dsimp only;refine aa (ix j k ?_);have p:ps[es.size]? =none:=by simp;lia
 simp only[p];refine aa (dB hi (by simp) fun g a v=>?_);have a:g.get? I=some (siO S (.int 0 0) es.size es.size ep):=a;refine aa (dB a (by simp) fun i y x=>?_);exact qo (s:={s with heap:=i}) n fun f e u l=>h f e (fun c o b q=>u c o (x.extBut c o b (v.extBut c o b q))) l
end
def qS:Slot "set_iterator" "__iter__" "set_iterator.__iter__":=
 .of (owner:="set_iterator") (n:="__iter__") (by rw[typeLookup_type,builtinLookup_eq_fast];kernel_rfl) (by decide+kernel) (by decide+kernel) (by decide+kernel) (by first |exact .inl (by decide+kernel) |exact .inr (by decide+kernel)) (by rw[IH];kernel_rfl)
def xG:IJ table "set_iterator.__iter__"=some Builtin.«dict_keyiterator.__iter__»:=
 entryFor_alias (id':="dict_keyiterator.__iter__") (by kernel_rfl) (by first |rfl|decide+kernel) (by decide+kernel) (by kernel_rfl)
def Ax(a:Value):argsOk "set_iterator.__iter__" ⟨[a],[]⟩:=by unfold argsOk;kernel_rfl
section
variable {E:Value->Shared->Prop}{s:Shared}
def zj{Q:Option Value->Shared->Prop}(b:s.TypeIs (.ref I) "set_iterator")(h:∀(a:dG->Shared->Prop)(c:Value->Shared->Prop),(∀v h',Q (some v) {s with heap:=h'}->a (.done (.ret v)) {s with heap:=h'})->wpAny (model prog w) A.in1 (Builtin.«set_iterator.__next__» ⟨[.ref I],[]⟩) a c s):
  wpAny (model prog w) A (pyNext (.ref I)) Q E s:=by
 unfold pyNext;exact aa (i6 (eG (name:=aP "__next__") b fF (cK fF b pT (h _ _ fun v h' q=>⟨_,rfl,aj q⟩) (sv _))))
def zk{Q:Option Value->Shared->Prop}(d:s.TypeIs (.ref I) "set_iterator")(h:∀(f:dG->Shared->Prop)(a:Value->Shared->Prop),(∀h' e,(∀c o,c≠I->s.heap.get? c=some o->h'.get? c=some o)->(∃o,h'.get? e=some o/\o.cls=.type "StopIteration")->a (.ref e) {s with heap:=h'})->wpAny (model prog w) A.in1 (Builtin.«set_iterator.__next__» ⟨[.ref I],[]⟩) f a s)
  (q:∀h',(∀c o,c≠I->s.heap.get? c=some o->h'.get? c=some o)->Q none {s with heap:=h'}):wpAny (model prog w) A (pyNext (.ref I)) Q E s:=by
 unfold pyNext;refine aa (i6 (eG (name:=aP "__next__") d fF (cK fF d pT (h _ _ fun h' e k j=>?_) (sv _))));obtain⟨o,g,i⟩:=j;exact aa (qF (T:="StopIteration") (b:=true) ⟨o,g,i⟩ isSubtype_stop (aj (q _ k)))
def zi{Q:Value->Shared->Prop}(a:s.TypeIs (.ref I) "set_iterator")(h:Q (.ref I) s):wpAny (model prog w) A (pyIter (.ref I)) Q E s:=by refine wpAny_pyIter_slot a qS (cK qS a xG ?_ (Ax _));show wpAny _ _ (ret (.ref I)) _ _ s;exact aj ⟨_,rfl,"set_iterator",_,a,fF.lookup,h⟩
end
def kZ.at{t:bC}(x:kZ h S es ep t)(k:∀o,h.get? S=some o->h'.get? S=some o):kZ h' S es ep t:=let⟨⟨o,a,b,c⟩,f⟩:=x;⟨⟨o,k o a,b,c⟩,f⟩
def walkA(y:A.handled=none)(l:w.params.followText "set-order"=true)(ne:S≠I)(a:Array (Int×Value))(c:Nat)(t:bC):
  Walks prog w A I [I,S] [I] a.size (fun i v=>((jq (w.params.setOrder S c) a).toList.map (·.2))[i]? =some v) (fun i h=>kZ h S a c t/\∃k:Nat,h.get? I=some (siO S (.int k 0) i a.size c)) where
 sub:=fun b d=>by simp at d⊢;exact .inl d
 frame:=fun i h f ⟨x,k,e⟩ g=>⟨x.at fun o q=>g S (by simp) o q,k,g I (by simp) _ e⟩
 item:=fun i s Q E hi ⟨x,k,e⟩ j=>by
  have B:=(o6 (w.params.setOrder S c) a).length_eq;simp only[cm]at B;have m:(jq (w.params.setOrder S c) a)[i]? =some ((jq (w.params.setOrder S c) a)[i]'(by lia)):=by simp[show i<(jq (w.params.setOrder S c) a).size by lia]
  refine zj ⟨_,e,rfl⟩ fun r p q=>nextA l e x m fun f u n=>q _ f ?_;exact j _ f s.toks (by simp[m]) ⟨x.at fun o z=>n.extBut S o ne z,k,u⟩ fun b o d z=>n.extBut b o (by simpa using d) z
 done:=fun s Q E ⟨x,k,e⟩ j=>zk ⟨_,e,rfl⟩ (fun r p q=>endA (by simp[y]) l e x q) fun f g=>j f s.toks fun b o d z=>g b o (by simpa using d) z
 self:=fun i s Q E ⟨x,k,e⟩ q=>zi ⟨_,e,rfl⟩ q
def walkB(G:A.handled=none)(r:w.params.followText "set-order"=false)(ne:S≠I)(a:Array (Int×Value))(m:Nat)(t:bC)(n:ja a t=false)(p:t.led=true)(F:kE t):
  Walks prog w A I [I,S] [I] a.size (fun i v=>(a.toList.map (·.2))[i]? =some v) (fun i h=>kZ h S a m t/\∃k:Nat,cj t.place k=i/\h.get? I=some (siO S (.int k 0) i a.size m)) where
 sub:=fun b c=>by simp at c⊢;exact .inl c
 frame:=fun i h f ⟨x,k,d,e⟩ g=>⟨x.at fun o q=>g S (by simp) o q,k,d,g I (by simp) _ e⟩
 item:=fun i s Q E hi ⟨x,k,d,e⟩ l=>by
  have u:a[i]? =some a[i]:=by simp[hi]
  refine zj ⟨_,e,rfl⟩ fun C B q=>nextB r n p e x d u fun f j H D y=>q _ f ?_;exact l _ f s.toks (by simp[u]) ⟨x.at fun o z=>y.extBut S o ne z,j+1,EJ F.up H,D⟩ fun b o c z=>y.extBut b o (by simpa using c) z
 done:=fun s Q E ⟨x,k,d,e⟩ l=>zk ⟨_,e,rfl⟩ (fun C B q=>endB (by simp[G]) r n p e x d q) fun f g=>l f s.toks fun b o c z=>g b o (by simpa using c) z
 self:=fun i s Q E ⟨x,k,d,e⟩ q=>zi ⟨_,e,rfl⟩ q
def walkC(B:A.handled=none)(ne:S≠I)(D:T≠I)(a:Array (Int×Value))(l:Nat)(t:bC)(ps:List Nat)(hp:ps.Perm (aE a.size)):
  Walks prog w A I [I,S,T] [I] a.size (fun i v=>(ps.map fun p=>(a.getD p (0,.none)).2)[i]? =some v) (fun i h=>kZ h S a l t/\h.get? T=some {cls:=.type "tuple",data:=.seq (ps.map fun(i:Nat)=>rawInt i).toArray}/\h.get? I=some (siO S (.ref T) i a.size l)) where
 sub:=fun b c=>by simp at c⊢;exact .inl c
 frame:=fun i h d ⟨x,z,e⟩ f=>⟨x.at fun o q=>f S (by simp) o q,f T (by simp) _ z,f I (by simp) _ e⟩
 item:=fun i s Q E hi ⟨x,z,e⟩ g=>by
  have F:ps.length=a.size:=by rw[hp.length_eq,aY]
  have j:i<ps.length:=by lia
  have m:ps[i]<a.size:=bp.mp (hp.mem_iff.mp (a6 j));have C:a[ps[i]]? =some a[ps[i]]:=by simp[m]
  refine zj ⟨_,e,rfl⟩ fun r n q=>nextC (p:=ps[i]) (tk:=0) e x z rfl (by simp[j,rawInt]) C fun d u k=>q _ d ?_;exact g _ d s.toks (by simp[j,m,M9]) ⟨x.at fun o y=>k.extBut S o ne y,k.extBut T _ D z,u⟩ fun b o c y=>k.extBut b o (by simpa using c) y
 done:=fun s Q E ⟨x,z,e⟩ g=>zk ⟨_,e,rfl⟩ (fun r n q=>endC (by simp[B]) e x z rfl (by simp[hp.length_eq]) q) fun d f=>g d s.toks fun b o c y=>f b o (by simpa using c) y
 self:=fun i s Q E ⟨x,z,e⟩ q=>zi ⟨_,e,rfl⟩ q
end Q
namespace Q
open PySem PySem.Spec PySem.W PyProof.Rows L2
section
variable {E:Value->Shared->Prop}{s:Shared}
def ite_yes{a:Type}{M:Model}{b:Bool}{x y:Sem a}{Q:a->Shared->Prop}(c:b=true)(h:wpAny M A x Q E s):wpAny M A (if b=true then x else y) Q E s:=by rw[if_pos c];exact h
def B2{Q:Bool->Shared->Prop}(a:s.TypeIs (.ref S) "set")(h:Q false s):wpAny (model prog w) A (tR (.ref S)) Q E s:=by
 unfold tR;refine aa (wpAny_specialOf a F.slot_set_len.lookup ?_);generalize hid:("set.__len__":String)=id0
 (fail_if_success (clear hid id0))
 wp_delta
 rw[show splitId id0=some ("set","__len__")from by subst hid;decide+kernel];subst hid;refine aa (qF (b:=true) a (by rw[IH];kernel_rfl) ?_);rw[if_neg (by decide)];refine ite_yes (by decide+kernel) (aa (AA a ?_));exact aj h
noncomputable abbrev jw(ad:Array Value)(c:Nat):Obj:={cls:=.type "list",dict:=none,data:=.seq ad c,slots:= #[]}
def touch{c:Nat}{Q:Unit->Shared->Prop}(f:s.heap.get? L=some (jw ad c))(hz:ad.size<=5000)(h:∀h' c',h'.get? L=some (jw ad c')->dm L s.heap h'->Q () {s with heap:=h'}):wpAny (model prog w) A (lJ (.ref L)) Q E s:=by have g:ad.size<=sizeLine:=aF hz (by decide);unfold lJ;refine aa (fP f rfl ?_ g (by simp;lia));have a:∃e,(s.heap.update L (aZ fun x=>x.push bL)).get? L=some (jw (ad.push .none) e):=⟨_,by rw[bP _ f rfl];rfl⟩;obtain⟨e,a⟩:=a;refine fP (s:={s with heap:=s.heap.update L (aZ fun x=>x.push bL)}) a rfl ?_ (by simp;exact aF (by lia:ad.size+1<=5001) (by decide)) (by simp;lia);have d:∃b,((s.heap.update L (aZ fun x=>x.push bL)).update L (aZ fun x=>x.pop)).get? L=some (jw ad b):=⟨_,by rw[bP _ a rfl];simp[aZ];rfl⟩;obtain⟨b,d⟩:=d;exact h _ b d ((bO ..).trans (bO ..))
def wa{k:List Addr}{P:Nat->Value->Prop}{St:Nat->Heap->Prop}{i:Value}{c:Nat}{R:Result->Shared->Prop}(hq:∀c' s',c'.quiet=true/\gA (model prog w) A c' R s'->Qf (.again c') s')(W:Walks prog w A.in1 I fp k n P St)(u:n<=sizeLine)(g:L∉fp)(q:s.heap.get? L=some (jw #[] c))(st:St 0 s.heap)
  (h:∀s' ad c',(∀b o,b∉L::k->s.heap.get? b=some o->s'.heap.get? b=some o)->s'.gens=s.gens->s'.drawn=s.drawn->s'.os=s.os->s'.heap.get? L=some (jw ad c')->ItemsOf P ad n->R (.ok (.ret i)) s'):
  wpAny (model prog w) A.in1 (do
   rule "list.extend.makes-room"
   let f<-lJ (.ref L)
   (fun(f:Unit)=>again (Code.builtin "list.extend.loop" {pos:=[bz L,bz I,i]})) f) Qf E s:=by
 refine aa (iy (aa (touch q (by simp) fun p x m j=>?_)));have v:=W.frame 0 s.heap p st fun b a o e=>j.extBut b o (fun z=>g (z▸a)) e;refine aj (hq _ _ ⟨fO F.plain_extend_loop _,codeAny_extend_loopS W.toS u _ g _ n 0 _ _ _ rfl (aM _) v m (ItemsOf.nil P) fun s' l c' d r t=>?_⟩);exact h s' l c' (fun b o a e=>d.heap b o a (j.extBut b o (fun z=>a (by rw[z];exact aL)) e)) d.gens d.drawn d.os r t
end
def Eh(h:ItemsOf (fun i v=>vs[i]? =some v) ad vs.length):ad.toList=vs:=by
 obtain⟨c,d⟩:=h;apply bR;·simpa using c
 ·intro i a b;have :vs[i]? =some ad[i]:=d i ad[i] (by simp);rw[ae b]at this;simpa using(bc this).symm
def es_map(c:Array (Int×Value)):((aE c.size).map fun p=>(c.getD p (0,.none)).2)=c.toList.map (·.2):=by
 apply bR;·simp
 ·intro i a b;have hi:i<c.size:=by simpa using a
  simp[hi,M9]
section
variable {E:Value->Shared->Prop}{s:Shared}
def Co{o:Obj}{t:bC}{Q:List Value->Shared->Prop}(H:A.handled=none)(M:s.heap.get? S=some o)(n:o.cls=.type "set")(G:o.data=.set es ep t)(hf:t.fits es.size=true)(O:es.size<fV)(L:kE t)(X:w.params.followText "set-order"=false->t.led=true)
  (T:∀(vs:List Value) s',vs.Perm (es.toList.map (·.2))->(∀b o,s.heap.get? b=some o->s'.heap.get? b=some o)->s'.gens=s.gens->s'.os=s.os->s.heap.objs.size<s'.heap.objs.size->Q vs s'):wpAny (model prog w) A (collect (.ref S)) Q E s:=by
 have m:S<s.heap.objs.size:=ay M;have J:es.size<=sizeLine:=pG O;unfold collect;refine aa (wpAny_runValue (eI F.entry_proto_collect ?_));rw[dA F.plain_proto_collect _];show wpAny _ A.in1 (newList []>>=fun a0=>again (.builtin "list.__iadd__" ⟨[a0,.ref S],[]⟩)) _ _ s;refine aa (bW ?_);refine aj ⟨fO F.plain_list_iadd _,eI F.entry_list_iadd ?_⟩;rw[dA F.plain_list_iadd _];have D:(s.heap.push (jw #[] 0)).get? s.heap.objs.size=some (jw #[] 0):=ax _ rfl;have u:(s.heap.push (jw #[] 0)).get? S=some o:=ag _ M;have v:(s.heap.push (jw #[] 0)).objs.size=s.heap.objs.size+1:=bD ..;have U:Shared.TypeIs {s with heap:=s.heap.push (jw #[] 0)} (.ref S) "set":=⟨o,u,n⟩;show wpAny _ A.in1 (tS (.ref s.heap.objs.size) (.ref S) (.ref s.heap.objs.size)) _ _ {s with heap:=s.heap.push (jw #[] 0)};unfold tS;refine aa (AA U ?_);rw[if_neg (by simp[Builtin.List.listSameRef];exact eK m)];have C:∀(vs:List Value)(s':Shared)(c:Array Value)(a:Nat),vs.length=es.size->vs.Perm (es.toList.map (·.2))->(∀b o,s.heap.get? b=some o->s'.heap.get? b=some o)->s'.gens=s.gens->s'.os=s.os->s'.heap.get? s.heap.objs.size=some (jw c a)->ItemsOf (fun i a2=>vs[i]? =some a2) c es.size->
   wpAny (model prog w) A (load s.heap.objs.size>>=fun a3=>match a3.data with |.seq xs _=>pure xs.toList|_=>unsupported "internal:collect") Q E s':=fun vs s' c a r hp j l z e g=>by
  refine aa (wpAny_load e ?_);rw[<-r]at g;have :=Eh g;exact aj (by rw[this];exact T vs s' hp j l z (ay e))
 refine aa (LK u n G hf O (fun I=>?_) fun I f d hp=>?_)
 ·rw[v];refine aa (bH (B2 ⟨o,ag _ u,n⟩ ?_));refine ite_yes (by decide+kernel) ?_;have y:((s.heap.push (jw #[] 0)).push (siO S (.int 0 0) 0 es.size ep)).get? (s.heap.objs.size+1)=some (siO S (.int 0 0) 0 es.size ep):=by rw[<-v];exact ax _ rfl
  have K:kZ ((s.heap.push (jw #[] 0)).push (siO S (.int 0 0) 0 es.size ep)) S es ep t:=⟨⟨o,ag _ u,n,G⟩,hf⟩;have B:s.heap.objs.size∉[s.heap.objs.size+1,S]:=by simp only[aG,cu,or_false,not_or];exact⟨aK (dW _),eK m⟩
  have P:∀(s':Shared),(∀b o,b∉s.heap.objs.size::[s.heap.objs.size+1]->((s.heap.push (jw #[] 0)).push (siO S (.int 0 0) 0 es.size ep)).get? b=some o->s'.heap.get? b=some o)->∀b o,s.heap.get? b=some o->s'.heap.get? b=some o:=fun s' k b o e=>by have p:=ay e;refine k b o ?_ (ag _ (ag _ e));simp only[aG,cu,or_false,not_or];exact⟨aK p,aK (bM p)⟩
  cases hw:w.params.followText "set-order" with
  |true=>
   have r:((jq (w.params.setOrder S ep) es).toList.map (·.2)).length=es.size:=by have :=(o6 (w.params.setOrder S ep) es).length_eq;simpa using this
   refine wa (s:={s with heap:=(s.heap.push (jw #[] 0)).push (siO S (.int 0 0) 0 es.size ep)}) (fun a s' h=>h) (walkA (A:=A.in1) (by simp[H]) hw (aK (bM m)) es ep t) J B (ag _ D) ⟨K,0,y⟩ fun s' c a j l z x e g=>?_;exact C _ s' c a r ((o6 (w.params.setOrder S ep) es).map _) (P s' j) l x e g
  |false=>
   have W:ja es t=false:=by rw[hw]at I;simpa using I
   refine wa (s:={s with heap:=(s.heap.push (jw #[] 0)).push (siO S (.int 0 0) 0 es.size ep)}) (fun a s' h=>h) (walkB (A:=A.in1) (by simp[H]) hw (aK (bM m)) es ep t W (X hw) L) J B (ag _ D) ⟨K,0,EI L.up,y⟩ fun s' c a j l z x e g=>?_;exact C _ s' c a (by simp) (dU _) (P s' j) l x e g
 ·rw[v];have Y:((s.heap.push (jw #[] 0)).push {cls:=.type "tuple",data:=.seq (f.map fun(i:Nat)=>rawInt i).toArray}).objs.size=s.heap.objs.size+1+1:=by rw[bD,v]
  have V:((s.heap.push (jw #[] 0)).push {cls:=.type "tuple",data:=.seq (f.map fun(i:Nat)=>rawInt i).toArray}).get? (s.heap.objs.size+1)=some {cls:=.type "tuple",data:=.seq (f.map fun(i:Nat)=>rawInt i).toArray}:=by rw[<-v];exact ax _ rfl
  have N:((s.heap.push (jw #[] 0)).push {cls:=.type "tuple",data:=.seq (f.map fun(i:Nat)=>rawInt i).toArray}).get? S=some o:=ag _ u;have R:((s.heap.push (jw #[] 0)).push {cls:=.type "tuple",data:=.seq (f.map fun(i:Nat)=>rawInt i).toArray}).get? s.heap.objs.size=some (jw #[] 0):=ag _ D;have Z:∀b o,s.heap.get? b=some o->((s.heap.push (jw #[] 0)).push {cls:=.type "tuple",data:=.seq (f.map fun(i:Nat)=>rawInt i).toArray}).get? b=some o:=fun b o e=>ag _ (ag _ e);generalize(s.heap.push (jw #[] 0)).push {cls:=.type "tuple",data:=.seq (f.map fun(i:Nat)=>rawInt i).toArray}=h2 at *;refine aa (bH (B2 ⟨o,ag _ N,n⟩ ?_));refine ite_yes (by decide+kernel) ?_;have y:(h2.push (siO S (.ref (s.heap.objs.size+1)) 0 es.size ep)).get? (s.heap.objs.size+1+1)=some (siO S (.ref (s.heap.objs.size+1)) 0 es.size ep):=by rw[<-Y];exact ax _ rfl
  have B:s.heap.objs.size∉[s.heap.objs.size+1+1,S,s.heap.objs.size+1]:=by simp only[aG,cu,or_false,not_or];exact⟨aK (bM (dW _)),eK m,aK (dW _)⟩
  have r:(f.map fun a1=>(es.getD a1 (0,.none)).2).length=es.size:=by rw[ai,hp.length_eq,aY]
  refine wa (s:={s with drawn:=d,heap:=h2.push (siO S (.ref (s.heap.objs.size+1)) 0 es.size ep)}) (fun a s' h=>h) (walkC (A:=A.in1) (by simp[H]) (aK (bM (bM m))) (aK (dW _)) es ep t f hp) J B (ag _ R)
   ⟨⟨⟨o,ag _ N,n,G⟩,hf⟩,ag _ V,y⟩ fun s' c a j l z x e g=>?_
  refine C _ s' c a r ((hp.map _).trans (by rw[es_map])) (fun b o q=>?_) l x e g;have p:=ay q;refine j b o ?_ (ag _ (Z b o q));simp only[aG,cu,or_false,not_or];exact⟨aK p,aK (bM (bM p))⟩
end
def HS{xs:List Value}(p:vs.Perm xs):∀{ks:List Int},bY xs ks->∃c:List Int,c.Perm ks/\bY vs c:=by
 induction p with
 |nil=>intro ks h;exact⟨ks,dU _,h⟩
 |cons x p ih=>
  intro ks h;cases h with
  |cons k t h=>obtain⟨c,a,b⟩:=ih h;exact⟨k::c,a.cons k,.cons k t b⟩
 |swap x y l=>
  intro ks h;cases h with
  |cons k t h=>cases h with
   |cons k' t' h=>exact⟨k'::k::_,xn _ _ _,.cons k' t' (.cons k t h)⟩
 |trans p q ih1 ih2=>intro ks h;obtain⟨c,a,b⟩:=ih2 h;obtain⟨f,d,e⟩:=ih1 b;exact⟨f,d.trans a,e⟩
section
variable {E:Value->Shared->Prop}{s:Shared}
def DE{o:Obj}{t:bC}{ks:List Int}{Q:Value->Shared->Prop}(v:A.handled=none)(B:s.heap.get? S=some o)(q:o.cls=.type "set")(u:o.data=.set es ep t)(hf:t.fits es.size=true)(n:es.size<64)(p:kE t)(z:w.params.followText "set-order"=false->t.led=true)
  (x:bY (es.toList.map (·.2)) ks)(nd:ks.Nodup)
  (h:∀(a:List Int)(vs:List Value)(s':Shared)(l:Addr)(c:Nat),a.Perm ks->bY vs a->(∀b o,s.heap.get? b=some o->s'.heap.get? b=some o)->s'.gens=s.gens->s'.os=s.os->s.heap.objs.size<=l->s'.heap.get? l=some (seqObj "list" (gC (ltI a) vs).toArray c)->Q (.ref l) s'):
  wpAny (model prog w) A (call (.builtin "sorted") [.ref S]) Q E s:=by
 refine mr kind_sorted plain_sorted entry_sorted (args_sorted1 _) ?_;unfold Builtin.«sorted»;refine aa (m:=checkCount "sorted" 1 1 _) (aj (aa (Co (by simp[v]) B q u hf (fW n (by decide)) p z fun vs s' hp H D F G=>aa (pM ?_ ?_))))
 ·obtain⟨a,j,f⟩:=HS hp x;have y:vs.length=a.length:=f.length;have C:vs.length<64:=by have :=hp.length_eq;simp at this;lia
  have d:(s'.heap.push (seqObj "list" vs.toArray 0)).get? s'.heap.objs.size=some (seqObj "list" vs.toArray 0):=ax _ rfl;have I:a.Nodup:=j.nodup_iff.mpr nd;show wpAny _ _ _ _ _ {s' with heap:=s'.heap.push (seqObj "list" vs.toArray 0)};refine aa (bH (cK ID ⟨_,d,rfl⟩ ET (Fb (lt:=ltI a) (h0:=s'.heap) (by rw[y];exact totI I) d (fun b o e=>⟨ag _ e,aK (ay e)⟩) C (fun k=>Iw f k) ⟨_,rfl,?_⟩) (args_list_sort _)));refine aj ⟨_,rfl,?_⟩;obtain⟨c,r⟩:=sortedHeap_at (out:=(gC (ltI a) vs).toArray) d;refine h a vs _ _ c j f (fun b o e=>?_) D F (lE G) r;have g:=H b o e;have i:=ay g;show(sortedHeap (s'.heap.push (seqObj "list" vs.toArray 0)) s'.heap.objs.size vs (gC (ltI a) vs).toArray).get? b=some o;rw[sortedHeap_old (aK i) (by rw[IE];exact bM i)];exact ag _ g
 ·have :=hp.length_eq;simp at this;exact aF (by lia:vs.length<=64) (by decide)
end
def Ll(ks:List Key):(met ks).Nodup:=by
 unfold met;have g:∀(l d:List Key),d.Nodup->(l.foldl more d).Nodup:=by
  intro l
  induction l with
  |nil=>exact fun _ h=>h
  |cons k l ih=>
   intro d h;refine ih _ ?_;unfold more;split;·exact h
   ·rename_i c;refine gB.mpr ⟨h,by simp,fun a f b e=>?_⟩;rw[aS]at e;subst e;intro z;subst z;exact c (jI.mpr f)
 exact g ks [] jd
theorem yb{c:Type}[DecidableEq c]:∀{m l:List c},m.Nodup->(∀x∈m,x∈l)->l.length=m.length->l.Perm m
 | [],l,_,_,h=>by rw[kB]at h;rw[List.eq_nil_of_length_eq_zero h]
 |a::m,l,nd,hs,h=>by have d:a∈l:=hs a aL;have p:=IW d;rw[cG]at nd;have e:=p.length_eq;rw[ba]at e h;have q:=yb (m:=m) (l:=l.erase a) nd.2 (fun x b=>(qL (fun z:x=a=>nd.1 (by rw[<-z];exact b))).mpr (hs x (aD _ b))) (by lia);exact p.trans (q.cons a)
section
def FZ{k:Int}{v:Value}(h:(bS prog w).is (.inl k) v=true):∃t,v=.int k t:=by rw[D7]at h;exact Value.isInt_shape (k:=k) (v:=v) h
def uZ{l:List (Int×Value)}(h:ElemsOf (bS prog w) l)(hi:∀e∈l,∀k,(bS prog w).is k e.2=true->∃n:Int,k=.inl n):∃a:List Int,bY (l.map (·.2)) a:=by
 induction l with
 |nil=>exact⟨[],.nil⟩
 |cons e l ih=>obtain⟨a,r⟩:=ih h.tail fun c f=>hi c (aD _ f);obtain⟨⟨k,b,_⟩,_⟩:=h.head;obtain⟨n,rfl⟩:=hi e aL k b;obtain⟨t,d⟩:=FZ b;refine⟨n::a,?_⟩;rw[a8,d];exact .cons n t r
def LL:∀{vs:List Value}{a:List Int},bY vs a->∀n,n∈a↔∃v∈vs,(bS prog w).is (.inl n) v=true:=by
 intro vs a r
 induction r with
 |nil=>simp
 |cons k t r ih=>
  intro n;rw[aG,ih n];constructor
  ·rintro(rfl|⟨v,hv,e⟩);·exact⟨_,aL,nV _ _ _ _⟩
   ·exact⟨v,aD _ hv,e⟩
  ·rintro⟨v,hv,e⟩;rcases aG.mp hv with rfl|hv;·obtain⟨c,b⟩:=FZ e;cases b;exact .inl rfl
   ·exact .inr ⟨v,hv,e⟩
def Ha(x:sC (bS prog w) h a (has (met (ns.map .inl))) (met (ns.map .inl)).length led):
  ∃o es ep t b,h.get? a=some o/\o.cls=.type "set"/\o.data=.set es ep t/\t.fits es.size=true/\es.size<=ns.length/\kE t/\t.led=led/\bY (es.toList.map (·.2)) b/\b.Nodup/\∀n,n∈b↔n∈ns:=by
 obtain⟨o,es,ep,t,B,g,q,u,i,D,hf,f,m,l⟩:=x;have y:=Ln (ns.map (fq:Int->Key));rw[ai]at y;have inl:∀e∈es.toList,∀k,(bS prog w).is k e.2=true->∃n:Int,n∈ns/\k=.inl n:=fun e c k d=>by have :=mI.mp (jI.mp ((i k).mpr ⟨e,c,d⟩));obtain⟨n,f,rfl⟩:=aJ.mp this;exact⟨n,f,rfl⟩
 obtain⟨b,r⟩:=uZ u fun e c k d=>let⟨n,_,e⟩:=inl e c k d;⟨n,e⟩;have mem:∀n,n∈b↔n∈ns:=fun n=>by
  rw[LL (prog:=prog) (w:=w) r n];constructor;·rintro⟨v,C,e⟩;obtain⟨j,s,rfl⟩:=aJ.mp C;obtain⟨E,A,z⟩:=inl j s _ e;cases z;exact A
  ·intro h;obtain⟨e,c,d⟩:=(i (.inl n)).mp (jI.mpr (mI.mpr (sL h)));exact⟨e.2,sL c,d⟩
 have len:b.length=es.size:=by have :=r.length;simp at this;lia
 have p:(b.map (fq:Int->Key)).Perm (met (ns.map .inl)):=yb (Ll _) (fun x g=>by obtain⟨n,f,rfl⟩:=aJ.mp (mI.mp g);exact sL ((mem n).mpr f)) (by rw[ai];lia)
 have nd:(b.map (fq:Int->Key)).Nodup:=p.nodup_iff.mpr (Ll _);exact⟨o,es,ep,t,b,B,g.1,q,hf,by lia,m,l,r,(mR.mp nd).imp fun h z=>h (congrArg _ z),mem⟩
end
end Q
namespace L2
open PySem PySem.Spec PyProof.Rows Q
section
def Inv.same{a:List (Option V)}(I:Inv X pins a H s)(e:s'.heap=s.heap)(f:s'.gens=s.gens)(i:s'.os=s.os):Inv X pins a H s':=by obtain⟨h,g,d,t,o⟩:=s;obtain⟨c,b,k,l,j⟩:=s';obtain rfl:c=h:=e;obtain rfl:b=g:=f;obtain rfl:j=o:=i;exact⟨I.ok,I.os,I.bare,I.base,I.loc,I.cell,I.free,I.freeC,I.pin,I.hok,I.len⟩
theorem rg{c:Type}[DecidableEq c]:∀{l m:List c},l.Nodup->(∀x∈l,x∈m)->l.length<=m.length
 | [],_,_,_=>aM _
 |a::l,m,nd,h=>by rw[cG]at nd;have d:=h a aL;have p:=(IW d).length_eq;have :=rg (m:=m.erase a) nd.2 fun x b=>(qL fun z:x=a=>nd.1 (z▸b)).mpr (h x (aD _ b));rw[ba]at p⊢;lia
def Few(ns:List Int):Prop:=ns.length<1000/\∃a:List Int,a.length<64/\∀x∈ns,x∈a
def Few.of(h:ns.length<64):Few ns:=⟨by lia,ns,h,fun _ h=>h⟩
def A3(K:ah)(ta:TA):TE:=fun σ H Q=>ta σ H fun vs H1=>∃(p:Addr)(ns:List Int),vs=[V.ref p]/\SqL K H1 p (ns.map V.int)/\Few ns/\
 ∀(a:List Int) l,a.Nodup->(∀x,x∈a↔x∈ns)->H1 l=none->Q (.ref l) (upd H1 l (.lst (sortI a)))
def Ar:fJ "sorted"=some (.builtin "sorted"):=by decide+kernel
def Im:fJ "set"=some (.type "set"):=by decide+kernel
def DR{a:Expr}{A:TA}{p p':Pos}(q:X.calm=true)(G:Gl X "sorted")(L:X.mg "sorted"=none)(J:Gl X "set")(M:X.mg "set"=none)(E:PA X [a] A)(O:bh [a] X.env=[(false,eval a X.env)]:=by rfl):
  PE X (.Call (.Name "sorted" p) [.Call (.Name "set" p') [a] [] pos'] [] pos) (A3 X.K A):=by
 intro a0 s σ H a7 I h;refine Call_ (mL I G L Ar (iQ (M7 ?_) rfl rfl));refine Call_ (mL I J M Im (d0 (thn (E pos' a0 s σ H _ I h) fun us s1 ⟨vs,H1,d,r1,q1⟩=>?_) O rfl));obtain⟨pl,w,e,hq,⟨a8,mm,a9,N⟩,a4⟩:=q1;subst e;obtain⟨b3,rfl,rx⟩:=vals1 r1;cases rx;obtain⟨R,y,a3,_⟩:=d.list hq;have j:=y.length;rw[ai]at j;have r2:bG ((w.map (fq:Int->Key)).map kV) R:=by rw[cD];exact y
 refine x8 (ks:=w.map .inl) (d.ok.hd q) a3.isList (by rw[aw,ai];exact j) (fun i a5 e=>zZ r2 i a5 (by simpa using e)) (by rw[aw,<-j];unfold fV;lia) fun h' tk C Y=>?_;obtain⟨o,n,ep,t,ms,v,k,F,hf,b2,D,B,r,nd,mem⟩:=Ha C;have b0:n.size<64:=by have g:=r.length;simp at g;have :=rg nd fun x k=>N x ((mem x).mp k);lia
 refine aj ?_;refine DE (s:={s1 with heap:=h',toks:=tk}) (d.ok.hd q) v k F hf (by lia) D (fun a6=>by rw[B,a6];rfl) r nd fun f vs z l c hp P Z S T U V=>?_;have m:f.Nodup:=hp.nodup_iff.mpr nd;have b1:f.length=n.size:=by have a1:=hp.length_eq;have g:=r.length;simp at g;lia
 have W:∀b o,s1.heap.get? b=some o->z.heap.get? b=some o:=fun b o e=>Z b o (Y b o (ay e) e);have K:s1.heap.objs.size<h'.objs.size:=ay v;have u:s1.heap.objs.size<=l:=aF (lE K) U;have Q:(sortI f).length<=sizeLine:=by unfold sortI;rw[ai,K2 m];exact fU (by lia)
 exact⟨.ref l,_,(d.laid (h':=z.heap) (t':=s1.toks) W u (show dz X.prog X.w _ _ _ (.lst (sortI f))from⟨Q,_,c,outI m (sO P),V⟩)).same rfl S T,rfl,a4 _ _ m (fun x=>(hp.mem_iff).trans (mem x)) (d.hok.fresh u)⟩
end
end L2
set_option maxHeartbeats 1000000
namespace Q
open PySem PySem.Spec PySem.W PyProof.Rows L2
section
variable {E:Value->Shared->Prop}{s:Shared}{lt:Nat->Nat->Bool}{vs:List Value}
open Classical in
end
end Q
set_option maxHeartbeats 3200000
namespace L2
open PySem PySem.Spec PyProof.Rows Q
set_option maxHeartbeats 1000000
end L2
namespace Q
open PySem PySem.Spec PySem.W PyProof.Rows L2
end Q
namespace L2
open PySem PySem.Spec PyProof.Rows
def tOrU(K:ah)(ta tb:TE):TE:=fun σ H Q=>ta σ H fun x H1=>∃c,Iy K x H1 c/\if c=true then Q x H1 else tb σ H1 Q
def KG{a b:Expr}{rest:List Expr}{m tb:TE}(q:PE X a m)(r:PE X (.BoolOp .Or (b::rest) pos) tb):PE X (.BoolOp .Or (a::b::rest) pos) (tOrU X.K m tb):=by
 intro f s g H Q I h;refine BoolOp_or (thn (q f s g H _ I h) fun v u ⟨x,i,n,l,e⟩=>?_);obtain⟨c,t,e⟩:=e;refine thn (Jo f u g i x v (fun k d=>k=c/\d=i) n l ⟨c,t,rfl,rfl⟩) fun k w ⟨d,j,o,p⟩=>?_;subst o p;cases k with
 |false=>exact r f w g d Q j e
 |true=>exact⟨x,d,j,l,e⟩
end L2
set_option genInjectivity false
set_option genSizeOf false
namespace R
open PySem PySem.Spec PyProof.Rows L2
inductive Bf where
 |len|isinstance|all|list|tuple|set|min|int|lend|isx|sortl|minl|maxl|sortt
 deriving DecidableEq
abbrev Bf.name:Bf->Str
 |.len=>"len" |.isinstance=>"isinstance" |.all=>"all" |.list=>"list" |.tuple=>"tuple" |.set=>"set" |.min=>"min" |.int=>"int" |.lend=>"len" |.isx=>"isinstance" |.sortl=>"sorted" |.minl=>"min" |.maxl=>"max" |.sortt=>"sorted"
abbrev Bf.val:Bf->Value
 |.len=>.builtin "len" |.isinstance=>.builtin "isinstance" |.all=>.builtin "all" |.list=>.type "list" |.tuple=>.type "tuple" |.set=>.type "set" |.min=>.builtin "min" |.int=>.type "int" |.lend=>.builtin "len" |.isx=>.builtin "isinstance" |.sortl=>.builtin "sorted" |.minl=>.builtin "min" |.maxl=>.builtin "max" |.sortt=>.builtin "sorted"
def Bf.boot:∀b:Bf,fJ b.name=some b.val
 |.len=>PySem.boot_len|.isinstance=>boot_isinstance|.all=>boot_all|.list=>xp|.tuple=>xj
 |.set=>by decide+kernel|.min=>by decide+kernel|.int=>xO|.lend=>PySem.boot_len|.isx=>boot_isinstance|.sortl=>by decide+kernel|.minl=>by decide+kernel|.maxl=>by decide+kernel|.sortt=>by decide+kernel
def Bf.plain:∀b:Bf,b.name≠"__name__"/\(b.name==("__debug__":Str))=false:=by intro b;cases b<;>exact⟨by decide+kernel,by decide+kernel⟩
inductive Ty where
 |int|bool|str|list|tuple|dict|valueError
 deriving DecidableEq
abbrev Ty.name:Ty->Str
 |.int=>"int" |.bool=>"bool" |.str=>"str" |.list=>"list" |.tuple=>"tuple" |.dict=>"dict" |.valueError=>"ValueError"
abbrev Ty.t:Ty->String
 |.int=>"int" |.bool=>"bool" |.str=>"str" |.list=>"list" |.tuple=>"tuple" |.dict=>"dict" |.valueError=>"ValueError"
def Ty.boot:∀b:Ty,fJ b.name=some (.type b.t)
 |.int=>xO|.bool=>PyProof.Rows.boot_bool|.str=>PyProof.Rows.boot_str|.list=>xp|.tuple=>xj|.dict=>PyProof.Rows.boot_dict|.valueError=>by decide+kernel
def Ty.plain:∀b:Ty,b.name≠"__name__"/\(b.name==("__debug__":Str))=false:=by intro b;cases b<;>exact⟨by decide+kernel,by decide+kernel⟩
abbrev uF(K:ah):Operator->R2
 |.Add=>fun x y H Q=>(rI0 fun i j=>.int (i+j)) x y H Q\/(∃i j,x=.str i/\y=.str j/\i.length+j.length<=sizeLine/\Q (.str (i++j)) H)\/rCat x y H Q\/Fp K x y H Q\/Fq K x y H Q
 |.Sub=>rI0 fun i j=>.int (i-j)
 |.Mult=>fun x y H Q=>(rI EO fun i j=>.int (i*j)) x y H Q\/rRep x y H Q\/Ki x y H Q
 |.Mod=>rI (fun _ j=>0<j) fun i j=>.int (i%j)
 |.FloorDiv=>rI CDiv fun i j=>.int (i/j)
 |.Pow=>rI MN fun i j=>.int (i^j.toNat)
 |.RShift=>rI (fun _ j=>0<=j) fun i j=>.int (i/2^j.toNat)
 |.LShift=>rI MN fun i j=>.int (i*2^j.toNat)
 |.BitAnd=>rI0 fun i j=>.int (iU i j)
 |.BitXor=>rI0 fun i j=>.int (kL i j)
 |_=>fun _ _ _ _=>False
abbrev gR(K:ah):CmpOp->R2
 |.Eq=>rEqD K
 |.NotEq=>rNeD K
 |.Lt=>rI0 fun i j=>.bl (decide (i<j))
 |.LtE=>rI0 fun i j=>.bl (decide (i<=j))
 |.Gt=>rI0 fun i j=>.bl (decide (j<i))
 |.GtE=>rI0 fun i j=>.bl (decide (j<=i))
 |.Is=>fun x y H Q=>y=.non/\Q (.bl (decide (x=.non))) H
 |.IsNot=>fun x y H Q=>y=.non/\Q (.bl (!decide (x=.non))) H
 |.In=>fun x y H Q=>((∃i j,x=.str i/\y=.str j/\Q (.bl (!(hU j i 0 j.length 1).isEmpty)) H)\/rInD K false x y H Q)\/rIn K false x y H Q
 |.NotIn=>fun x y H Q=>((∃i j,x=.str i/\y=.str j/\Q (.bl (!(!(hU j i 0 j.length 1).isEmpty))) H)\/rInD K true x y H Q)\/rIn K true x y H Q
abbrev rUn(K:ah):UnaryOp->V->Hp->VK->Prop
 |.USub=>rU fun i=>.int (-i)
 |_=>fun _ _ _=>False
def rSlc(K:ah):V->Option Int->Option Int->Hp->VK->Prop:=fun x lo hi H Q=>rSlL K x lo hi H Q\/rSlS x lo hi H Q
abbrev rBf(K:ah):Bf->List V->Hp->VK->Prop
 |.len=>fun xs H Q=>(∃p ys,xs=[.ref p]/\(SqL K H p ys\/SqT K H p ys)/\Q (.int ys.length) H)\/(∃z:Str,xs=[.str z]/\z.length<=sizeLine/\Q (.int z.length) H)\/(∃a n,xs=[V.ref a]/\H a=some (_root_.Q.DH a n)/\Q (.int n) H)
 |.isinstance=>fun xs H Q=>(∃x T t b,xs=[x,.ty T]/\nq K H x t/\cE K t (.type T)=some b/\Q (.bl b) H)\/(∃x C t b,xs=[x,.ref C]/\nq K H x t/\cE K t (.ref C)=some b/\Q (.bl b) H)
 |.all=>fun xs H Q=>∃(p:Addr)(bs:List Bool),xs=[.ref p]/\SqL K H p (bs.map V.bl)/\Q (.bl (bs.all id)) H
 |.list=>fun xs H Q=>∃p ys,xs=[.ref p]/\(SqL K H p ys\/SqT K H p ys)/\∀l,H l=none->Q (.ref l) (upd H l (.lst ys))
 |.tuple=>fun xs H Q=>∃p ys,xs=[.ref p]/\((SqL K H p ys/\∀l,H l=none->Q (.ref l) (upd H l (.tup ys)))\/(SqT K H p ys/\Q (.ref p) H))
 |.set=>Q.rSet K
 |.min=>fun xs H Q=>∃i j,xs=[.int i,.int j]/\Q (.int (if j<i then j else i)) H
 |.int=>fun xs H Q=>(∃i,xs=[.int i]/\Q (.int i) H)\/∃k,xs=[.bl k]/\Q (.int (if k then 1 else 0)) H
 |.lend=>fun xs H Q=>∃a kvs,xs=[V.ref a]/\H a=some (.dT kvs)/\Q (.int kvs.length) H
 |.sortl=>Q.Kh K
 |.sortt=>Q.Kg K
 |.minl=>Q.rMinL K
 |.maxl=>Q.rMaxL K
 |.isx=>fun xs H Q=>∃a C d y cv b,xs=[.ref a,y]/\H a=some (pS a (.ref C) d)/\(∀dd,d=some dd->∃fs,H dd=some (xdO dd fs))/\mX K C=true/\((∃T,y=.ty T/\cv=lD T)\/(∃D,y=.ref D/\cv=bz D))/\cE K (.ref C) cv=some b/\Q (.bl b) H
inductive Mm where
 |append|clear|reverse|pop|index|extend
 deriving DecidableEq
abbrev Mm.name:Mm->Str
 |.append=>"append" |.clear=>"clear" |.reverse=>"reverse" |.pop=>"pop" |.index=>"index" |.extend=>"extend"
abbrev Mm.id:Mm->String
 |.append=>"list.append" |.clear=>"list.clear" |.reverse=>"list.reverse" |.pop=>"list.pop" |.index=>"list.index" |.extend=>"list.extend"
abbrev rMm:Mm->V->List V->Hp->VK->Prop
 |.append=>Ft
 |.clear=>Kl
 |.reverse=>Bj
 |.pop=>fun x xs H Q=>False\/Kj x xs H Q
 |.index=>fun _ _ _ _=>False
 |.extend=>Fo
abbrev baseOk:Expr->Bool
 |.Name .. =>true|.Subscript .. =>true
 |.Call f _ _ _=>match f with
  |.Attribute .. =>true
  |_=>false
 |_=>false
mutual
inductive CE where
 |var (i:Nat)
 |con (c:Const)
 |glo (x:Str)
 |ty (t:Ty)
 |bin (op:Operator) (a b:CE)
 |un (op:UnaryOp) (a:CE)
 |cmp (op:CmpOp) (a b:CE)
 |chain (op op':CmpOp) (a b c:CE)
 |not (a:CE)
 |and (a b:CE)
 |or (a b:CE)
 |orv (a b:CE)
 |ite (c a b:CE)
 |idx (a i:CE)
 |cut (a:CE) (lo hi:CO)
 |tup (es:CL)
 |lst (es:CL)
 |dic (ps:CP)
 |call (f:Str) (es:CL)
 |bfn (b:Bf) (es:CL)
 |meth1 (m:Mm) (o a:CE)
 |idxd (a i:CE)
 |dicT
 |setd (o a b:CE)
 |base (x:Str) (es:CL)
 |fld (a:CE) (f:Str)
 |sortset (a:CE)
 |comp (own:List Str) (fr:List Nat) (tg:CG) (it:CI) (cond:CO) (elt:CE)
inductive CL where
 |nil
 |cons (e:CE) (es:CL)
inductive CP where
 |nil
 |cons (k v:CE) (r:CP)
inductive CO where
 |no
 |yes (e:CE)
inductive CG where
 |name (i:Nat)
 |tup (gs:CGs)
 |sub (o i:CE)
inductive CGs where
 |nil
 |cons (g:CG) (gs:CGs)
inductive CI where
 |seq (e:CE)
 |lseq (e:CE)
 |range1 (e:CE)
 |range2 (a b:CE)
 |enumt (e:CE)
end
abbrev CL.len:CL->Nat
 |.nil=>0
 |.cons _ r=>r.len+1
abbrev CGs.len:CGs->Nat
 |.nil=>0
 |.cons _ r=>r.len+1
mutual
inductive CS where
 |asg (g:CG) (e:CE)
 |asgc (i:Nat) (e:CE)
 |expr (e:CE)
 |iff (c:CE) (a b:CB)
 |whl (c:CE) (b:CB)
 |forr (g:CG) (it:CI) (b:CB)
 |ret (e:CE)
 |retN
 |pass|brk|cont
 |rais (x:Str) (es:CL)
 |raisX (x:Str) (es:CL)
 |fldX (o:CE) (f:Str) (e:CE)
 |tryc (x:Str) (i:Nat) (b su:CB)
inductive CB where
 |nil
 |hole
 |cons (s:CS) (r:CB)
end
abbrev BZ(sc:Scope)(x:Str):Bool:=sc.names.lookup x==some .local||sc.names.lookup x==some .cell||sc.names.lookup x==some .free
abbrev kD(sc:Scope)(x:Str):Bool:=sc.names.lookup x==some .globalImplicit
abbrev qY(x:Str):Bool:=(x==("__debug__":Str))==false&&(x==("__classdict__":Str))==false
abbrev okCon:Const->Bool
 |.none=>true|.bool _=>true|.int _=>true|.str _=>true|_=>false
abbrev cv:Const->V
 |.none=>.non|.bool b=>.bl b|.int i=>.int i|.str x=>.str x|_=>.non
abbrev namesOf(N own:List Str)(fr:List Nat):List Str:=own++fr.map fun j=>N.getD j ""
abbrev mD(own:List Str)(fr:List Nat)(σ:L2.St):L2.St:=own.map (fun _=>none)++fr.map fun j=>(σ[j]?).getD none
abbrev u4:Expr->Bool
 |.Slice .. =>true
 |_=>false
abbrev isSet:Expr->Bool
 |.Set .. =>true
 |_=>false
abbrev wq:Expr->Bool
 |.ListComp .. =>true|.SetComp .. =>true|.DictComp .. =>true
 |_=>false
abbrev tu:Expr->Bool
 |.Tuple .. =>true
 |_=>false
abbrev zJ(sc sc':Scope)(N own:List Str)(fr:List Nat):Bool:=
 decide (sc'.kind=.function)&&sc'.names.all (fun y=>decide (y.2=.cell->sc'.names.lookup y.1=some .cell))&&sc'.names.all (fun y=>decide (y.2=.local->sc'.names.lookup y.1=some .local))&&
 sc'.names.all (fun y=>decide (y.2=.free->sc.names.lookup y.1=some .cell\/sc.names.lookup y.1=some .free))&&decide ((namesOf N own fr).Nodup)&&
 fr.all (fun j=>decide (j<N.length)&&sc'.names.lookup (N.getD j "")==some .free)&&own.all (fun x=>sc'.names.lookup x==some .local||sc'.names.lookup x==some .cell)
def cQ{P:Prop}(h:false=true):P:=(ao h).elim
def K7{P:Prop}(h:true=false):P:=(ao h.symm).elim
def an{a b:Bool}(h:(a&&b)=true):a=true/\b=true:=by rwa [az]at h
def qp{a:Bool}(h:(!a)=true):a=false:=by simpa using h
def gz{a b c:Bool}(h:(a&&b&&c)=true):a=true/\b=true/\c=true:=let⟨h,z⟩:=an h;let⟨x,y⟩:=an h;⟨x,y,z⟩
def mn{a b c d:Bool}(h:(a&&b&&c&&d)=true):a=true/\b=true/\c=true/\d=true:=let⟨h,z⟩:=an h;let⟨x,y,w⟩:=gz h;⟨x,y,w,z⟩
def and5{a b c d e:Bool}(h:(a&&b&&c&&d&&e)=true):a=true/\b=true/\c=true/\d=true/\e=true:=let⟨h,z⟩:=an h;let⟨x,y,w,v⟩:=mn h;⟨x,y,w,v,z⟩
section
variable {s:Stmt}
abbrev l1{α:Type}(l:List α)(f:α->Bool):Bool:=match l with
 |a::r=>r.isEmpty&&f a
 | []=>false
def kO{b:Type}{l:List b}{f:b->Bool}(h:l1 l f=true):∃a,l=[a]/\f a=true:=by
 cases l with
 |nil=>exact cQ h
 |cons a r=>
  obtain⟨c,h⟩:=an h;cases r with
  |nil=>exact⟨a,rfl,h⟩
  |cons=>exact cQ c
abbrev l2{α:Type}(l:List α)(f:α->α->Bool):Bool:=match l with
 |a::r=>l1 r (f a)
 | []=>false
def yn{c:Type}{l:List c}{f:c->c->Bool}(h:l2 l f=true):∃a b,l=[a,b]/\f a b=true:=by
 cases l with
 |nil=>exact cQ h
 |cons a r=>obtain⟨b,rfl,h⟩:=kO h;exact⟨a,b,rfl,h⟩
abbrev dNm(e:Expr)(f:Str->Pos->Bool):Bool:=match e with
 |.Name x p=>f x p
 |_=>false
def gH{f}(h:dNm e f=true):∃x p,e=.Name x p/\f x p=true:=by cases e<;>first |exact⟨_,_,rfl,h⟩ |exact cQ h
abbrev dCn(e:Expr)(f:Const->Bool):Bool:=match e with
 |.Constant c _ _=>f c
 |_=>false
def EA{f}(h:dCn e f=true):∃c j p,e=.Constant c j p/\f c=true:=by cases e<;>first |exact⟨_,_,_,rfl,h⟩ |exact cQ h
abbrev dBi(e:Expr)(f:Expr->Operator->Expr->Bool):Bool:=match e with
 |.BinOp a op b _=>f a op b
 |_=>false
def Mq{f}(h:dBi e f=true):∃a c b p,e=.BinOp a c b p/\f a c b=true:=by cases e<;>first |exact⟨_,_,_,_,rfl,h⟩ |exact cQ h
abbrev dUn(e:Expr)(f:UnaryOp->Expr->Bool):Bool:=match e with
 |.UnaryOp op a _=>f op a
 |_=>false
def Ew{f}(h:dUn e f=true):∃b a p,e=.UnaryOp b a p/\f b a=true:=by cases e<;>first |exact⟨_,_,_,rfl,h⟩ |exact cQ h
abbrev dCm(e:Expr)(f:Expr->List CmpOp->List Expr->Bool):Bool:=match e with
 |.Compare a os es _=>f a os es
 |_=>false
def EB{f}(h:dCm e f=true):∃a os es p,e=.Compare a os es p/\f a os es=true:=by cases e<;>first |exact⟨_,_,_,_,rfl,h⟩ |exact cQ h
abbrev dC1(e:Expr)(f:Expr->CmpOp->Expr->Bool):Bool:=dCm e fun a os es=>l1 os fun c=>l1 es fun b=> !isSet b&&f a c b
def Mp{f}(h:dC1 e f=true):∃a c b p,e=.Compare a [c] [b] p/\isSet b=false/\f a c b=true:=by obtain⟨a,i,g,p,rfl,k⟩:=EB h;obtain⟨c,rfl,l⟩:=kO k;obtain⟨b,rfl,m⟩:=kO l;obtain⟨d,n⟩:=an m;exact⟨a,c,b,p,rfl,qp d,n⟩
abbrev dBo(e:Expr)(f:BoolOp->Expr->Expr->Bool):Bool:=match e with
 |.BoolOp op es p=>match es with
  |a::r=>match r with
   |b::r=>match r with
    | []=>f op a b
    |c::r=>f op a (.BoolOp op (b::c::r) p)
   | []=>false
  | []=>false
 |_=>false
def oa{f}(h:dBo e f=true):∃d a x p,f d a x=true/\(e=.BoolOp d [a,x] p\/∃b c r,x=.BoolOp d (b::c::r) p/\e=.BoolOp d (a::b::c::r) p):=by
 cases e<;>first |exact cQ h|skip
 rename_i d es p;cases es with
 |nil=>exact cQ h
 |cons a r=>cases r with
  |nil=>exact cQ h
  |cons b r=>cases r with
   |nil=>exact⟨d,a,b,p,h,.inl rfl⟩
   |cons c r=>exact⟨d,a,_,p,h,.inr ⟨b,c,r,rfl,rfl⟩⟩
abbrev dIf(e:Expr)(f:Expr->Expr->Expr->Bool):Bool:=match e with
 |.IfExp c a b _=>f c a b
 |_=>false
def dIf_of{f}(h:dIf e f=true):∃c a b p,e=.IfExp c a b p/\f c a b=true:=by cases e<;>first |exact⟨_,_,_,_,rfl,h⟩ |exact cQ h
abbrev dSu(e:Expr)(f:Expr->Expr->Bool):Bool:=match e with
 |.Subscript a i _=>f a i
 |_=>false
def wH{f}(h:dSu e f=true):∃a i p,e=.Subscript a i p/\f a i=true:=by cases e<;>first |exact⟨_,_,_,rfl,h⟩ |exact cQ h
abbrev dSl(e:Expr)(f:Option Expr->Option Expr->Option Expr->Bool):Bool:=match e with
 |.Slice a b c _=>f a b c
 |_=>false
def dSl_of{f}(h:dSl e f=true):∃a b c p,e=.Slice a b c p/\f a b c=true:=by cases e<;>first |exact⟨_,_,_,_,rfl,h⟩ |exact cQ h
abbrev dTu(e:Expr)(f:List Expr->Bool):Bool:=match e with
 |.Tuple es _ _=>f es
 |_=>false
def Ex{f}(h:dTu e f=true):∃es k p,e=.Tuple es k p/\f es=true:=by cases e<;>first |exact⟨_,_,_,rfl,h⟩ |exact cQ h
abbrev dLi(e:Expr)(f:List Expr->Bool):Bool:=match e with
 |.List es _=>f es
 |_=>false
def Mi{f}(h:dLi e f=true):∃es p,e=.List es p/\f es=true:=by cases e<;>first |exact⟨_,_,rfl,h⟩ |exact cQ h
abbrev dDi(e:Expr)(f:List (Option Expr)->List Expr->Bool):Bool:=match e with
 |.Dict ks vs _=>f ks vs
 |_=>false
def Mn{f}(h:dDi e f=true):∃ks vs p,e=.Dict ks vs p/\f ks vs=true:=by cases e<;>first |exact⟨_,_,_,rfl,h⟩ |exact cQ h
abbrev dCa(e:Expr)(f:Expr->List Expr->Pos->Bool):Bool:=match e with
 |.Call g es ks p=>ks.isEmpty&&f g es p
 |_=>false
def Mo{f}(h:dCa e f=true):∃g es p,e=.Call g es [] p/\f g es p=true:=by
 cases e<;>first |exact cQ h|skip
 rename_i g es ks p;obtain⟨a,h⟩:=an h;cases ks with
 |nil=>exact⟨g,es,p,rfl,h⟩
 |cons=>exact cQ a
abbrev dFn(e:Expr)(f:Str->List Expr->Bool):Bool:=dCa e fun g es _=>dNm g fun x _=>f x es
def jx{f}(h:dFn e f=true):∃x np es p,e=.Call (.Name x np) es [] p/\f x es=true:=by obtain⟨g,es,p,rfl,k⟩:=Mo h;obtain⟨x,np,rfl,l⟩:=gH k;exact⟨x,np,es,p,rfl,l⟩
abbrev dAt(e:Expr)(f:Expr->Str->Pos->Bool):Bool:=match e with
 |.Attribute a x p=>f a x p
 |_=>false
def Ag{f}(h:dAt e f=true):∃a x p,e=.Attribute a x p/\f a x p=true:=by cases e<;>first |exact⟨_,_,_,rfl,h⟩ |exact cQ h
abbrev dMt(m:Str)(e:Expr)(f:Expr->List Expr->Bool):Bool:=dCa e fun g es b=>dAt g fun o c a=>decide (m=c)&&(a.endLine==b.line)&&f o es
def Af{m:Str}{f}(h:dMt m e f=true):∃o a es b,e=.Call (.Attribute o m a) es [] b/\(a.endLine==b.line)=true/\f o es=true:=by obtain⟨g,es,b,rfl,k⟩:=Mo h;obtain⟨o,i,a,rfl,l⟩:=Ag k;obtain⟨c,d,n⟩:=gz l;cases of_decide_eq_true c;exact⟨o,a,es,b,rfl,d,n⟩
abbrev dLc(e:Expr)(f:Expr->List Comprehension->Scope->Pos->Bool):Bool:=match e with
 |.ListComp a gs sc p=>f a gs sc p
 |_=>false
def Ez{f}(h:dLc e f=true):∃a gs sc p,e=.ListComp a gs sc p/\f a gs sc p=true:=by cases e<;>first |exact⟨_,_,_,_,rfl,h⟩ |exact cQ h
abbrev dAs(s:Stmt)(f:Expr->Expr->Pos->Bool):Bool:=match s with
 |.Assign ts e p=>l1 ts fun g=>f g e p
 |_=>false
def Ah{f}(h:dAs s f=true):∃g e p,s=.Assign [g] e p/\f g e p=true:=by
 cases s<;>first |exact cQ h|skip
 obtain⟨g,rfl,h⟩:=kO h;exact⟨g,_,_,rfl,h⟩
abbrev dEx(s:Stmt)(f:Expr->Bool):Bool:=match s with
 |.Expr e _=>f e
 |_=>false
def Ml{f}(h:dEx s f=true):∃e p,s=.Expr e p/\f e=true:=by cases s<;>first |exact⟨_,_,rfl,h⟩ |exact cQ h
abbrev dIs(s:Stmt)(f:Expr->List Stmt->List Stmt->Bool):Bool:=match s with
 |.If c a b _=>f c a b
 |_=>false
def Mj{f}(h:dIs s f=true):∃c a b p,s=.If c a b p/\f c a b=true:=by cases s<;>first |exact⟨_,_,_,_,rfl,h⟩ |exact cQ h
abbrev dWh(s:Stmt)(f:Expr->List Stmt->Bool):Bool:=match s with
 |.While c a b _=>b.isEmpty&&f c a
 |_=>false
def dWh_of{f}(h:dWh s f=true):∃c a p,s=.While c a [] p/\f c a=true:=by
 cases s<;>first |exact cQ h|skip
 rename_i c a b p;obtain⟨d,h⟩:=an h;cases b with
 |nil=>exact⟨c,a,p,rfl,h⟩
 |cons=>exact cQ d
abbrev dFo(s:Stmt)(f:Expr->Expr->List Stmt->Bool):Bool:=match s with
 |.For g i a b _=>b.isEmpty&&f g i a
 |_=>false
def dFo_of{f}(h:dFo s f=true):∃g i a p,s=.For g i a [] p/\f g i a=true:=by
 cases s<;>first |exact cQ h|skip
 rename_i g i a b p;obtain⟨c,h⟩:=an h;cases b with
 |nil=>exact⟨g,i,a,p,rfl,h⟩
 |cons=>exact cQ c
abbrev dRt(s:Stmt)(f:Option Expr->Bool):Bool:=match s with
 |.Return e _=>f e
 |_=>false
def Ey{f}(h:dRt s f=true):∃e p,s=.Return e p/\f e=true:=by cases s<;>first |exact⟨_,_,rfl,h⟩ |exact cQ h
abbrev dRa(s:Stmt)(f:Str->List Expr->Bool):Bool:=match s with
 |.Raise e c _=>match e with
  |some e=>c.isNone&&dFn e f
  |none=>false
 |_=>false
def Mh{f}(h:dRa s f=true):∃x np es a p,s=.Raise (some (.Call (.Name x np) es [] a)) none p/\f x es=true:=by
 cases s<;>first |exact cQ h|skip
 rename_i e c p;cases e with
 |none=>exact cQ h
 |some e=>
  obtain⟨b,k⟩:=an h;obtain⟨x,np,es,a,rfl,l⟩:=jx k;cases c with
  |none=>exact⟨x,np,es,a,p,rfl,l⟩
  |some=>exact cQ b
abbrev dTr(s:Stmt)(f:List Stmt->Str->Str->List Stmt->Bool):Bool:=match s with
 |.Try b hs o r _=>o.isEmpty&&r.isEmpty&&l1 hs fun h=>match h with
  |.ExceptHandler t n ss _=>match t with
   |some t=>match n with
    |some n=>dNm t fun x _=>f b x n ss
    |none=>false
   |none=>false
 |_=>false
def dTr_of{f}(h:dTr s f=true):∃b x np n a hp p,s=.Try b [.ExceptHandler (some (.Name x np)) (some n) a hp] [] [] p/\f b x n a=true:=by
 cases s<;>first |exact cQ h|skip
 rename_i b hs o r p;obtain⟨c,d,k⟩:=gz h;obtain⟨⟨t,n,a,hp⟩,rfl,l⟩:=kO k;cases o with
 |cons=>exact cQ c
 |nil=>cases r with
  |cons=>exact cQ d
  |nil=>cases t with
   |none=>exact cQ l
   |some t=>cases n with
    |none=>exact cQ l
    |some n=>obtain⟨x,np,rfl,m⟩:=gH l;exact⟨b,x,np,n,a,hp,p,rfl,m⟩
end
abbrev u1{α:Type}(l:List α)(f:α->List α->Bool):Bool:=match l with
 |a::r=>f a r
 | []=>false
def xS{b:Type}{l:List b}{f:b->List b->Bool}(h:u1 l f=true):∃a r,l=a::r/\f a r=true:=by
 cases l with
 |nil=>exact cQ h
 |cons a r=>exact⟨a,r,rfl,h⟩
abbrev om{α:Type}(o:Option α)(f:α->Bool):Bool:=match o with
 |some x=>f x
 |none=>false
def FD{a:Type}{o:Option a}{f:a->Bool}(h:om o f=true):∃x,o=some x/\f x=true:=by
 cases o with
 |none=>exact cQ h
 |some x=>exact⟨x,rfl,h⟩
def nil_of{a:Type}{l:List a}(h:l.isEmpty=true):l=[]:=List.isEmpty_iff.mp h
abbrev dFF(f g:Str)(sc:Scope)(e:Expr)(k:Expr->Bool):Bool:=dFn e fun b es=>l1 es fun x=>dFn x fun c es=>l1 es fun a=>decide (b=f)&&decide (c=g)&&kD sc f&&kD sc g&&k a
def dFF_of{f g:Str}{k}(h:dFF f g sc e k=true):∃p a q r t,e=.Call (.Name f p) [.Call (.Name g q) [a] [] r] [] t/\kD sc f=true/\kD sc g=true/\k a=true:=by obtain⟨_,p,_,t,rfl,i⟩:=jx h;obtain⟨x,rfl,j⟩:=kO i;obtain⟨_,q,_,r,rfl,l⟩:=jx j;obtain⟨a,rfl,m⟩:=kO l;obtain⟨b,c,d,o,n⟩:=and5 m;cases of_decide_eq_true b;cases of_decide_eq_true c;exact⟨p,a,q,r,t,rfl,d,o,n⟩
mutual
noncomputable def du(sc:Scope)(N:List Str):CE->Expr->Bool
 |.var i,e=>dNm e fun x _=>N[i]? ==some x&&BZ sc x&&qY x
 |.con c,e=>dCn e fun c'=>okCon c&&decide (c=c')
 |.glo x,e=>dNm e fun y _=>decide (x=y)&&kD sc x&&qY x
 |.ty t,e=>dNm e fun y _=>decide (t.name=y)&&kD sc y
 |.bin h a b,e=>dBi e fun d w j=>decide (h=w)&&du sc N a d&&du sc N b j
 |.un h a,e=>dUn e fun w d=>decide (h=w)&&du sc N a d
 |.cmp h a b,e=>dC1 e fun d w j=>decide (h=w)&&du sc N a d&&du sc N b j
 |.chain o1 o2 a b c,e=>dCm e fun d os es=>l2 os fun p q=>l2 es fun j c'=>decide (o1=p)&&decide (o2=q)&& !isSet c'&&(du sc N a d&&du sc N b j&&du sc N c c')
 |.not a,e=>dUn e fun h d=>decide (h=.Not)&&du sc N a d
 |.and a b,e=>dBo e fun h d x=>decide (h=.And)&&du sc N a d&&du sc N b x
 |.or a b,e=>dBo e fun h d x=>decide (h=.Or)&&du sc N a d&&du sc N b x
 |.orv a b,e=>dBo e fun h d x=>decide (h=.Or)&&du sc N a d&&du sc N b x
 |.ite c a b,e=>dIf e fun c' d j=>du sc N c c'&&du sc N a d&&du sc N b j
 |.idx a i,e=>dSu e fun d r=> !u4 r&&du sc N a d&&du sc N i r
 |.cut a lo hi,e=>dSu e fun d s=>dSl s fun l u t=>t.isNone&&du sc N a d&&(chkO sc N lo l&&chkO sc N hi u)
 |.tup es,e=>dTu e fun es'=>lR sc N es es'
 |.lst es,e=>dLi e fun es'=>lR sc N es es'
 |.dic ps,e=>dDi e fun ks vs=>decide (ks.length<=15)&&chkP sc N ps ks vs
 |.call f es,e=>dFn e fun k es'=>decide (f=k)&&kD sc f&&qY f&&lR sc N es es'
 |.bfn b es,e=>dFn e fun k es'=>decide (b.name=k)&&kD sc k&& !es'.isEmpty&&lR sc N es es'
 |.meth1 m o a,e=>dMt m.name e fun o' es=>l1 es fun d=>baseOk o'&&du sc N o o'&&du sc N a d
 |.idxd a i,e=>dSu e fun d r=> !u4 r&&du sc N a d&&du sc N i r
 |.dicT,e=>dDi e fun ks vs=>ks.isEmpty&&vs.isEmpty
 |.setd o a b,e=>dMt (aP "setdefault") e fun o' es=>l2 es fun d j=>baseOk o'&&du sc N o o'&&(du sc N a d&&du sc N b j)
 |.base x es,e=>dMt (aP "__init__") e fun o es'=>dNm o fun A _=>decide (x=A)&&kD sc x&&qY x&&(decide (es.len<29)&& !es'.isEmpty&&lR sc N es es')
 |.fld a f,e=>dAt e fun v k _=>dNm v fun n np=>decide (f=k)&&du sc N a (.Name n np)
 |.sortset a,e=>dFF "sorted" "set" sc e (du sc N a)
 |.comp own fr tg it cond elt,e=>dLc e fun z gs sc' _=>l1 gs fun g=>decide (g.is_async=0)&&zJ sc sc' N own fr&& !isSet g.iter&&(chkI sc N it g.iter g.target&&wM sc' (namesOf N own fr) false tg g.target&&chkC sc' (namesOf N own fr) cond g.ifs&&du sc' (namesOf N own fr) elt z)
noncomputable def lR(sc:Scope)(N:List Str):CL->List Expr->Bool
 |.nil,es=>es.isEmpty
 |.cons e r,es=>u1 es fun a b=>du sc N e a&&lR sc N r b
noncomputable def chkP(sc:Scope)(N:List Str):CP->List (Option Expr)->List Expr->Bool
 |.nil,ks,vs=>ks.isEmpty&&vs.isEmpty
 |.cons k v r,ks,vs=>u1 ks fun a b=>u1 vs fun c d=>om a fun a=>du sc N k a&&du sc N v c&&chkP sc N r b d
noncomputable def chkO(sc:Scope)(N:List Str):CO->Option Expr->Bool
 |.no,o=>o.isNone
 |.yes e,o=>om o (du sc N e)
noncomputable def chkC(sc:Scope)(N:List Str):CO->List Expr->Bool
 |.no,o=>o.isEmpty
 |.yes e,o=>l1 o (du sc N e)
noncomputable def wM(sc:Scope)(N:List Str)(all:Bool):CG->Expr->Bool
 |.name i,e=>dNm e fun x _=>N[i]? ==some x&&(sc.names.lookup x==some .local||sc.names.lookup x==some .cell)
 |.tup gs,e=>dTu e fun es=>wL sc N all gs es
 |.sub o i,e=>dSu e fun o' a=> !u4 a&&du sc N o o'&&du sc N i a
noncomputable def wL(sc:Scope)(N:List Str)(all:Bool):CGs->List Expr->Bool
 |.nil,es=>es.isEmpty
 |.cons g gs,es=>u1 es fun a es'=>wM sc N all g a&&wL sc N all gs es'
noncomputable def chkI(sc:Scope)(N:List Str):CI->Expr->Expr->Bool
 |.seq e,c,_=>du sc N e c
 |.lseq e,c,_=>du sc N e c
 |.range1 e,x,_=>dFn x fun f es=>l1 es fun c=>decide (f="range")&&kD sc f&&du sc N e c
 |.range2 a b,x,_=>dFn x fun f es=>l2 es fun d g=>decide (f="range")&&kD sc f&&du sc N a d&&du sc N b g
 |.enumt e,x,tg'=>dFn x fun f es=>l1 es fun c=>decide (f="enumerate")&&kD sc f&&du sc N e c&&tu tg'
end
mutual
noncomputable def pQ:CE->Bool
 |.var _=>true
 |.con _=>true
 |.glo _=>true
 |.ty _=>true
 |.lst es=>wc es
 |.tup es=>wc es
 |.bfn .isinstance es=>wc es
 |.bfn .isx es=>wc es
 |.fld a _=>pQ a
 |.bin _ a b=>pQ a&&pQ b
 |.meth1 _ a b=>pQ a&&pQ b
 |_=>false
noncomputable def wc:CL->Bool
 |.nil=>true
 |.cons e es=>pQ e&&wc es
end
abbrev FV:CE->Bool
 |.bfn .isx es=>wc es
 |_=>false
abbrev liteT:CE->Bool
 |.and a b=>FV a&&FV b
 |c=>FV c
mutual
noncomputable def liteS:CS->Bool
 |.asg (.name _) e=>pQ e
 |.ret e=>pQ e
 |.pass=>true
 |.expr e=>pQ e
 |.iff c a b=>liteT c&&(BU a&&BU b)
 |_=>false
noncomputable def BU:CB->Bool
 |.nil=>true
 |.hole=>false
 |.cons s r=>liteS s&&BU r
end
abbrev isCe:CE->Bool
 |.comp .. =>true
 |_=>false
mutual
noncomputable def chkS(sc:Scope)(N:List Str):CS->Stmt->Bool
 |.asg g e,s=>dAs s fun k h _=>wM sc N true g k&&du sc N e h&& !wq h&& !(tu k&&tu h)
 |.asgc i e,s=>isCe e&&dAs s fun g h _=>dNm g fun x p=>dLc h fun a b c d=>N[i]? ==some x&&(sc.names.lookup x==some .local||sc.names.lookup x==some .cell)&&du sc N e (.ListComp a b c d)&&
   (sc.names.lookup x==some .cell||(decide (p.line=d.line)&& !(c.names.any fun y=>decide (y.1=x)&&(decide (y.2=.local)||decide (y.2=.cell)))))
 |.expr e,s=>dEx s fun h=>du sc N e h&& !wq h
 |.iff c a b,s=>dIs s fun c' r j=>du sc N c c'&&qC sc N a r&&qC sc N b j
 |.whl c b,s=>dWh s fun c' j=>du sc N c c'&&qC sc N b j
 |.forr g it b,s=>dFo s fun k m j=>wM sc N true g k&&chkI sc N it m k&& !isSet m&&qC sc N b j
 |.ret e,s=>dRt s fun o=>om o (du sc N e)
 |.retN,s=>dRt s fun o=>o.isNone
 |.rais x es,s=>dRa s fun l es'=>decide (x=l)&&kD sc x&&qY x&&(!es'.isEmpty&&lR sc N es es')
 |.raisX x es,s=>dRa s fun l es'=>decide (x=l)&&kD sc x&&qY x&&(!es'.isEmpty&&lR sc N es es')
 |.fldX o f e,s=>dAs s fun g h _=>dAt g fun o' t _=>decide (f=t)&&du sc N o o'&&du sc N e h&& !wq h
 |.tryc x i b su,s=>dTr s fun j l n q=>decide (x=l)&&kD sc x&&qY x&&(N[i]? ==some n&&sc.names.lookup n==some .local&&BU su)&&(!q.isEmpty&&qC sc N su q&&qC sc N b j)
 |.pass,s=>match s with
  |.Pass _=>true
  |_=>false
 |.brk,s=>match s with
  |.Break _=>true
  |_=>false
 |.cont,s=>match s with
  |.Continue _=>true
  |_=>false
noncomputable def qC(sc:Scope)(N:List Str):CB->List Stmt->Bool
 |.hole,_=>true
 |.nil,ss=>ss.isEmpty
 |.cons s r,ss=>u1 ss fun s' a=>chkS sc N s s'&&qC sc N r a
end
structure Gam where
 val:Str->Option V
 fn:Str->Nat->Option (Sp×List V)
 ini:Str->Nat->Option (Addr×Sp×List V)
 dic:Addr->Option (List (Key×V))
 mak:Str->Nat->Option (Addr×Sp×List V)
 mth:Str->Nat->Option (Addr×Sp×List V)
def Ep(K:ah)(tl:TE):TI:=fun σ H R=>tl σ H fun x H1=>(∃a,x=.ref a/\(∃xs,SqL K H1 a xs)/\R (Itl K a) H1)\/(∃a,x=.ref a/\(∃xs,SqT K H1 a xs)/\R (Itt K a) H1)\/(∃z,x=.str z/\R (Its z) H1)
def A2(K:ah)(t:TE):TT:=fun σ H Q=>t σ H fun x H1=>∃k,Iy K x H1 k/\Q k H1
mutual
noncomputable def wpE(G:Gam)(K:ah)(E:XS):CE->TE
 |.var i=>pK i
 |.con c=>tC (cv c)
 |.glo x=>fun σ H Q=>∃v,G.val x=some v/\Q v H
 |.ty t=>tC (.ty t.t)
 |.bin op a b=>tOp (uF K op) (wpE G K E a) (wpE G K E b)
 |.un op a=>tUn (rUn K op) (wpE G K E a)
 |.cmp op a b=>tOp (gR K op) (wpE G K E a) (wpE G K E b)
 |.chain o1 o2 a b c=>vo (gR K o1) (gR K o2) (wpE G K E a) (wpE G K E b) (wpE G K E c)
 |.not a=>Jv (wpE G K E a)
 |.and a b=>JB (wpE G K E a) (wpE G K E b)
 |.or a b=>tOrV (wpE G K E a) (wpE G K E b)
 |.orv a b=>tOrU K (wpE G K E a) (wpE G K E b)
 |.ite c a b=>tIf (wpT G K E c) (wpE G K E a) (wpE G K E b)
 |.idx a i=>tOp (rIx K) (wpE G K E a) (wpE G K E i)
 |.cut a lo hi=>tSl (rSlc K) (wpE G K E a) (wpO G K E lo) (wpO G K E hi)
 |.tup es=>tTup (wpL G K E es)
 |.lst es=>tLst (wpL G K E es)
 |.dic ps=>fun σ H Q=>(ps=.nil/\Jz σ H Q)\/(ps≠.nil/\tDisp (wpP G K E ps) σ H Q)
 |.call f es=>fun σ H Q=>∃sp am,G.fn f es.len=some (sp,am)/\A5 sp am (E σ) (wpL G K E es) σ H Q
 |.bfn b es=>tCB (rBf K b) (wpL G K E es)
 |.meth1 m o a=>tBM K "list" (rMm m) (wpE G K E o) (mU (wpE G K E a) vm)
 |.idxd a i=>tOp (rIxD K) (wpE G K E a) (wpE G K E i)
 |.dicT=>Jy
 |.setd o a b=>tBM K "dict" Fl (wpE G K E o) (mU (wpE G K E a) (mU (wpE G K E b) vm))
 |.base x es=>fun σ H Q=>∃B,G.val x=some (.ref B)/\tBase K B (wpL G K E es) σ H Q
 |.fld a f=>fun σ H Q=>wpE G K E a σ H fun x H1=>rFld K f x H1 Q
 |.sortset a=>A3 K (mU (wpE G K E a) vm)
 |.comp own fr tg it cond elt=>vn (wpI G K E it) (wpG G K N0 tg) (wpC G K N0 cond) (wpE G K N0 elt) (mD own fr)
noncomputable def wpT(G:Gam)(K:ah)(E:XS):CE->TT
 |.cmp op a b=>tV (tOp (gR K op) (wpE G K E a) (wpE G K E b))
 |.chain o1 o2 a b c=>tV (vo (gR K o1) (gR K o2) (wpE G K E a) (wpE G K E b) (wpE G K E c))
 |.not a=>tNot (wpT G K E a)
 |.and a b=>tAnd (wpT G K E a) (wpT G K E b)
 |.or a b=>tOr (wpT G K E a) (wpT G K E b)
 |.ite _ _ _=>fun _ _ _=>False
 |.var i=>A2 K (pK i)
 |.con c=>A2 K (tC (cv c))
 |.glo x=>A2 K (fun σ H Q=>∃v,G.val x=some v/\Q v H)
 |.idx a i=>A2 K (tOp (rIx K) (wpE G K E a) (wpE G K E i))
 |.call f es=>A2 K (fun σ H Q=>∃sp am,G.fn f es.len=some (sp,am)/\A5 sp am (E σ) (wpL G K E es) σ H Q)
 |.bfn b es=>A2 K (tCB (rBf K b) (wpL G K E es))
 |_=>fun _ _ _=>False
noncomputable def wpL(G:Gam)(K:ah)(E:XS):CL->TA
 |.nil=>vm
 |.cons e es=>mU (wpE G K E e) (wpL G K E es)
noncomputable def wpP(G:Gam)(K:ah)(E:XS):CP->List (TE×TE)
 |.nil=>[]
 |.cons k v r=>(wpE G K E k,wpE G K E v)::wpP G K E r
noncomputable def wpO(G:Gam)(K:ah)(E:XS):CO->TO
 |.no=>yZ
 |.yes e=>Ju (wpE G K E e)
noncomputable def wpC(G:Gam)(K:ah)(E:XS):CO->TT
 |.no=>tYes
 |.yes e=>wpT G K E e
noncomputable def wpG(G:Gam)(K:ah)(E:XS):CG->TG
 |.name i=>iV i
 |.tup gs=>gTup K gs.len (wpGs G K E gs)
 |.sub o i=>gSub (wpE G K E o) (wpE G K E i) Fn
noncomputable def wpGs(G:Gam)(K:ah)(E:XS):CGs->TGs
 |.nil=>gNil
 |.cons g gs=>LX (wpG G K E g) (wpGs G K E gs)
noncomputable def wpI(G:Gam)(K:ah)(E:XS):CI->TI
 |.seq e=>Ep K (wpE G K E e)
 |.lseq e=>LS K (wpE G K E e)
 |.range1 e=>LR (mU (wpE G K E e) vm)
 |.range2 a b=>LQ (mU (wpE G K E a) (mU (wpE G K E b) vm))
 |.enumt e=>Eo K (mU (wpE G K E e) vm)
end
mutual
noncomputable def wpS(G:Gam)(K:ah)(E:XS):CS->TS
 |.asg g e=>qm (wpE G K E e) (wpG G K E g)
 |.asgc i e=>qm (wpE G K E e) (iV i)
 |.expr e=>Jx (wpE G K E e)
 |.iff c a b=>Jw (wpT G K E c) (wpB G K E a) (wpB G K E b)
 |.whl c b=>Js (wpT G K E c) (wpB G K E b)
 |.forr g it b=>tFor (wpI G K E it) (wpG G K E g) (wpB G K E b)
 |.ret e=>tRet (wpE G K E e)
 |.retN=>Jt
 |.rais x es=>fun D σ H=>∃C,G.val x=some (.ref C)/\b7 K (.ref C)=true/\PySem.W.excIn K C bmV "ValueError.__new__"=true/\wpL G K E es σ H fun vs H1=>vs.length<=sizeLine/\E σ (.ref C) none H1
 |.raisX x es=>fun D σ H=>∃C sp am,G.ini x es.len=some (C,sp,am)/\JY C sp am E (wpL G K E es) D σ H
 |.fldX o f e=>sFldX K (wpE G K E o) (wpE G K E e) f
 |.tryc x i b su=>fun D σ H=>∃C,G.val x=some (.ref C)/\wpB G K (ll K C i (wpB G K N0 su) D) b D σ H
 |.pass=>A4
 |.brk=>JA
 |.cont=>tCont
noncomputable def wpB(G:Gam)(K:ah)(E:XS):CB->TS
 |.nil=>A4
 |.hole=>fun _ _ _=>False
 |.cons s r=>mz (wpS G K E s) (wpB G K E r)
end
noncomputable abbrev Sat(G:Gam)(K:ah)(sp:Sp)(c:CB)(N:List Str):Prop:=∀vs H Q E,sp vs H Q E->wpB G K (fun _=>E) c {nx:=fun _ H'=>Q .non H',rt:=Q} (L2.start N vs) H
abbrev jj:List Str:=["len","isinstance","all","any","list","tuple","int","bool","str","dict","range","enumerate","sorted","set","min","max","ValueError","sum","zip","reversed"]
structure Ok(CX:CXT)(G:Gam)(E:XS)(sc:Scope)(N:List Str)(all:Bool)(X:Cx):Prop where
 names:X.N=N
 top:all=true->X.stack=X.env::X.outer/\X.env.frame=some X.env.locals/\X.ex=[]
 nd:N.Nodup
 loc:∀x,sc.names.lookup x=some .local->X.env.scope.names.lookup x=some .local
 cel:∀x,sc.names.lookup x=some .cell->X.env.scope.names.lookup x=some .cell
 fre:∀x,sc.names.lookup x=some .free->X.env.scope.names.lookup x=some .cell\/X.env.scope.names.lookup x=some .free
 glo:∀x,sc.names.lookup x=some .globalImplicit->X.env.scope.names.lookup x=some .globalImplicit
 all:all=true->∀x,X.fn x=true
 own:∀x,sc.names.lookup x=some .cell->X.fn x=true
 calm:X.calm=true
 hu:X.A.units+50<cLine
 val:∀x v,G.val x=some v->∃u,X.mg x=some u/\RelV v u
 fn:∀x n sp am,G.fn x n=some (sp,am)->∃f fd ps ds k,jm X.prog X.w X.K X.mg X.base CX k f fd ps sp/\i5 k X.A/\X.mg x=some (.ref f)/\b7 X.K (.ref f)=true/\Binds X.K fd ps ds/\bG am ds
 ini:∀x n C sp am,G.ini x n=some (C,sp,am)->∃f fd ps ds k,MkX X.K C f/\jm X.prog X.w X.K X.mg X.base CX k f fd ps sp/\i5 (k+1) X.A/\X.mg x=some (.ref C)/\Binds X.K fd ps ds/\bG am ds
 dic:∀a kvs,G.dic a=some kvs->DkIn X.prog X.w X.K a kvs
 mak:∀x n C sp am,G.mak x n=some (C,sp,am)->∃f fd ps ds k,Mk X.K C f/\jm X.prog X.w X.K X.mg X.base CX k f fd ps sp/\i5 (k+1) X.A/\X.mg x=some (.ref C)/\Binds X.K fd ps ds/\bG am ds
 mth:∀m n C sp am,G.mth m n=some (C,sp,am)->∃f fd ps ds k,Cls X.K C/\Meth X.K C m f/\jm X.prog X.w X.K X.mg X.base CX k f fd ps sp/\i5 k X.A/\Binds X.K fd ps ds/\bG am ds
 blt:∀x∈jj,X.mg x=none
 px:PassesOwn (model X.prog X.w) X.A X.env X.xe
 pass:yQ CX X E
 made:MadeS X E
 madeX:EM X E
 cx:CX=CXx X.prog X.w
def Bf.mem:∀b:Bf,b.name∈jj:=by intro b;cases b<;>decide+kernel
def Ty.mem:∀b:Ty,b.name∈jj:=by intro b;cases b<;>decide+kernel
section
variable {CX:CXT}{G:Gam}{E:XS}{N:List Str}{all:Bool}
def Ok.vis(o:Ok CX G E sc N all X){x:Str}(h:BZ sc x=true):Vis X.env.scope x:=by
 unfold BZ at h;rw[b8,b8,beq_iff_eq,beq_iff_eq,beq_iff_eq]at h;rcases h with(h|h) |h;·exact .inl (o.loc x h)
 ·exact .inr (.inl (o.cel x h))
 ·rcases o.fre x h with q|q;·exact .inr (.inl q)
  ·exact .inr (.inr q)
def Ok.gl(o:Ok CX G E sc N all X){x:Str}(h:kD sc x=true):Gl X x:=by unfold kD at h;rw[beq_iff_eq]at h;exact o.glo x h
def gS{x:Str}(h:qY x=true):(x==("__debug__":Str))=false/\(x==("__classdict__":Str))=false:=by unfold qY at h;rw[az,beq_iff_eq,beq_iff_eq]at h;exact h
def Fs:∀a,OpR X (eD a) (uF X.K a)
 |.Add=>op_add.or (DZ.or (op_cat.or (op_catT.or op_cat0)))
 |.Sub=>op_sub
 |.Mult=>op_mul.or (op_rep.or op_repS)
 |.Mod=>op_mod
 |.FloorDiv=>op_fdiv
 |.Pow=>op_pow
 |.RShift=>op_shr
 |.MatMult=>fun _ _ _ _ _ _ _ _ _ _ _ _ h=>h.elim
 |.Div=>fun _ _ _ _ _ _ _ _ _ _ _ _ h=>h.elim
 |.LShift=>op_shl
 |.BitOr=>fun _ _ _ _ _ _ _ _ _ _ _ _ h=>h.elim
 |.BitXor=>op_xor
 |.BitAnd=>op_and
def o5(b:X.A.units+50<cLine):∀a,OpR X (cX a) (gR X.K a)
 |.Eq=>op_eqD (by lia)
 |.NotEq=>op_neD (by lia)
 |.Lt=>op_lt
 |.LtE=>op_le
 |.Gt=>op_gt
 |.GtE=>op_ge
 |.Is=>op_isN
 |.IsNot=>op_notN
 |.In=>(Ht.or (op_inD (by lia))).or Hu
 |.NotIn=>(zH.or (Hs (by lia))).or zI
def rUn_ok:∀a,UnR X (unaryOp a) (rUn X.K a)
 |.USub=>un_neg
 |.Not=>fun _ _ _ _ _ _ _ _ _ h=>h.elim
 |.UAdd=>fun _ _ _ _ _ _ _ _ _ h=>h.elim
 |.Invert=>fun _ _ _ _ _ _ _ _ _ h=>h.elim
def rSlc_ok:SlR X (rSlc X.K):=sl_list.or sl_str
def rBf_ok(a:X.calm=true)(c:X.A.units+50<cLine):∀b,fC X (Bf.val b) (rBf X.K b)
 |.len=>Ap.or (Ao.or Q.xJ)
 |.isinstance=>ue.or rR
 |.all=>MA a
 |.list=>An
 |.tuple=>xI
 |.set=>Q.Ie a
 |.min=>tK a
 |.int=>Ij
 |.lend=>Cu
 |.sortl=>Q.Am
 |.sortt=>Q.Al (by lia)
 |.minl=>Q.Ig a (by lia)
 |.maxl=>Q.Ih a (by lia)
 |.isx=>rQ
def Mm.slot:∀m:Mm,Slot "list" m.name m.id
 |.append=>PySem.F.slot_list_append|.clear=>PySem.F.slot_list_clear|.reverse=>PySem.F.slot_list_reverse|.pop=>PySem.F.slot_list_pop|.index=>PySem.F.slot_list_index|.extend=>PySem.F.slot_list_extend
def Mm.ty:∀m:Mm,typeOf (.builtin m.id)=pure (.type "method_descriptor")
 |.append=>PySem.F.type_list_append|.clear=>PySem.F.type_list_clear|.reverse=>PySem.F.type_list_reverse|.pop=>PySem.F.type_list_pop|.index=>PySem.F.type_list_index|.extend=>PySem.F.type_list_extend
def Kk:∀m:Mm,MtR X m.id (rMm m)
 |.append=>HD|.clear=>Le|.reverse=>D6|.pop=>MtR.or (r:=fun _ _ _ _=>False) (fun _ _ _ _ _ _ _ _ _ _ _ _ h=>h.elim) Ld|.index=>fun _ _ _ _ _ _ _ _ _ _ _ _ h=>h.elim|.extend=>HC
def As(h:baseOk o=true)(nm:Str)(env:Env)(t:Sem Value):MS o nm env t=t:=by
 cases o<;>first
  |rfl
  |exact cQ h
  | (rename_i f es ks p;cases f<;>first
   |rfl
   |exact cQ h)
def cf{c:CE}(h:du sc N c e=true)(a:List Expr)(env:Env):bh (e::a) env=(false,eval e env)::bh a env:=by
 cases e<;>first
  |rfl
  | (cases c<;>exact cQ h)
def jS{c:CE}{r:CL}{e:List Expr}(h:lR sc N (.cons c r) e=true):∃b d,e=b::d/\du sc N c b=true/\lR sc N r d=true:=
 let⟨b,d,a,k⟩:=xS h
 ⟨b,d,a,an k⟩
def lQ{a:List Expr}(h:lR sc N .nil a=true):a=[]:=nil_of h
theorem qB:∀{l:CL}{es:List Expr},lR sc N l es=true->∀(env:Env)(pos:Pos),(backTo pos (bh es env)).any (·.1)=false
 |.nil,es,h,env,pos=>by rw[lQ h];rfl
 |.cons c r,es,h,env,pos=>by obtain⟨e,d,rfl,a,b⟩:=jS h;rw[cf a];show(false||(backTo pos (bh d env)).any (·.1))=false;rw[qB b];rfl
def A9{l:CL}{a:List Expr}(h:lR sc N l a=true)(g:(!a.isEmpty)=true):∃e es',a=e::es'/\∀(env:Env)(pos:Pos),bh (e::es') env=(false,eval e env)::bh es' env/\(backTo pos (bh es' env)).any (·.1)=false:=by
 cases l with
 |nil=>obtain rfl:=lQ h;exact cQ g
 |cons c r=>obtain⟨b,i,rfl,d,f⟩:=jS h;exact⟨b,i,rfl,fun env pos=>⟨cf d _ _,qB f _ _⟩⟩
theorem Cq:∀{l:CL}{es:List Expr},lR sc N l es=true->es.length=l.len
 |.nil,es,h=>by rw[lQ h];rfl
 |.cons c r,es,h=>by obtain⟨b,e,rfl,d,a⟩:=jS h;rw[ba,Cq a,CL.len]
def zL(h:isSet e=false)(env:Env):∀x,jN e env x=pure x:=by
 intro x;cases e<;>first
  |rfl
  | (exact K7 h)
def o9(h:isSet e=false)(op:CmpOp):MR op e=false:=by
 cases e<;>first
  |rfl
  | (exact K7 h)
def Bl(h:u4 e=false):GD e:=by
 intro o i;cases e<;>first
  |rfl
  | (exact K7 h)
def rh(h:wq e=false)(t:Option Expr)(l:Nat)(env:Env):qI e t l env=pure false:=by
 cases e<;>first
  |rfl
  | (exact K7 h)
def pt_tru{t:TE}(h:PE X e t)(b:∀a,isTrue e X.env a=(do let v<-a;AB e.pos;holding [v] (truthy v))):PT X e (A2 X.K t):=jZ h b
def pi_any{l:Expr}{k:TE}(m:PE X l k):PI X tg l (Ep X.K k):=by
 intro r s y H R I h;refine thn (m r s y H _ I h) fun v c ⟨x,g,d,i,q1⟩=>?_;have A:∀{B:TE}{C:TI},True:=fun{_ _}=>trivial;rcases q1 with q1|q1|q1
 ·obtain⟨a,e,⟨w,hq⟩,q⟩:=q1;subst e;cases i;obtain⟨j,u,p,n⟩:=d.list hq;refine pB p.isList ?_;refine⟨c.heap.objs.size,[c.heap.objs.size],_,_,g,rfl,d.kept (t':=c.toks) fun b o e=>ag _ e,xT a _,⟨_,ax _ rfl,rfl,rfl⟩,fun b f=>?_,q⟩;have e:b=c.heap.objs.size:=by simpa using f
  subst e;exact d.z9 (av _) (d.hok.fresh (av _))
 ·obtain⟨a,e,⟨w,hq⟩,q⟩:=q1;subst e;cases i;obtain⟨j,u,p,n⟩:=d.tuple hq;refine jo (show c.heap.IsTuple a j.toArray from p) ?_;refine⟨c.heap.objs.size,[c.heap.objs.size],_,_,g,rfl,d.kept (t':=c.toks) fun b o e=>ag _ e,Dv a _,⟨_,ax _ rfl,rfl,rfl⟩,fun b f=>?_,q⟩;have e:b=c.heap.objs.size:=by simpa using f
  subst e;exact d.z9 (av _) (d.hok.fresh (av _))
 ·obtain⟨z,e,q⟩:=q1;subst e;obtain⟨t,rfl⟩:=i;refine wpAny_pyIter_strU ?_;refine⟨c.heap.objs.size,[c.heap.objs.size],_,_,g,rfl,d.kept (t':=c.toks) fun b o e=>ag _ e,Jk z _ t,⟨_,ax _ rfl,rfl,rfl⟩,fun b f=>?_,q⟩;have e:b=c.heap.objs.size:=by simpa using f
  subst e;exact d.z9 (av _) (d.hok.fresh (av _))
end
set_option maxHeartbeats 4000000
section
variable {CX:CXT}{G:Gam}
structure pz(sc sc':Scope)(N own:List Str)(fr:List Nat):Prop where
 kind:sc'.kind=.function
 cellk:∀y∈sc'.names,y.2=.cell->sc'.names.lookup y.1=some .cell
 own1:∀y∈sc'.names,y.2=.local->sc'.names.lookup y.1=some .local
 free:∀y∈sc'.names,y.2=.free->sc.names.lookup y.1=some .cell\/sc.names.lookup y.1=some .free
 nd:(namesOf N own fr).Nodup
 fr:∀j∈fr,j<N.length/\sc'.names.lookup (N.getD j "")=some .free
 own2:∀x∈own,sc'.names.lookup x=some .local\/sc'.names.lookup x=some .cell
def vD{own:List Str}{fr:List Nat}(h:zJ sc sc' N own fr=true):pz sc sc' N own fr:=by unfold zJ at h;simp only[az,bg,decide_eq_true_eq,beq_iff_eq,b8]at h;obtain⟨⟨⟨⟨⟨⟨a,b⟩,c⟩,d⟩,e⟩,f⟩,g⟩:=h;exact⟨a,b,c,d,e,f,g⟩
def pz.comp{E:XS}{own:List Str}{fr:List Nat}{all:Bool}(S:pz sc sc' N own fr)(o:Ok CX G E sc N all X):pA X (namesOf N own fr) sc':=
 ⟨S.kind,S.cellk,S.own1,fun y a hf=>by
  rcases S.free y a hf with q|q;·exact .inl (o.cel _ q)
  ·exact o.fre _ q⟩
def pz.mkOk{E:XS}{own:List Str}{fr:List Nat}{all:Bool}(S:pz sc sc' N own fr)(o:Ok CX G E sc N all X):MkOk X (namesOf N own fr) sc' (mD own fr):=by
 intro e g;refine⟨by simp[mD,namesOf],fun i x v b a=>?_⟩;unfold mD at a;unfold namesOf at b;by_cases hi:i<own.length
 ·rw[cB (by simpa using hi),aC]at a;cases q:own[i]? with
  |none=>rw[q]at a;cases a
  |some z=>rw[q]at a;cases a
 ·rw[bU (by simpa using hi),aC,ai]at a;rw[bU (by simpa using hi),aC]at b;cases q:fr[i-own.length]? with
  |none=>rw[q]at a;cases a
  |some j=>
   rw[q]at b a;have d:N.getD j ""=x:=bc b;have c:(e[j]?).getD none=some v:=bc a;obtain⟨f,hf⟩:=S.fr j (aI q);refine⟨by rw[<-d];exact hf,j,?_,?_⟩;·rw[o.names,<-d,af,ae f];rfl
   ·cases w:e[j]? with
    |none=>rw[w]at c;cases c
    |some z=>rw[w]at c;exact congrArg some c
noncomputable abbrev HX(CX:CXT):Prop:=∀o H s e s',CX o H s E0 e s'->False
def Ok.comp{E:XS}{own:List Str}{fr:List Nat}{all:Bool}(c:HX CX)(S:pz sc sc' N own fr)(o:Ok CX G E sc N all X)(C:Addr)(d:Shared)(a:Hp)(b:List Addr):
  Ok CX G N0 sc' (namesOf N own fr) false (dS X (namesOf N own fr) sc' C d a b) where
 names:=rfl
 nd:=S.nd
 loc:=fun x h=>lookup_relabel_local (env:=X.env) h
 cel:=fun x h=>gf (env:=X.env) h (by decide)
 own:=fun x h=>cw.mpr ⟨(x,.cell),bw h,by simp⟩
 fre:=fun x h=>(gF (env:=X.env) h).symm
 glo:=fun x h=>gf (env:=X.env) h (by decide)
 all:=fun h=>absurd h (by decide)
 calm:=o.calm
 hu:=o.hu
 val:=o.val
 fn:=o.fn
 ini:=o.ini
 dic:=o.dic
 mak:=o.mak
 mth:=o.mth
 blt:=o.blt
 px:=PassesOwn.never
 pass:=fun _ _ _ _ _ _ _ h=>(c _ _ _ _ _ h).elim
 made:=fun _ _ _ _ _ _ _ _ _ _ h=>h.elim
 madeX:=fun _ _ _ _ _ _ _ _ _ h=>h.elim
 cx:=o.cx
 top:=fun h=>absurd h (by decide)
def qZ{all:Bool}{g:CG}(h:wM sc N all g e=true)(a:List Expr)(env:Env):iD (e::a) env=(false,assign e env)::iD a env:=by
 cases e<;>first
  |rfl
  | (cases g<;>exact cQ h)
def wK{all:Bool}{g:CG}{r:CGs}{d:List Expr}(h:wL sc N all (.cons g r) d=true):∃b c,d=b::c/\wM sc N all g b=true/\wL sc N all r c=true:=
 let⟨b,c,a,k⟩:=xS h
 ⟨b,c,a,an k⟩
def yy{all:Bool}{a:List Expr}(h:wL sc N all .nil a=true):a=[]:=nil_of h
theorem ud{all:Bool}:∀{gs:CGs}{es:List Expr},wL sc N all gs es=true->∀env,(iD es env).length=gs.len/\(iD es env).findIdx? (·.1)=none
 |.nil,es,h,env=>by rw[yy h];exact⟨rfl,rfl⟩
 |.cons g r,es,h,env=>by obtain⟨e,f,rfl,c,d⟩:=wK h;obtain⟨a,b⟩:=ud d env;rw[qZ c];refine⟨by rw[ba,a,CGs.len],?_⟩;rw[List.findIdx?_cons];simp[b]
end
section
variable {CX:CXT}{G:Gam}
noncomputable abbrev IHE(CX:CXT)(G:Gam)(c:CE):Prop:=∀(e:Expr){E:XS}{sc:Scope}{N:List Str}{all:Bool}{X:Cx},Ok CX G E sc N all X->du sc N c e=true->PE X e (wpE G X.K E c)
noncomputable abbrev IHT(CX:CXT)(G:Gam)(c:CE):Prop:=∀(e:Expr){E:XS}{sc:Scope}{N:List Str}{all:Bool}{X:Cx},Ok CX G E sc N all X->du sc N c e=true->PT X e (wpT G X.K E c)
abbrev isBo:Expr->Bool
 |.BoolOp .. =>true
 |_=>false
def isBo_of(h:isBo e=true):∃a es p,e=.BoolOp a es p:=by
 cases e<;>first
  |exact⟨_,_,_,rfl⟩
  |exact cQ h
noncomputable abbrev IHW(CX:CXT)(G:Gam)(c:CE):Prop:=∀(e:Expr){E:XS}{sc:Scope}{N:List Str}{all:Bool}{X:Cx},Ok CX G E sc N all X->du sc N c e=true->isBo e=true->PW X e (wpT G X.K E c)
noncomputable abbrev IHL(CX:CXT)(G:Gam)(c:CL):Prop:=∀(es:List Expr){E:XS}{sc:Scope}{N:List Str}{all:Bool}{X:Cx},Ok CX G E sc N all X->lR sc N c es=true->PA X es (wpL G X.K E c)
noncomputable abbrev IHP(CX:CXT)(G:Gam)(c:CP):Prop:=∀(ks:List (Option Expr))(vs:List Expr){E:XS}{sc:Scope}{N:List Str}{all:Bool}{X:Cx},Ok CX G E sc N all X->chkP sc N c ks vs=true->∀pos,
  PPs X pos ks vs (wpP G X.K E c)/\ks.all (·.isSome)=true/\ks.length=vs.length/\(c≠.nil->ks≠[])
noncomputable abbrev IHO(CX:CXT)(G:Gam)(c:CO):Prop:=∀(e:Option Expr){E:XS}{sc:Scope}{N:List Str}{all:Bool}{X:Cx},Ok CX G E sc N all X->chkO sc N c e=true->PO X e (wpO G X.K E c)
noncomputable abbrev IHC(CX:CXT)(G:Gam)(c:CO):Prop:=∀(es:List Expr){E:XS}{sc:Scope}{N:List Str}{all:Bool}{X:Cx},Ok CX G E sc N all X->chkC sc N c es=true->PTs X es (wpC G X.K E c)
noncomputable abbrev IHG(CX:CXT)(G:Gam)(c:CG):Prop:=∀(e:Expr){E:XS}{sc:Scope}{N:List Str}{all:Bool}{X:Cx},Ok CX G E sc N all X->wM sc N all c e=true->PG X e (wpG G X.K E c)
noncomputable abbrev MM(CX:CXT)(G:Gam)(c:CGs):Prop:=∀(es:List Expr){E:XS}{sc:Scope}{N:List Str}{all:Bool}{X:Cx},Ok CX G E sc N all X->wL sc N all c es=true->PGs X es (wpGs G X.K E c)
noncomputable abbrev IHI(CX:CXT)(G:Gam)(c:CI):Prop:=∀(e tg:Expr){E:XS}{sc:Scope}{N:List Str}{all:Bool}{X:Cx},Ok CX G E sc N all X->chkI sc N c e tg=true->PI X tg e (wpI G X.K E c)
def J1:IHE CX G (.var i):=by intro e E g N all X o h;obtain⟨x,p,rfl,k⟩:=gH h;obtain⟨c,d,f⟩:=gz k;obtain⟨a,b⟩:=gS f;exact Kz (by rw[o.names];exact beq_iff_eq.mp c) (o.vis d) a b
def J6{c:Const}:IHE CX G (.con c):=by
  intro e E g N all X o h;obtain⟨f,j,p,rfl,k⟩:=EA h;obtain⟨a,d⟩:=an k;cases of_decide_eq_true d;cases c with
  |none=>exact KH
  |bool b=>exact pe_bl
  |int i=>exact KJ
  |str x=>exact KC
  |_=>exact cQ a
def J4{x:Str}:IHE CX G (.glo x):=by intro e E l N all X o h;obtain⟨y,p,rfl,k⟩:=gH h;obtain⟨a,b,c⟩:=gz k;cases of_decide_eq_true a;intro i s j H Q I g;obtain⟨v,f,q⟩:=g;obtain⟨u,d,r⟩:=o.val _ _ f;exact Fz (o.gl b) d r (gS c).1 i s j H Q I q
def sE_ty{t:Ty}:IHE CX G (.ty t):=by intro e E c N all X o h;obtain⟨y,p,rfl,k⟩:=gH h;obtain⟨a,b⟩:=an k;cases of_decide_eq_true a;exact FC (o.gl b) (o.blt _ t.mem) t.boot rfl t.plain.1 t.plain.2
def sE_bin{op:Operator}{a b:CE}(g:IHE CX G a)(i:IHE CX G b):IHE CX G (.bin op a b):=by intro e E n N all X o h;obtain⟨j,m,l,p,rfl,k⟩:=Mq h;obtain⟨c,d,f⟩:=gz k;cases of_decide_eq_true c;exact pe_op (Fs op) (g _ o d) (i _ o f)
def sE_un{op:UnaryOp}{a:CE}(d:IHE CX G a):IHE CX G (.un op a):=by intro e E i N all X o h;obtain⟨g,f,p,rfl,k⟩:=Ew h;obtain⟨b,c⟩:=an k;cases of_decide_eq_true b;exact pe_un (rUn_ok op) (d _ o c)
def sE_cmp{op:CmpOp}{a b:CE}(i:IHE CX G a)(j:IHE CX G b):IHE CX G (.cmp op a b):=by intro e E q N all X o h;obtain⟨l,n,m,p,rfl,c,k⟩:=Mp h;obtain⟨d,f,g⟩:=gz k;cases of_decide_eq_true d;exact pe_cmpR (o5 o.hu op) (i _ o f) (j _ o g) (o9 c op)
def J7{f d:CmpOp}{a b c:CE}(t:IHE CX G a)(u:IHE CX G b)(v:IHE CX G c):IHE CX G (.chain f d a b c):=by intro e E D N all X o h;obtain⟨w,A,z,p,rfl,k⟩:=EB h;obtain⟨B,C,rfl,l⟩:=yn k;obtain⟨x,y,rfl,m⟩:=yn l;obtain⟨g,i,j,n⟩:=mn m;obtain⟨q,r,s⟩:=gz n;cases of_decide_eq_true g;cases of_decide_eq_true i;exact KQ (o5 o.hu f) (o5 o.hu d) (t _ o q) (u _ o r) (v _ o s) (o9 (qp j) d)
def sE_not{a:CE}(d:IHE CX G a):IHE CX G (.not a):=by intro e E i N all X o h;obtain⟨g,f,p,rfl,k⟩:=Ew h;obtain⟨b,c⟩:=an k;cases of_decide_eq_true b;exact pe_not (d _ o c)
def sE_and{a b:CE}(f:IHE CX G a)(g:IHE CX G b):IHE CX G (.and a b):=by
  intro e E s N all X o h;obtain⟨q,j,x,p,k,m⟩:=oa h;obtain⟨i,c,d⟩:=gz k;cases of_decide_eq_true i;rcases m with rfl|⟨l,n,r,rfl,rfl⟩;·exact KY (f _ o c) (DS (g _ o d))
  ·exact KY (f _ o c) (g _ o d)
def sE_or{a b:CE}(f:IHE CX G a)(g:IHE CX G b):IHE CX G (.or a b):=by
  intro e E s N all X o h;obtain⟨q,j,x,p,k,m⟩:=oa h;obtain⟨i,c,d⟩:=gz k;cases of_decide_eq_true i;rcases m with rfl|⟨l,n,r,rfl,rfl⟩;·exact pe_or (f _ o c) (DS (g _ o d))
  ·exact pe_or (f _ o c) (g _ o d)
def sE_orv{a b:CE}(f:IHE CX G a)(g:IHE CX G b):IHE CX G (.orv a b):=by
  intro e E s N all X o h;obtain⟨q,j,x,p,k,m⟩:=oa h;obtain⟨i,c,d⟩:=gz k;cases of_decide_eq_true i;rcases m with rfl|⟨l,n,r,rfl,rfl⟩;·exact KG (f _ o c) (DS (g _ o d))
  ·exact KG (f _ o c) (g _ o d)
def sE_ite{c a b:CE}(l:IHT CX G c)(i:IHE CX G a)(j:IHE CX G b):IHE CX G (.ite c a b):=by intro e E r N all X o h;obtain⟨q,m,n,p,rfl,k⟩:=dIf_of h;obtain⟨d,f,g⟩:=gz k;exact KL (l _ o d) (i _ o f) (j _ o g)
def J3{a i:CE}(f:IHE CX G a)(g:IHE CX G i):IHE CX G (.idx a i):=by intro e E m N all X o h;obtain⟨j,l,p,rfl,k⟩:=wH h;obtain⟨b,c,d⟩:=gz k;exact pe_ix ix_seq (f _ o c) (g _ o d) (Bl (qp b))
def sE_cut{a:CE}{lo hi:CO}(g:IHE CX G a)(j:IHO CX G lo)(i:IHO CX G hi):IHE CX G (.cut a lo hi):=by intro e E v N all X o h;obtain⟨q,s,p,rfl,k⟩:=wH h;obtain⟨l,u,t,r,rfl,m⟩:=dSl_of k;obtain⟨b,c,n⟩:=gz m;obtain⟨d,f⟩:=an n;cases gU.mp b;exact KE rSlc_ok (g _ o c) (j _ o d) (i _ o f)
def sE_tup{a:CL}(b:IHL CX G a):IHE CX G (.tup a):=by intro e E d N all X o h;obtain⟨c,j,p,rfl,k⟩:=Ex h;exact KA (b _ o k)
def sE_lst{a:CL}(b:IHL CX G a):IHE CX G (.lst a):=by intro e E d N all X o h;obtain⟨c,p,rfl,k⟩:=Mi h;exact KI (b _ o k)
def sE_dic{ps:CP}(l:IHP CX G ps):IHE CX G (.dic ps):=by
  intro e E v N all X o h;obtain⟨m,u,p,rfl,k⟩:=Mn h;obtain⟨g,c⟩:=an k;intro d s f H Q I a;rcases a with⟨b,a⟩ |⟨b,a⟩;·subst b;obtain⟨i,j⟩:=an c;obtain rfl:=nil_of i;obtain rfl:=nil_of j;exact KO d s f H Q I a
  ·obtain⟨n,q,r,t⟩:=l m u o c p;exact pe_disp n q r (t b) (of_decide_eq_true g) d s f H Q I a
def Fe{f:Str}{b:CL}(x:IHL CX G b):IHE CX G (.call f b):=by
  intro e E K N all X o h;obtain⟨A,D,u,p,rfl,k⟩:=jx h;obtain⟨v,d,g,c⟩:=mn k;cases of_decide_eq_true v;intro r s t H Q I a;obtain⟨L,z,hf,a⟩:=a;obtain⟨B,C,J,y,k,F,n,m,l,i,j⟩:=o.fn _ _ _ _ hf;cases u with
  |nil=>
   cases b with
   |nil=>exact Ho F n (o.gl d) m l i j o.pass (gS g).1 r s t H Q I a
   |cons=>exact cQ c
  |cons e1 r1=>have w:=x _ o c;obtain⟨_,_,e,q⟩:=A9 c rfl;cases e;exact KR F n (o.gl d) m l i j o.pass w (gS g).1 (q _ p).1 (q _ _).2 r s t H Q I a
def Bf.kind:∀b:Bf,(∃n,b.val=.builtin n)\/∃n,b.val=.type n:=by intro b;cases b<;>first |exact .inl ⟨_,rfl⟩ |exact .inr ⟨_,rfl⟩
def KW{b:Bf}{a:List Expr}{t:TA}{l:CL}(c:fC X b.val (rBf X.K b))(i:Gl X b.name)(j:X.mg b.name=none)(g:PA X a t)(k:(!a.isEmpty)=true)(h:lR sc N l a=true):PE X (.Call (.Name b.name np) a [] pos) (tCB (rBf X.K b) t):=by
 obtain⟨e,m,rfl,d⟩:=A9 h k;have f:=b.boot;rcases b.kind with⟨n,q⟩ |⟨n,q⟩;·rw[q]at c f;exact KS c i j f g b.plain.1 b.plain.2 (d _ pos).1 (d _ _).2
 ·rw[q]at c f;exact Hn c i j f g b.plain.1 b.plain.2 (d _ pos).1 (d _ _).2
def J8{b:Bf}{a:CL}(i:IHL CX G a):IHE CX G (.bfn b a):=by intro e E n N all X o h;obtain⟨l,m,j,p,rfl,k⟩:=jx h;obtain⟨d,f,g,c⟩:=mn k;cases of_decide_eq_true d;exact KW (rBf_ok o.calm o.hu b) (o.gl f) (o.blt _ b.mem) (i _ o c) g c
def J2{m:Mm}{b a:CE}(j:IHE CX G b)(i:IHE CX G a):IHE CX G (.meth1 m b a):=by intro e E t N all X o h;obtain⟨s,p,r,q,rfl,d,k⟩:=Af h;obtain⟨n,rfl,l⟩:=kO k;obtain⟨f,g,c⟩:=gz l;exact KU AS m.slot m.ty (Kk m) (j _ o g) (gV (i _ o c) k9 (cf c _ _)) (As f _ _ _) (by rw[cf c];rfl) d (cf c _ _) rfl
def sE_idxd{a i:CE}(f:IHE CX G a)(g:IHE CX G i):IHE CX G (.idxd a i):=by intro e E m N all X o h;obtain⟨j,l,p,rfl,k⟩:=wH h;obtain⟨b,c,d⟩:=gz k;exact pe_ix (ix_dict (by have :=o.hu;lia)) (f _ o c) (g _ o d) (Bl (qp b))
def sE_dicT:IHE CX G .dicT:=by intro e E d N all X o h;obtain⟨c,f,p,rfl,k⟩:=Mn h;obtain⟨a,b⟩:=an k;obtain rfl:=nil_of a;obtain rfl:=nil_of b;exact KN
def sE_setd{b a c:CE}(p:IHE CX G b)(n:IHE CX G a)(q:IHE CX G c):IHE CX G (.setd b a c):=by intro e E x N all X o h;obtain⟨w,s,v,u,rfl,g,k⟩:=Af h;obtain⟨r,t,rfl,l⟩:=yn k;obtain⟨i,j,m⟩:=gz l;obtain⟨d,f⟩:=an m;exact KU PySem.F.plainAttrs_dict xi PySem.F.type_dict_setdefault (HB (by have :=o.hu;lia)) (p _ o j) (gV (n _ o d) (gV (q _ o f) k9 (cf f _ _)) (cf d _ _)) (As i _ _ _) (by rw[cf d,cf f];rfl) g (cf d _ _) (by rw[cf f];rfl)
def Mw{l:CL}{a:List Expr}(h:lR sc N l a=true)(d:l.len<29)(env:Env)(b:Pos):((backTo b (bh a env)).all (fun x=> !x.1)&&(AF b (pF [] env)).all (fun x=>x.1.isSome)
   &&decide (a.length+([]:List Keyword).length+(if([]:List Keyword).isEmpty then 0 else 1)<30))=true:=by
 have c:=qB h env b;rw[az,az];refine⟨⟨?_,rfl⟩,?_⟩;·rw[List.any_eq_false]at c;exact bg.mpr fun x e=>by simpa using c x e
 ·rw[decide_eq_true_eq,Cq h];exact fW d (by decide)
def sE_base{x:Str}{c:CL}(z:IHL CX G c):IHE CX G (.base x c):=by intro e E M N all X o h;obtain⟨L,F,J,b,rfl,f,k⟩:=Af h;obtain⟨O,K,rfl,l⟩:=gH k;obtain⟨g,i,j,m⟩:=mn l;obtain⟨n,p,a⟩:=gz m;cases of_decide_eq_true g;intro A s D H Q I y;obtain⟨B,w,q⟩:=y;obtain⟨u,v,C⟩:=o.val _ _ w;obtain rfl:u=bz B:=C;have t:=z _ o a;have r:=Mw a (of_decide_eq_true n) X.env b;obtain⟨_,_,rfl,d⟩:=A9 a p;exact pe_base (o.gl i) v t (gS j).1 (d _ b).1 (d _ _).2 r f A s D H Q I q
def sE_fld{a:CE}{f:Str}(d:IHE CX G a):IHE CX G (.fld a f):=by intro e E j N all X o h;obtain⟨v,g,p,rfl,k⟩:=Ag h;obtain⟨n,i,rfl,l⟩:=gH k;obtain⟨b,c⟩:=an l;cases of_decide_eq_true b;exact FA (d _ o c)
def DI{a:CE}(f:IHE CX G a):IHE CX G (.sortset a):=by intro e E i N all X o h;obtain⟨p,g,q,r,t,rfl,c,d,b⟩:=dFF_of h;exact DR o.calm (o.gl c) (o.blt _ (by decide+kernel)) (o.gl d) (o.blt _ (by decide+kernel)) (gV (f _ o b) k9 (cf b _ _)) (cf b _ _)
def sE_comp(c:HX CX){own:List Str}{fr:List Nat}{j:CG}{i:CI}{f:CO}{g:CE}(A:IHI CX G i)(z:IHG CX G j)(w:IHC CX G f)(x:IHE CX G g):IHE CX G (.comp own fr j i f g):=by
  intro e E I N all X o h;obtain⟨B,D,J,p,rfl,k⟩:=Ez h;obtain⟨⟨K,H,F,y⟩,rfl,l⟩:=kO k;obtain⟨n,q,r,m⟩:=mn l;obtain⟨s,t,u,v⟩:=mn m;cases of_decide_eq_true n;have S:=vD q;exact pe_comp (S.comp o) (S.mkOk o) o.calm (A _ _ o s)
   (fun C d a b _=>⟨z _ (o.comp c S C d a b) t,w _ (o.comp c S C d a b) u,x _ (o.comp c S C d a b) v⟩) (zL (qp r) _)
def sT_cmp{op:CmpOp}{a b:CE}(i:IHE CX G a)(j:IHE CX G b):IHT CX G (.cmp op a b):=by intro e E q N all X o h;obtain⟨l,n,m,p,rfl,c,k⟩:=Mp h;obtain⟨d,f,g⟩:=gz k;cases of_decide_eq_true d;exact pt_cmpR (o5 o.hu op) (i _ o f) (j _ o g) (o9 c op)
def JX{f d:CmpOp}{a b c:CE}(t:IHE CX G a)(u:IHE CX G b)(v:IHE CX G c):IHT CX G (.chain f d a b c):=by intro e E D N all X o h;obtain⟨w,A,z,p,rfl,k⟩:=EB h;obtain⟨B,C,rfl,l⟩:=yn k;obtain⟨x,y,rfl,m⟩:=yn l;obtain⟨g,i,j,n⟩:=mn m;obtain⟨q,r,s⟩:=gz n;cases of_decide_eq_true g;cases of_decide_eq_true i;exact Kq (o5 o.hu f) (o5 o.hu d) (t _ o q) (u _ o r) (v _ o s) (o9 (qp j) d)
def sT_not{a:CE}(d:IHT CX G a):IHT CX G (.not a):=by intro e E i N all X o h;obtain⟨g,f,p,rfl,k⟩:=Ew h;obtain⟨b,c⟩:=an k;cases of_decide_eq_true b;exact pt_not (d _ o c)
def sT_var:IHT CX G (.var i):=by intro e E a N all X o h;have q:=J1 e o h;obtain⟨x,p,rfl,k⟩:=gH h;exact jZ q fun _=>rfl
def sT_con{c:Const}:IHT CX G (.con c):=by intro e E a N all X o h;have q:=J6 e o h;obtain⟨x,j,p,rfl,k⟩:=EA h;exact jZ q fun _=>rfl
def sT_glo{x:Str}:IHT CX G (.glo x):=by intro e E a N all X o h;have q:=J4 e o h;obtain⟨x,p,rfl,k⟩:=gH h;exact jZ q fun _=>rfl
def sT_idx{a i:CE}(b:IHE CX G a)(c:IHE CX G i):IHT CX G (.idx a i):=by intro e E d N all X o h;have q:=J3 b c e o h;obtain⟨x,y,p,rfl,k⟩:=wH h;exact jZ q fun _=>rfl
def sT_call{f:Str}{a:CL}(b:IHL CX G a):IHT CX G (.call f a):=by intro e E d N all X o h;have q:=Fe b e o h;obtain⟨x,c,a,p,rfl,k⟩:=jx h;exact jZ q fun _=>rfl
def sT_bfn{b:Bf}{a:CL}(c:IHL CX G a):IHT CX G (.bfn b a):=by intro e E f N all X o h;have q:=J8 c e o h;obtain⟨x,d,a,p,rfl,k⟩:=jx h;exact jZ q fun _=>rfl
def JW{a b:CE}(f:IHT CX G a)(i:IHT CX G b)(j:IHW CX G b):IHW CX G (.and a b):=by
  intro e E t N all X o h;obtain⟨s,l,x,p,k,m⟩:=oa h;obtain⟨g,c,d⟩:=gz k;cases of_decide_eq_true g;rcases m with rfl|⟨n,q,r,rfl,rfl⟩;·exact fun _=>DM (f _ o c) (Fu (i _ o d))
  ·exact fun _=>DM (f _ o c) (j _ o d rfl)
def sT_and{a b:CE}(c:IHW CX G (.and a b)):IHT CX G (.and a b):=by intro e E j N all X o h;obtain⟨i,d,x,p,k,m⟩:=oa h;exact(c _ o h (by rcases m with rfl|⟨f,g,r,rfl,rfl⟩<;>rfl)).pt
def sW_or{a b:CE}(f:IHT CX G a)(i:IHT CX G b)(j:IHW CX G b):IHW CX G (.or a b):=by
  intro e E t N all X o h;obtain⟨s,l,x,p,k,m⟩:=oa h;obtain⟨g,c,d⟩:=gz k;cases of_decide_eq_true g;rcases m with rfl|⟨n,q,r,rfl,rfl⟩;·exact fun _=>pw_or (f _ o c) (pw_or1 (i _ o d))
  ·exact fun _=>pw_or (f _ o c) (j _ o d rfl)
def sT_orv{a b:CE}:IHW CX G (.orv a b):=fun _ _ _ _ _ _ _ _ _ _ _ _ _ _ _ _ z=>z.elim
def sT_or{a b:CE}(c:IHW CX G (.or a b)):IHT CX G (.or a b):=by intro e E j N all X o h;obtain⟨i,d,x,p,k,m⟩:=oa h;exact(c _ o h (by rcases m with rfl|⟨f,g,r,rfl,rfl⟩<;>rfl)).pt
def sL_nil:IHL CX G .nil:=by intro a E b N all X o h;obtain rfl:=lQ h;exact k9
def sL_cons{c:CE}{r:CL}(d:IHE CX G c)(e:IHL CX G r):IHL CX G (.cons c r):=by intro g E j N all X o h;obtain⟨f,i,rfl,a,b⟩:=jS h;exact gV (d _ o a) (e _ o b) (cf a _ _)
def sP_nil:IHP CX G .nil:=by intro c f E e N all X o h d;obtain⟨a,b⟩:=an h;obtain rfl:=nil_of a;obtain rfl:=nil_of b;exact⟨pps_nil,rfl,rfl,fun z=>absurd rfl z⟩
def sP_cons{k v:CE}{r:CP}(e:IHP CX G r)(d:IHE CX G k)(f:IHE CX G v):IHP CX G (.cons k v r):=by intro s x E u N all X o h q;obtain⟨g,t,rfl,l⟩:=xS h;obtain⟨w,y,rfl,m⟩:=xS l;obtain⟨g,rfl,n⟩:=FD m;obtain⟨a,b,c⟩:=gz n;obtain⟨i,j,p,_⟩:=e _ _ o c q;exact⟨Kw (d _ o a) (f _ o b) i,by simp[j],by simp[p],fun _=>by simp⟩
def sO_no:IHO CX G .no:=by intro e E a N all X o h;obtain rfl:=gU.mp h;exact po_none
def sO_yes{c:CE}(a:IHE CX G c):IHO CX G (.yes c):=by intro e E d N all X o h;obtain⟨b,rfl,k⟩:=FD h;exact po_some (a _ o k)
def sC_no:IHC CX G .no:=by intro a E b N all X o h;obtain rfl:=nil_of h;exact pts_nil
def sC_yes{c:CE}(a:IHT CX G c):IHC CX G (.yes c):=by intro d E e N all X o h;obtain⟨b,rfl,k⟩:=kO h;exact pts_one (a _ o k)
def sG_name:IHG CX G (.name i):=by
  intro e E c N all X o h;obtain⟨x,p,rfl,k⟩:=gH h;rw[az,b8,beq_iff_eq,beq_iff_eq,beq_iff_eq]at k;obtain⟨b,a⟩:=k;refine zx (by rw[o.names];exact o.nd) (by rw[o.names];exact b) ?_ ?_
  ·rcases a with q|q;·exact .inl (o.loc x q)
   ·exact .inr (o.cel x q)
  ·rcases a with q|q;·exact .inr (o.loc x q)
   ·exact .inl (o.own x q)
def sG_tup{c:CGs}(d:MM CX G c):IHG CX G (.tup c):=by intro e E g N all X o h;obtain⟨f,j,p,rfl,k⟩:=Ex h;obtain⟨a,b⟩:=ud k X.env;exact pg_tup o.calm (d _ o k) a b
def sG_sub{b i:CE}(g:IHE CX G b)(j:IHE CX G i):IHG CX G (.sub b i):=by
  intro e E m N all X o h;obtain⟨l,f,p,rfl,k⟩:=wH h;obtain⟨a,c,d⟩:=gz k;refine pg_sub (g _ o c) (j _ o d) set_list fun v=>?_;cases f<;>first
   |rfl
   |exact cQ a
def sGs_nil:MM CX G .nil:=by intro a E b N all X o h;obtain rfl:=yy h;exact pgs_nil
def J0{c:CG}{r:CGs}(d:IHG CX G c)(e:MM CX G r):MM CX G (.cons c r):=by intro g E j N all X o h;obtain⟨f,i,rfl,a,b⟩:=wK h;exact Ky (d _ o a) (e _ o b) (by rw[qZ a];rfl)
def sI_seq{c:CE}(a:IHE CX G c):IHI CX G (.seq c):=by intro e d E b N all X o h;exact pi_any (a _ o h)
def sI_lseq{c:CE}(a:IHE CX G c):IHI CX G (.lseq c):=by intro e d E b N all X o h;exact pi_list (a _ o h)
def Hf{c:CE}(g:IHE CX G c):IHI CX G (.range1 c):=by intro e q E n N all X o h;obtain⟨f,m,j,p,rfl,k⟩:=jx h;obtain⟨i,rfl,l⟩:=kO k;obtain⟨b,d,a⟩:=gz l;cases of_decide_eq_true b;exact Hm (o.gl d) (o.blt _ (by decide+kernel)) (gV (g _ o a) k9 (cf a _ _)) (cf a _ _)
def He{a b:CE}(j:IHE CX G a)(m:IHE CX G b):IHI CX G (.range2 a b):=by intro e u E t N all X o h;obtain⟨f,s,r,p,rfl,k⟩:=jx h;obtain⟨n,q,rfl,l⟩:=yn k;obtain⟨g,i,d,c⟩:=mn l;cases of_decide_eq_true g;exact Hl (o.gl i) (o.blt _ (by decide+kernel)) (gV (j _ o d) (gV (m _ o c) k9 (cf c _ _)) (cf d _ _)) (by rw[cf d,cf c];rfl) (cf c _ _)
def HP(h:tu e=true):∃es k p,e=.Tuple es k p:=by cases e<;>first |exact⟨_,_,_,rfl⟩ |exact cQ h
def JZ{c:CE}(m:IHE CX G c):IHI CX G (.enumt c):=by intro e t E s N all X o h;obtain⟨f,q,b,p,rfl,k⟩:=jx h;obtain⟨n,rfl,l⟩:=kO k;obtain⟨d,g,a,i⟩:=mn l;cases of_decide_eq_true d;obtain⟨b,j,r,rfl⟩:=HP i;exact Kx (o.gl g) (o.blt _ (by decide+kernel)) (gV (m _ o a) k9 (cf a _ _)) (cf a _ _)
mutual
theorem bF(d:HX CX):∀c:CE,IHE CX G c
 |.var i=>J1
 |.con c=>J6
 |.glo x=>J4
 |.ty t=>sE_ty
 |.bin op a b=>sE_bin (bF d a) (bF d b)
 |.un op a=>sE_un (bF d a)
 |.cmp op a b=>sE_cmp (bF d a) (bF d b)
 |.chain o1 o2 a b c=>J7 (bF d a) (bF d b) (bF d c)
 |.not a=>sE_not (bF d a)
 |.and a b=>sE_and (bF d a) (bF d b)
 |.or a b=>sE_or (bF d a) (bF d b)
 |.orv a b=>sE_orv (bF d a) (bF d b)
 |.ite c a b=>sE_ite (iY d c) (bF d a) (bF d b)
 |.idx a i=>J3 (bF d a) (bF d i)
 |.cut a lo hi=>sE_cut (bF d a) (JQ d lo) (JQ d hi)
 |.tup es=>sE_tup (k6 d es)
 |.lst es=>sE_lst (k6 d es)
 |.dic ps=>sE_dic (JP d ps)
 |.call f es=>Fe (k6 d es)
 |.bfn b es=>J8 (k6 d es)
 |.meth1 m b a=>J2 (bF d b) (bF d a)
 |.idxd a i=>sE_idxd (bF d a) (bF d i)
 |.dicT=>sE_dicT
 |.setd b a c=>sE_setd (bF d b) (bF d a) (bF d c)
 |.base x es=>sE_base (k6 d es)
 |.fld a f=>sE_fld (bF d a)
 |.sortset a=>DI (bF d a)
 |.comp own fr tg it cond elt=>sE_comp d (DD d it) (sT d tg) (JR d cond) (bF d elt)
theorem iY(d:HX CX)(c:CE):IHT CX G c:=by
 cases c with
 |cmp op a b=>exact sT_cmp (bF d a) (bF d b)
 |chain p q a b c=>exact JX (bF d a) (bF d b) (bF d c)
 |not a=>exact sT_not (iY d a)
 |and a b=>exact sT_and (JW (iY d a) (iY d b) (zg d b))
 |or a b=>exact sT_or (sW_or (iY d a) (iY d b) (zg d b))
 |var i=>exact sT_var
 |con c=>exact sT_con
 |glo x=>exact sT_glo
 |idx a i=>exact sT_idx (bF d a) (bF d i)
 |call f es=>exact sT_call (k6 d es)
 |bfn b es=>exact sT_bfn (k6 d es)
 |_=>exact fun _ _ _ _ _ _ _ _ _ _ _ _ _ _ z=>z.elim
theorem zg(d:HX CX)(c:CE):IHW CX G c:=by
 cases c with
 |and a b=>exact JW (iY d a) (iY d b) (zg d b)
 |or a b=>exact sW_or (iY d a) (iY d b) (zg d b)
 |orv a b=>exact sT_orv
 |_=>intro e E j N all X o h f;obtain⟨i,g,p,rfl⟩:=isBo_of f;exact cQ h
theorem k6(a:HX CX):∀c:CL,IHL CX G c
 |.nil=>sL_nil
 |.cons c r=>sL_cons (bF a c) (k6 a r)
theorem JP(a:HX CX):∀c:CP,IHP CX G c
 |.nil=>sP_nil
 |.cons k v r=>sP_cons (JP a r) (bF a k) (bF a v)
theorem JQ(a:HX CX):∀c:CO,IHO CX G c
 |.no=>sO_no
 |.yes c=>sO_yes (bF a c)
theorem JR(a:HX CX):∀c:CO,IHC CX G c
 |.no=>sC_no
 |.yes c=>sC_yes (iY a c)
theorem sT(a:HX CX):∀c:CG,IHG CX G c
 |.name i=>sG_name
 |.tup gs=>sG_tup (E9 a gs)
 |.sub ob i=>sG_sub (bF a ob) (bF a i)
theorem E9(a:HX CX):∀c:CGs,MM CX G c
 |.nil=>sGs_nil
 |.cons c r=>J0 (sT a c) (E9 a r)
theorem DD(d:HX CX):∀c:CI,IHI CX G c
 |.seq c=>sI_seq (bF d c)
 |.lseq c=>sI_lseq (bF d c)
 |.range1 c=>Hf (bF d c)
 |.range2 a b=>He (bF d a) (bF d b)
 |.enumt c=>JZ (bF d c)
end
end
section
variable {CX:CXT}{G:Gam}
def vS{all:Bool}{g:CG}(h:wM sc N all g tg=true)(a:(tu tg&&tu e)=false)(env:Env):swappedStores [tg] e env=pure none:=by
 cases tg with
 |Tuple es k p=>
  cases e<;>first
   |rfl
   | (exact K7 a)
 |List es p=>cases g<;>exact cQ h
 |_=>rfl
def A6{a:Expr}{b:List Comprehension}{c:Scope}{d p:Pos}{x:Str}{l:Nat}{env:Env}(h:env.kindOf x≠some .local):qI (.ListComp a b c d) (some (.Name x p)) l env=pure false:=by
 show(pure (env.blockKind== .function&&env.kindOf x==some .local&&p.line==d.line&& !(c.names.any fun(n,k)=>n==x&&(k== .local||k== .cell))):Sem Bool)=pure false;have e:(env.kindOf x==some dZ.local)=false:=by simpa using h
 rw[e,dh,cT,cT]
def Dz{a:Expr}{b:List Comprehension}{c:Scope}{d p:Pos}{x:Str}{l:Nat}{env:Env}(g:env.scope.kind=.function)(h:env.kindOf x=some .local)(i:p.line=d.line)
  (j:(c.names.any fun y=>decide (y.1=x)&&(decide (y.2=.local)||decide (y.2=.cell)))=false):qI (.ListComp a b c d) (some (.Name x p)) l env=pure true:=by
 show(pure (env.blockKind== .function&&env.kindOf x==some .local&&p.line==d.line&& !(c.names.any fun(n,k)=>n==x&&(k== .local||k== .cell))):Sem Bool)=pure true;have e:env.blockKind=.function:=by unfold Env.blockKind;rw[g];rfl
 have f:(c.names.any fun(n,k)=>n==x&&(k==dZ.local||k==cM))=false:=by rw[<-j];congr 1
 rw[e,h,i,f];simp
def ED{c:CE}(h:isCe c=true):∃own fr tg it a elt,c=.comp own fr tg it a elt:=by
 cases c with
 |comp own fr tg it a elt=>exact⟨_,_,_,_,_,_,rfl⟩
 |_=>exact cQ h
def BG(h:wq e=false)(a:Expr)(l:Nat)(env:Env):MO [a] e l env=pure false:=by unfold MO;exact rh h _ _ _
structure OkL(G:Gam)(sc:Scope)(N:List Str)(X:Cx):Prop where
 names:X.N=N
 nd:N.Nodup
 loc:∀x,sc.names.lookup x=some .local->X.env.scope.names.lookup x=some .local
 cel:∀x,sc.names.lookup x=some .cell->X.env.scope.names.lookup x=some .cell
 fre:∀x,sc.names.lookup x=some .free->X.env.scope.names.lookup x=some .cell\/X.env.scope.names.lookup x=some .free
 glo:∀x,sc.names.lookup x=some .globalImplicit->X.env.scope.names.lookup x=some .globalImplicit
 all:∀x,X.fn x=true
 val:∀x v,G.val x=some v->∃u,X.mg x=some u/\RelV v u
 blt:∀x∈jj,X.mg x=none
def OkL.vis(o:OkL G sc N X){x:Str}(h:BZ sc x=true):Vis X.env.scope x:=by
 unfold BZ at h;rw[b8,b8,beq_iff_eq,beq_iff_eq,beq_iff_eq]at h;rcases h with(h|h) |h;·exact .inl (o.loc x h)
 ·exact .inr (.inl (o.cel x h))
 ·rcases o.fre x h with q|q;·exact .inr (.inl q)
  ·exact .inr (.inr q)
def OkL.gl(o:OkL G sc N X){x:Str}(h:kD sc x=true):Gl X x:=by unfold kD at h;rw[beq_iff_eq]at h;exact o.glo x h
def isi_ok:fC X (.builtin "isinstance") (rBf X.K .isinstance):=ue.or rR
mutual
theorem gT(c:CE)(e:Expr){E:XS}(o:OkL G sc N X)(l:pQ c=true)(h:du sc N c e=true):PE X e (wpE G X.K E c):=by
 cases c with
 |var i=>obtain⟨x,p,rfl,k⟩:=gH h;obtain⟨g,d,w⟩:=gz k;obtain⟨D,F⟩:=gS w;exact Kz (by rw[o.names];exact beq_iff_eq.mp g) (o.vis d) D F
 |con c=>
  obtain⟨V,j,p,rfl,k⟩:=EA h;obtain⟨g,d⟩:=an k;cases of_decide_eq_true d;cases c with
  |none=>exact KH
  |bool b=>exact pe_bl
  |int i=>exact KJ
  |str x=>exact KC
  |_=>exact cQ g
 |glo x=>obtain⟨y,p,rfl,k⟩:=gH h;obtain⟨g,d,w⟩:=gz k;cases of_decide_eq_true g;intro R s S H Q I O;obtain⟨v,M,q⟩:=O;obtain⟨u,L,r⟩:=o.val _ _ M;exact Fz (o.gl d) L r (gS w).1 R s S H Q I q
 |ty t=>obtain⟨y,p,rfl,k⟩:=gH h;obtain⟨g,d⟩:=an k;cases of_decide_eq_true g;exact FC (o.gl d) (o.blt _ t.mem) t.boot rfl t.plain.1 t.plain.2
 |lst z=>obtain⟨B,p,rfl,k⟩:=Mi h;exact KI (nY z _ o l k)
 |tup z=>obtain⟨B,j,p,rfl,k⟩:=Ex h;exact KA (nY z _ o l k)
 |bfn b z=>
  obtain⟨J,P,B,p,rfl,k⟩:=jx h;obtain⟨g,d,w,A⟩:=mn k;cases of_decide_eq_true g;cases b with
  |isinstance=>exact KW (b:=.isinstance) isi_ok (o.gl d) (o.blt _ (Bf.mem _)) (nY z _ o l A) w A
  |isx=>exact KW (b:=.isx) rQ (o.gl d) (o.blt _ (Bf.mem _)) (nY z _ o l A) w A
  |_=>exact cQ l
 |fld a f=>obtain⟨v,J,p,rfl,k⟩:=Ag h;obtain⟨n,P,rfl,m⟩:=gH k;obtain⟨g,d⟩:=an m;cases of_decide_eq_true g;exact FA (gT a _ o l d)
 |meth1 m a b=>obtain⟨l1,l2⟩:=an l;obtain⟨Y,T,z,W,rfl,K,k⟩:=Af h;obtain⟨C,rfl,n⟩:=kO k;obtain⟨g,d,w⟩:=gz n;exact KU AS m.slot m.ty (Kk m) (gT a _ o l1 d) (gV (gT b _ o l2 w) k9 (cf w _ _)) (As g _ _ _) (by rw[cf w];rfl) K (cf w _ _) rfl
 |bin op a b=>obtain⟨l1,l2⟩:=an l;obtain⟨C,Z,U,p,rfl,k⟩:=Mq h;obtain⟨g,d,w⟩:=gz k;cases of_decide_eq_true g;exact pe_op (Fs op) (gT a _ o l1 d) (gT b _ o l2 w)
 |_=>exact cQ l
theorem nY(c:CL)(a:List Expr){E:XS}(o:OkL G sc N X)(l:wc c=true)(h:lR sc N c a=true):PA X a (wpL G X.K E c):=by
 cases c with
 |nil=>obtain rfl:=lQ h;exact k9
 |cons c r=>obtain⟨e,f,rfl,b,d⟩:=jS h;obtain⟨l1,l2⟩:=an l;exact gV (gT c _ o l1 b) (nY r _ o l2 d) (cf b _ _)
end
def wb(c:CE)(e:Expr){E:XS}(o:OkL G sc N X)(l:FV c=true)(h:du sc N c e=true):PT X e (wpT G X.K E c)/\∀f b p,e≠.BoolOp f b p:=by
 cases c with
 |bfn b a=>
  cases b with
  |isx=>have d:=gT (E:=E) (.bfn .isx a) e o l h;obtain⟨x,g,a,p,rfl,k⟩:=jx h;exact⟨pt_tru d (fun _=>rfl),fun _ _ _ z=>nomatch z⟩
  |_=>exact cQ l
 |_=>exact cQ l
def Lu(c:CE)(e:Expr){E:XS}(o:OkL G sc N X)(l:liteT c=true)(h:du sc N c e=true):PT X e (wpT G X.K E c):=by
 cases c with
 |and a b=>
  obtain⟨l1,l2⟩:=an l;obtain⟨s,j,x,p,k,m⟩:=oa h;obtain⟨d,f,g⟩:=gz k;cases of_decide_eq_true d;obtain⟨i,nb⟩:=wb (E:=E) b x o l2 g;rcases m with rfl|⟨n,q,r,rfl,rfl⟩;·exact(DM (wb a _ o l1 f).1 (Fu i)).pt
  ·exact absurd rfl (nb _ _ _)
 |_=>refine(wb _ e o ?_ h).1;exact l
mutual
theorem Lv(c:CS)(st:Stmt){E:XS}(o:OkL G sc N X)(l:liteS c=true)(h:chkS sc N c st=true):PS X st (wpS G X.K E c):=by
 cases c with
 |asg g e=>
  obtain⟨z,n,p,rfl,k⟩:=Ah h;obtain⟨d,f,j,A⟩:=mn k;cases g with
  |name i=>
   obtain⟨x,p,rfl,m⟩:=gH d;rw[az,b8,beq_iff_eq,beq_iff_eq,beq_iff_eq]at m;refine DO (gT e _ o l f) ?_ (BG (qp j) _ _ _) rfl rfl;refine zx (by rw[o.names];exact o.nd) (by rw[o.names];exact m.1) ?_ (.inl (o.all x));rcases m.2 with q|q;·exact .inl (o.loc x q)
   ·exact .inr (o.cel x q)
  |_=>exact cQ l
 |ret e=>obtain⟨r,p,rfl,k⟩:=Ey h;obtain⟨n,rfl,m⟩:=FD k;exact Ks (gT e _ o l m)
 |pass=>
  cases st<;>first
   |exact Fv
   |exact cQ h
 |expr e=>obtain⟨n,p,rfl,k⟩:=Ml h;obtain⟨s,t⟩:=an k;exact Fw (gT e _ o l s) (rh (qp t) _ _ _)
 |iff c a b=>obtain⟨l1,l⟩:=an l;obtain⟨l2,u⟩:=an l;obtain⟨y,v,w,p,rfl,k⟩:=Mj h;obtain⟨d,f,j⟩:=gz k;exact ps_if (Lu c _ o l1 d) (rH a _ o l2 f) (rH b _ o u j)
 |_=>exact cQ l
theorem rH(c:CB)(st:List Stmt){E:XS}(o:OkL G sc N X)(l:BU c=true)(h:qC sc N c st=true):PSs X st (wpB G X.K E c):=by
 cases c with
 |hole=>exact cQ l
 |nil=>obtain rfl:=nil_of h;exact zv
 |cons s r=>obtain⟨l1,l2⟩:=an l;obtain⟨e,d,rfl,k⟩:=xS h;obtain⟨a,b⟩:=an k;exact qV (Lv s _ o l1 a) (rH r _ o l2 b)
end
mutual
theorem JO(d:HX CX):∀(c:CS)(st:Stmt){E:XS}{sc:Scope}{N:List Str}{X:Cx},Ok CX G E sc N true X->(∀pins σ H s,Inv X pins σ H s->X.env.scope.kind=.function)->chkS sc N c st=true->PS X st (wpS G X.K E c)
 |.asg g e,st,E,sc,N,X,o,hk,h=>by obtain⟨Q,B,p,rfl,k⟩:=Ah h;obtain⟨f,j,r,t⟩:=mn k;exact DO (bF d e _ o j) (sT d g _ o f) (rh (qp r) _ _ _) (vS f (qp t) _) (by rw[qZ f];rfl)
 |.asgc i e,st,E,sc,N,X,o,hk,h=>by
  obtain⟨R,h⟩:=an h;obtain⟨Q,B,sp,rfl,k⟩:=Ah h;obtain⟨x,p,rfl,l⟩:=gH k;obtain⟨a,b,c,a4,rfl,m⟩:=Ez l;obtain⟨f,j,r,t⟩:=mn m;rw[beq_iff_eq]at f;rw[b8,beq_iff_eq,beq_iff_eq]at j;rw[b8,beq_iff_eq]at t;obtain⟨own,fr,tg,U,a3,a5,rfl⟩:=ED R;by_cases hl:X.env.scope.names.lookup x=some .local
  ·rcases t with q|q;·rw[o.cel x q]at hl;cases hl
   obtain⟨q1,q2⟩:=an q;obtain⟨b2,gs,b6,p',e1,r1⟩:=Ez r;cases e1;obtain⟨⟨b7,b4,b3,b9⟩,rfl,r2⟩:=kO r1;obtain⟨g0,g1,g2,r3⟩:=mn r2;obtain⟨g3,g4,g5,g6⟩:=mn r3;cases of_decide_eq_true g0;have S:=vD g1;intro pins s σ H D I v;exact DN (S.comp o) (S.mkOk o) o.calm (DD d U _ _ o g3)
    (fun C Y K P _=>⟨sT d tg _ (o.comp d S C Y K P) g4,JR d a3 _ (o.comp d S C Y K P) g5,bF d a5 _ (o.comp d S C Y K P) g6⟩)
    (by rw[o.names];exact o.nd) (by rw[o.names];exact f) hl (Dz (hk pins σ H s I) hl (of_decide_eq_true q1) (qp q2)) (zL (qp g2) _) pins s σ H D I v
  ·have hc:sc.names.lookup x=some .cell:=by
    rcases j with q|q;·exact absurd (o.loc x q) hl
    ·exact q
   exact ps_set (by rw[o.names];exact o.nd) (by rw[o.names];exact f) (.inr (o.cel x hc)) (bF d _ _ o r) (A6 (by rw[show X.env.kindOf x=_ from o.cel x hc];decide)) (.inl (o.all rfl x))
 |.expr e,st,E,sc,N,X,o,hk,h=>by obtain⟨B,p,rfl,k⟩:=Ml h;obtain⟨f,j⟩:=an k;exact Fw (bF d e _ o f) (rh (qp j) _ _ _)
 |.iff c a b,st,E,sc,N,X,o,hk,h=>by obtain⟨c',a',L,p,rfl,k⟩:=Mj h;obtain⟨f,j,r⟩:=gz k;exact ps_if (iY d c _ o f) (nL d a _ o hk j) (nL d b _ o hk r)
 |.whl c b,st,E,sc,N,X,o,hk,h=>by obtain⟨c',L,p,rfl,k⟩:=dWh_of h;obtain⟨f,j⟩:=an k;exact Kr o.px (iY d c _ o f) (nL d b _ o hk j)
 |.forr g U b,st,E,sc,N,X,o,hk,h=>by obtain⟨Q,i',L,p,rfl,k⟩:=dFo_of h;obtain⟨f,j,r,t⟩:=mn k;exact ps_for o.px o.calm (DD d U _ _ o j) (sT d g _ o f) (nL d b _ o hk t) (zL (qp r) _)
 |.ret e,st,E,sc,N,X,o,hk,h=>by obtain⟨a9,p,rfl,k⟩:=Ey h;obtain⟨B,rfl,m⟩:=FD k;exact Ks (bF d e _ o m)
 |.retN,st,E,sc,N,X,o,hk,h=>by obtain⟨a9,p,rfl,k⟩:=Ey h;obtain rfl:=gU.mp k;exact ps_retN
 |.rais x es,st,E,sc,N,X,o,hk,h=>by obtain⟨x',V,a6,M,p,rfl,k⟩:=Mh h;obtain⟨f,j,r,m⟩:=mn k;obtain⟨t,w⟩:=an m;cases of_decide_eq_true f;intro pins s σ H D I v;obtain⟨C,A,a8,hq,v⟩:=v;obtain⟨u,hu,W⟩:=o.val _ _ A;obtain rfl:u=bz C:=W;have T:=k6 d es _ o w;obtain⟨_,_,rfl,y⟩:=A9 w t;exact Kt (o.gl j) hu a8 hq T o.calm (gS r).1 (y _ M).1 (y _ _).2 o.made pins s σ H D I v
 |.raisX x es,st,E,sc,N,X,o,hk,h=>by obtain⟨x',V,a6,M,p,rfl,k⟩:=Mh h;obtain⟨f,j,r,m⟩:=mn k;obtain⟨t,w⟩:=an m;cases of_decide_eq_true f;intro pins s σ H D I v;obtain⟨C,sp,b1,A,v⟩:=v;obtain⟨a7,fd,ps,ds,k,hM,a2,hr,hu,hb,hd⟩:=o.ini _ _ _ _ _ A;have T:=k6 d es _ o w;obtain⟨_,_,rfl,y⟩:=A9 w t;exact Hj hM a2 hr hb hd o.pass (o.gl j) hu T o.calm (gS r).1 (y _ M).1 (y _ _).2 o.madeX pins s σ H D I v
 |.fldX a a7 e,st,E,sc,N,X,o,hk,h=>by obtain⟨Q,B,p,rfl,k⟩:=Ah h;obtain⟨o',f',p',rfl,l⟩:=Ag k;obtain⟨f,j,r,t⟩:=mn l;cases of_decide_eq_true f;exact ps_fldX (bF d a _ o j) (bF d e _ o r) (rh (qp t) _ _ _)
 |.tryc x i b su,st,E,sc,N,X,o,hk,h=>by
  obtain⟨L,x',V,n,F,hp,p,rfl,k⟩:=dTr_of h;obtain⟨f,j,r,m,m'⟩:=and5 k;obtain⟨t,w,h6⟩:=gz m;obtain⟨R,h7,h8⟩:=gz m';cases of_decide_eq_true f;rw[beq_iff_eq]at t w;cases F with
  |nil=>exact cQ R
  |cons s0 F=>
   obtain⟨t1,t2,t3⟩:=o.top rfl;intro pins s σ H D I v;obtain⟨C,A,v⟩:=v;obtain⟨u,hu,W⟩:=o.val _ _ A;obtain rfl:u=bz C:=W;have O:CZ X x n C i (s0::F) (wpB G X.K N0 su):=
    {nd:=by rw[o.names];exact o.nd,at_:=by rw[o.names];exact t,loc:=o.loc n w,gl:=o.gl j,mg:=hu,db:=(gS r).1,stk:=t1,fr:=t2,ex:=t3
     su:=fun pins a=>rH su _ (X:=X.re (X.A.mark (some (.ref a))) false (X.pn++pins) (fun _ _=>False)) ⟨o.names,o.nd,o.loc,o.cel,o.fre,o.glo,o.all rfl,o.val,o.blt⟩ h6 h7}
   exact ps_try (X:=X) (tb:=fun D=>wpB G X.K (ll X.K C i (wpB G X.K N0 su) D) b) (fun pins D ok=>nL d b _ (X:=X.re X.A X.calm (X.pn++pins) (jW X pins D [.ExceptHandler (some (.Name x V)) (some n) (s0::F) hp]))
    {names:=o.names,top:=fun _=>⟨t1,t2,t3⟩,nd:=o.nd,loc:=o.loc,cel:=o.cel,fre:=o.fre,glo:=o.glo,all:=o.all,own:=o.own,calm:=o.calm,hu:=o.hu,val:=o.val,fn:=o.fn,ini:=o.ini,dic:=o.dic,mak:=o.mak,mth:=o.mth,blt:=o.blt,px:=PassesOwn.looking
     pass:=fun a0 a1 Z s' e b5 J z=>Jl O ok o.calm J (by rw[o.cx]at z;exact z)
     made:=fun a0 a1 Z s' a c b0 h' J hm z=>Jm O ok J hm z
     madeX:=fun a0 a1 Z s' a C' a4 J m z=>GZ O ok J m z
     cx:=o.cx} (fun _ _ _ _ J=>J.ok.kind) h8) pins s σ H D I v
 |.pass,st,E,sc,N,X,o,hk,h=>by
  cases st<;>first
   |exact Fv
   |exact cQ h
 |.brk,st,E,sc,N,X,o,hk,h=>by
  cases st<;>first
   |exact Ku
   |exact cQ h
 |.cont,st,E,sc,N,X,o,hk,h=>by
  cases st<;>first
   |exact Bk
   |exact cQ h
theorem nL(a:HX CX):∀(c:CB)(st:List Stmt){E:XS}{sc:Scope}{N:List Str}{X:Cx},Ok CX G E sc N true X->(∀pins σ H s,Inv X pins σ H s->X.env.scope.kind=.function)->qC sc N c st=true->PSs X st (wpB G X.K E c)
 |.hole,_,_,_,_,_,_,_,_=>fun _ _ _ _ _ _ z=>z.elim
 |.nil,st,E,sc,N,X,o,hk,h=>by obtain rfl:=nil_of h;exact zv
 |.cons s r,st,E,sc,N,X,o,hk,h=>by obtain⟨f,e,rfl,k⟩:=xS h;obtain⟨b,d⟩:=an k;exact qV (JO a s _ o hk b) (nL a r _ o hk d)
end
end
structure GOk(P:Program)(w:World)(K:ah)(mg:Str->Option Value)(base:Heap)(CX:CXT)(k:Nat)(G:Gam):Prop where
 val:∀x v,G.val x=some v->∃u,mg x=some u/\RelV v u
 fn:∀x n sp am,G.fn x n=some (sp,am)->∃f fd ps ds j,j<=k/\jm P w K mg base CX j f fd ps sp/\mg x=some (.ref f)/\b7 K (.ref f)=true/\Binds K fd ps ds/\bG am ds
 ini:∀x n C sp am,G.ini x n=some (C,sp,am)->∃f fd ps ds j,j+1<=k/\MkX K C f/\jm P w K mg base CX j f fd ps sp/\mg x=some (.ref C)/\Binds K fd ps ds/\bG am ds
 dic:∀a kvs,G.dic a=some kvs->DkIn P w K a kvs
 mak:∀x n C sp am,G.mak x n=some (C,sp,am)->∃f fd ps ds j,j+1<=k/\Mk K C f/\jm P w K mg base CX j f fd ps sp/\mg x=some (.ref C)/\Binds K fd ps ds/\bG am ds
 mth:∀m n C sp am,G.mth m n=some (C,sp,am)->∃f fd ps ds j,j<=k/\Cls K C/\Meth K C m f/\jm P w K mg base CX j f fd ps sp/\Binds K fd ps ds/\bG am ds
 blt:∀x∈jj,mg x=none
abbrev pN(N ps:List Str)(sc:Scope):Bool:=
 decide (sc.kind=.function)&&decide (sc.isCoroutine=false)&&decide (sc.isGenerator=false)&&decide N.Nodup&&decide (N.take ps.length=ps)&&
 ps.all (fun x=>sc.names.lookup x==some .local||sc.names.lookup x==some .cell)&&sc.names.all (fun y=>decide (y.2≠.free))
def BA(h:pN N ps sc=true):u7 N ps sc:=by unfold pN at h;simp only[az,bg,decide_eq_true_eq,beq_iff_eq,b8]at h;obtain⟨⟨⟨⟨⟨⟨a,b⟩,c⟩,d⟩,e⟩,f⟩,g⟩:=h;exact⟨a,b,c,d,e,f,g⟩
section
variable {mg:Str->Option Value}
def K4{G:Gam}{outer:List Env}{E:XK}(S:u7 N ps sc)(g:GOk P w K mg base (CXx P w) k G)(i:i5 k (A.deeper (envOfC qual sc s.heap.objs.size f ap))):Ok (CXx P w) G (fun _=>E) sc N true (Ai (CXx P w) P w K mg base N qual sc f ap A outer s H E):=
  {names:=rfl,top:=fun _=>⟨rfl,rfl,rfl⟩,nd:=S.nd,loc:=fun _ z=>z,cel:=fun _ z=>z,fre:=fun y z=>absurd rfl (S.nofree _ (bw z)),glo:=fun _ z=>z,all:=fun _ _=>rfl,own:=fun _ _=>rfl,calm:=rfl,
   hu:=by have :=i.units;show _+50<cLine;exact iT (Nat.add_le_add_left (by decide) _) this
   val:=g.val
   fn:=fun y n h a e=>by obtain⟨b,fd',ps',ds',j,hj,F',hm,hk,hb,d⟩:=g.fn y n h a e;exact⟨b,fd',ps',ds',j,F',i.mono hj,hm,hk,hb,d⟩
   ini:=fun y n C h a e=>by obtain⟨b,fd',ps',ds',j,hj,M,F',hm,hb,d⟩:=g.ini y n C h a e;exact⟨b,fd',ps',ds',j,M,F',i.mono hj,hm,hb,d⟩
   dic:=g.dic
   mak:=fun y n C h a e=>by obtain⟨b,fd',ps',ds',j,hj,M,F',hm,hb,d⟩:=g.mak y n C h a e;exact⟨b,fd',ps',ds',j,M,F',i.mono hj,hm,hb,d⟩
   mth:=fun y n C h a e=>by obtain⟨b,fd',ps',ds',j,hj,c,M,F',hb,d⟩:=g.mth y n C h a e;exact⟨b,fd',ps',ds',j,c,M,F',i.mono hj,hb,d⟩
   blt:=g.blt,px:=PassesOwn.leaving,pass:=Io,made:=Ip,madeX:=EH,cx:=rfl}
def Ca{x:Str}{st:Stmt}{dV kV:Value}{od an:Option Addr}{G:Gam}{sp:Sp}{a:CB}(j:K.lookup f=some ⟨oc,od,.func (aB x qual (bf st) (a7 st) (aO st) dV kV bi pm an ap ct),bv⟩)(c:eJ K ap qual=true)(d:pN N ps (aO st)=true)(b:qC (aO st) N a (a7 st)=true)
  (g:GOk P w K mg base (CXx P w) k G)(len:∀vs H Q E,sp vs H Q E->vs.length=ps.length)
  (h:∀vs H Q E,sp vs H Q E->wpB G K (fun _=>E) a {nx:=fun _ H'=>Q .non H',rt:=Q} (start N vs) H):jm P w K mg base (CXx P w) (k+1) f (aB x qual (bf st) (a7 st) (aO st) dV kV bi pm an ap ct) ps sp:=by
 have S:=BA d;refine fn_of j c S len fun A l s H vs Q E e i=>?_;exact⟨_,nL (fun _ _ _ _ _ z=>HY z) a _ (K4 S g e) (fun _ _ _ _ _=>S.kind) b,h vs H Q E i⟩
def Gf{x:Str}{st:Stmt}{b:fg}{G:Gam}{sp:Sp}{a:CB}(F:Fun K x qual st f b)(e:pN N ps (aO st)=true)(c:qC (aO st) N a (a7 st)=true)
  (g:GOk P w K mg base (CXx P w) k G)(len:∀vs H Q E,sp vs H Q E->vs.length=ps.length)
  (h:∀vs H Q E,sp vs H Q E->wpB G K (fun _=>E) a {nx:=fun _ H'=>Q .non H',rt:=Q} (start N vs) H):jm P w K mg base (CXx P w) (k+1) f b ps sp:=by
 obtain⟨n,od,kV,m,p,an,j,l,o,rfl,i,d⟩:=F.ex;exact Ca i d e c g len h
end
abbrev gam(vals:List (Str×V))(c:List ((Str×Nat)×(Sp×List V)))(d:List ((Str×Nat)×(Addr×Sp×List V)):=[]) (b:List (Addr×List (Key×V)):=[]) (e f:List ((Str×Nat)×(Addr×Sp×List V)):=[]):Gam:=⟨fun x=>vals.lookup x,fun x n=>c.lookup (x,n),fun x n=>d.lookup (x,n),fun a=>b.lookup a,fun x n=>e.lookup (x,n),fun m n=>f.lookup (m,n)⟩
theorem BP{c:Type}{b:c}:∀{l:List (Addr×c)},l.lookup a=some b->(a,b)∈l
 | [],h=>nomatch h
 | (k,v)::l,h=>by
  rw[aV]at h;cases q:(a==k)with
  |true=>rw[q]at h;cases h;rw[beq_iff_eq.mp q];exact aL
  |false=>rw[q]at h;exact aD _ (BP h)
section
variable {mg:Str->Option Value}{CX:CXT}
def GOk.start{vals:List (Str×V)}(i:∀x v,(x,v)∈vals->∃u,mg x=some u/\RelV v u)(f:∀x∈jj,mg x=none){b:List (Addr×List (Key×V))}(g:∀a kvs,(a,kvs)∈b->DkIn P w K a kvs:=by intro a kvs h;exact nomatch h):GOk P w K mg base CX 0 (gam vals [] [] b):=
 ⟨fun x v e=>i x v (bw e),fun x n d c e=>(nomatch e),fun x n C d c e=>(nomatch e),fun a kvs e=>g a kvs (BP (show cS a b=some kvs from e)),fun x n C d c e=>(nomatch e),fun x n C d c e=>(nomatch e),f⟩
def GOk.add{vals:List (Str×V)}{s:List ((Str×Nat)×(Sp×List V))}{x:Str}{p:fg}{sp:Sp}{u v z:List ((Str×Nat)×(Addr×Sp×List V))}{t:List (Addr×List (Key×V))}(g:GOk P w K mg base CX k (gam vals s u t v z))
  (F:jm P w K mg base CX (k+1) f p ps sp)(G:mg x=some (.ref f))(E:b7 K (.ref f)=true)(B:Binds K p ps ds)(D:bG am ds):GOk P w K mg base CX (k+1) (gam vals (((x,n),(sp,am))::s) u t v z):=by
 refine⟨g.val,fun y m b a e=>?_,fun y m C b a e=>?_,g.dic,fun y m C b a e=>?_,fun y m C b a e=>?_,g.blt⟩
 rotate_left
 rotate_left
 ·obtain⟨d,h,l,c,j,i,r⟩:=g.mak y m C b a e;exact⟨d,h,l,c,j,fu i,r⟩
 ·obtain⟨d,h,l,c,j,i,r⟩:=g.mth y m C b a e;exact⟨d,h,l,c,j,fu i,r⟩
 rotate_left
 ·obtain⟨d,h,l,c,j,i,r⟩:=g.ini y m C b a e;exact⟨d,h,l,c,j,fu i,r⟩
 have o:cS (y,m) (((x,n),(sp,am))::s)=some (b,a):=e;rw[aV]at o;cases q:((y,m)==(x,n))with
 |true=>rw[q]at o;have A:(y,m)=(x,n):=eq_of_beq q;cases A;cases o;exact⟨f,p,ps,ds,k+1,av _,F,G,E,B,D⟩
 |false=>rw[q]at o;obtain⟨d,h,l,c,j,i,r⟩:=g.fn y m b a o;exact⟨d,h,l,c,j,fu i,r⟩
def GOk.addI{vals:List (Str×V)}{v:List ((Str×Nat)×(Sp×List V))}{x:Str}{p:fg}{sp:Sp}{s z A:List ((Str×Nat)×(Addr×Sp×List V))}{u:List (Addr×List (Key×V))}(g:GOk P w K mg base CX k (gam vals v s u z A))
  (M:MkX K C f)(F:jm P w K mg base CX (k+1) f p ps sp)(G:mg x=some (.ref C))(D:Binds K p ps ds)(E:bG am ds):GOk P w K mg base CX (k+2) (gam vals v (((x,n),(C,sp,am))::s) u z A):=by
 refine⟨g.val,fun y m b a e=>?_,fun y m t b a e=>?_,g.dic,fun y m C b a e=>(by
  obtain⟨d,h,l,c,j,i,r⟩:=g.mak y m C b a e;exact⟨d,h,l,c,j,aF i (by lia),r⟩),fun y m C b a e=>(by
  obtain⟨d,h,l,c,j,i,r⟩:=g.mth y m C b a e;exact⟨d,h,l,c,j,aF i (by lia),r⟩),g.blt⟩
 ·obtain⟨d,h,l,c,j,i,r⟩:=g.fn y m b a e;exact⟨d,h,l,c,j,aF i (by lia),r⟩
 have o:cS (y,m) (((x,n),(C,sp,am))::s)=some (t,b,a):=e;rw[aV]at o;cases q:((y,m)==(x,n))with
 |true=>rw[q]at o;have B:(y,m)=(x,n):=eq_of_beq q;cases B;cases o;exact⟨f,p,ps,ds,k+1,av _,M,F,G,D,E⟩
 |false=>rw[q]at o;obtain⟨d,h,l,c,j,i,r⟩:=g.ini y m t b a o;exact⟨d,h,l,c,j,aF i (by lia),r⟩
end
section
variable {Q:VK}{i j:Int}
def wY:uF K .Add (.int i) (.int j) H Q↔Q (.int (i+j)) H:=by show _\/_↔_;simp[rI0,rCat,Fp,Fq]
def JD:uF K .Sub (.int i) (.int j) H Q↔Q (.int (i-j)) H:=by show rI0 _ _ _ _ _↔_;simp[rI0]
def mul_ii:uF K .Mult (.int i) (.int j) H Q↔EO i j/\Q (.int (i*j)) H:=by show _\/_↔_;simp[rI,rRep,Ki]
def iZ:uF K .Mod (.int i) (.int j) H Q↔0<j/\Q (.int (i%j)) H:=by show rI _ _ _ _ _ _↔_;simp[rI]
def div_ii:uF K .FloorDiv (.int i) (.int j) H Q↔CDiv i j/\Q (.int (i/j)) H:=by show rI _ _ _ _ _ _↔_;simp[rI]
def pow_ii:uF K .Pow (.int i) (.int j) H Q↔MN i j/\Q (.int (i^j.toNat)) H:=by show rI _ _ _ _ _ _↔_;simp[rI]
def MJ{x y:Str}:uF K .Add (.str x) (.str y) H Q↔x.length+y.length<=sizeLine/\Q (.str (x++y)) H:=by show _\/_↔_;simp[rI0,rCat,Fp,Fq]
def FT:gR K .Lt (.int i) (.int j) H Q↔Q (.bl (decide (i<j))) H:=by simp[gR,rI0]
def Ly:gR K .LtE (.int i) (.int j) H Q↔Q (.bl (decide (i<=j))) H:=by simp[gR,rI0]
def F8:gR K .Gt (.int i) (.int j) H Q↔Q (.bl (decide (j<i))) H:=by simp[gR,rI0]
def ge_ii:gR K .GtE (.int i) (.int j) H Q↔Q (.bl (decide (j<=i))) H:=by simp[gR,rI0]
def Fj{d:D}:Rep K H d (.int i)↔d=.int i:=by cases d<;>simp[Rep,eq_comm]
def jD:gR K .Eq (.int i) (.int j) H Q↔Q (.bl (decide (i=j))) H:=by
 simp only[gR,rEqD,Fj];constructor;·rintro⟨_,_,rfl,rfl,_,q⟩;exact q
 ·intro q;exact⟨_,_,rfl,rfl,aM _,q⟩
def K8:gR K .NotEq (.int i) (.int j) H Q↔Q (.bl (!decide (i=j))) H:=by
 simp only[gR,rNeD,Fj];constructor;·rintro⟨_,_,rfl,rfl,_,q⟩;exact q
 ·intro q;exact⟨_,_,rfl,rfl,aM _,q⟩
def isnot_n:gR K .IsNot x .non H Q↔Q (.bl (!decide (x=.non))) H:=by simp[gR]
def len_s:rBf K .len [.str z] H Q↔z.length<=sizeLine/\Q (.int z.length) H:=by simp[rBf]
def idx_s:rIx K (.str z) (.int i) H Q↔∃c,z.length<=sizeLine/\atI z.cps.toList i=some c/\Q (.str ⟨#[c]⟩) H:=by simp[rIx,rIxL,rIxT,rIxS]
def cut_s{lo hi:Option Int}:rSlc K (.str z) lo hi H Q↔z.length<=sizeLine/\Q (.str (pL z lo hi)) H:=by simp[rSlc,rSlL,rSlS]
end
structure tL(J:It)(n:Nat)(it:Nat->V->Hp->Prop)(Hc:Hp->Prop):Prop where
 go:∀i H,Hc H->i<n->J.go i H
 stop:∀i H,Hc H->n<=i->J.stop i H
 yld:∀i H x H',Hc H->i<n->J.yld i H x H'->it i x H'/\aA H H'
section
def eE:tL (Itl K a) xs.length (fun i x _=>xs[i]? =some x) (fun H=>SqL K H a xs) where
 go:=fun i H h hi=>⟨xs,xs[i],h,by simp[hi]⟩
 stop:=fun i H h hi=>⟨xs,h,hi⟩
 yld:=fun i H x b h hi y=>by obtain⟨e,y⟩:=y;subst e;exact⟨y xs h,aA.refl _⟩
def zm:tL (Itt K a) xs.length (fun i x _=>xs[i]? =some x) (fun H=>SqT K H a xs) where
 go:=fun i H h hi=>⟨xs,xs[i],h,by simp[hi]⟩
 stop:=fun i H h hi=>⟨xs,h,hi⟩
 yld:=fun i H x b h hi y=>by obtain⟨e,y⟩:=y;subst e;exact⟨y xs h,aA.refl _⟩
def dN{lo:Int}:tL (Itr lo n) n (fun i x _=>x=.int (lo+i)) (fun _=>True) where
 go:=fun i H _ hi=>hi
 stop:=fun i H _ hi=>hi
 yld:=fun i H x a _ hi y=>by obtain⟨e,y⟩:=y;subst e;exact⟨y,aA.refl _⟩
def seq_str:tL (Its z) z.length (fun i x _=>∃c,z.cps[i]? =some c/\x=.str ⟨#[c]⟩) (fun _=>True) where
 go:=fun i H _ hi=>hi
 stop:=fun i H _ hi=>hi
 yld:=fun i H x a _ hi y=>by obtain⟨e,y⟩:=y;subst e;exact⟨y,aA.refl _⟩
def au{o:HO}(h:H p=none):aA H (upd H p o):=fun b u e=>by rw[aW (bI e h)];exact e
def eF{o:HO}(h:upd H p o=H1)(hp:H p=none):aA H H1/\H1 p=some o:=by subst h;exact⟨au hp,aq⟩
def JV{a:Hp->List V->Prop}:tL (IteG a) xs.length (fun i x H=>∃p v,x=.ref p/\H p=some (.tup [.int i,v])/\xs[i]? =some v) (fun H=>a H xs) where
 go:=fun i H h hi=>⟨xs,xs[i],h,by simp[hi]⟩
 stop:=fun i H h hi=>⟨xs,h,hi⟩
 yld:=fun i H x c h hi y=>by obtain⟨p,v,hp,e,b,y⟩:=y;subst e b;exact⟨⟨p,v,rfl,aq,y xs h⟩,au hp⟩
def ForB(J:It)(g:TG)(tb:TS)(D:Ends)(σ:L2.St)(H:Hp):Prop:=∃W:Nat->Nat->L2.St->Hp->Prop,(∃m,W 0 m σ H)/\∀i m σ H,W i m σ H->
 (J.stop i H/\D.nx σ H)\/(J.go i H/\∃N:L2.St->Hp->Prop,(∀b H',N b H'->∃a,a<m/\W (i+1) a b H')/\∀x H',J.yld i H x H'->g x σ H' fun c H2=>tb {D with nx:=N,ct:=N,bk:=D.nx} c H2)
def C0(J:It)(g:TG)(tc:TT)(te:TE)(o:L2.St)(H1:Hp)(Q:VK):Prop:=∃W:Nat->Nat->L2.St->List V->Hp->Prop,(∃m,W 0 m o [] H1)/\
 ∀i m h ad H2,W i m h ad H2->(J.stop i H2/\∀l,H2 l=none->Q (.ref l) (upd H2 l (.lst ad)))\/(J.go i H2/\∃N:L2.St->List V->Hp->Prop,(∀j e H',N j e H'->∃f,f<m/\W (i+1) f j e H')/\
  ∀x c,J.yld i H2 x c->g x h c fun a k=>tc a k fun b d=>if b=true then te a d fun v n=>ad.length<sizeLine/\N a (ad++[v]) n else N a ad d)
def Gd{J:It}{c:Nat->V->Hp->Prop}{b:Hp->Prop}{g:TG}{tb:TS}{D:Ends}(S:tL J n c b)(a:Nat->L2.St->Hp->Prop)(h0:a 0 σ H)(f:∀i σ H,i<=n->a i σ H->b H)
  (h:∀i x σ H H',i<n->a i σ H->c i x H'->aA H H'->g x σ H' fun o H2=>tb {D with nx:=a (i+1),ct:=a (i+1),bk:=D.nx} o H2) (d:∀σ H,a n σ H->D.nx σ H):
  ForB J g tb D σ H:=by
 refine⟨fun i m σ H=>m=n-i/\i<=n/\a i σ H,⟨n,by simp,aM _,h0⟩,?_⟩;rintro i m σ H ⟨rfl,hi,p⟩;have q:=f i σ H hi p;by_cases hlt:i<n;·refine .inr ⟨S.go i H q hlt,a (i+1),fun r H' j=>⟨n-(i+1),by lia,rfl,hlt,j⟩,fun x H' y=>?_⟩;obtain⟨k,l⟩:=S.yld i H x H' q hlt y;exact h i x σ H H' hlt p k l
 ·have e:i=n:=by lia
  subst e;exact .inl ⟨S.stop i H q (av _),d σ H p⟩
def d7{J:It}{B:Nat->V->Hp->Prop}{w:Hp->Prop}{g:TG}{D:TE}{Q:VK}{E:L2.St}(S:tL J n B w)(hn:n<=sizeLine)(O:∀H,aA H1 H->w H)
  (F:Nat->V->Hp->Prop)(I:∀i v H H',aA H H'->F i v H->F i v H')(T:L2.St->Prop)(N:T E)
  (step:∀i x p o (R:L2.St->V->Hp->Prop),i<n->T p->aA H1 o->B i x o->(∀j v h,T j->aA o h->F i v h->R j v h)->g x p o fun G K=>D G K (R G))
  (M:∀vs H2 l,vs.length=n->(∀(i:Nat) v,vs[i]? =some v->F i v H2)->aA H1 H2->H2 l=none->Q (.ref l) (upd H2 l (.lst vs))):
  C0 J g tYes D E H1 Q:=by
 refine⟨fun i m p f H2=>m=n-i/\i<=n/\T p/\f.length=i/\aA H1 H2/\∀(k:Nat) v,f[k]? =some v->F k v H2,⟨n,by simp,aM _,N,rfl,aA.refl _,fun k v e=>by simp at e⟩,?_⟩;rintro i m p f H2 ⟨rfl,hi,X,A,s,z⟩;have q:=O H2 s;by_cases hlt:i<n
 ·refine .inr ⟨S.go i H2 q hlt,fun j t H'=>T j/\t.length=i+1/\aA H1 H'/\∀(k:Nat) v,t[k]? =some v->F k v H',fun j t H' ⟨a,b,c,d⟩=>⟨n-(i+1),by lia,rfl,hlt,a,b,c,d⟩,fun x o y=>?_⟩;obtain⟨Z,u⟩:=S.yld i H2 x o q hlt y;refine step i x p o (fun j v h=>f.length<sizeLine/\T j/\(f++[v]).length=i+1/\aA H1 h/\∀(k:Nat) r,(f++[v])[k]? =some r->F k r h) hlt X (s.trans u) Z fun j v h Y C L=>⟨by lia,Y,by simp[A],(s.trans u).trans C,fun k r e=>?_⟩;by_cases hk:k<f.length;·rw[cB hk]at e;exact I k r H2 h (u.trans C) (z k r e)
  ·rw[bU (by lia)]at e;have U:k-f.length=0:=by have :=(aH.mp e).1;simp at this;lia
   rw[U]at e;have P:k=i:=by lia
   simp at e;subst e;rw[P];exact L
 ·have e:i=n:=by lia
  subst e;exact .inl ⟨S.stop i H2 q (av _),fun l W=>M f H2 l A z s W⟩
def dF{c:TI}{g:TG}{a:TT}{b:TE}{mk:L2.St->L2.St}{Q:VK}(h:c σ H fun J H1=>C0 J g a b (mk σ) H1 Q):vn c g a b mk σ H Q:=h
def iJ{a:TI}{g:TG}{tb:TS}{D:Ends}(h:a σ H fun J H1=>ForB J g tb D σ H1):tFor a g tb D σ H:=h
def CV{R:It->Hp->Prop}(a:σ[i]? =some (some (.str z)))(h:R (Its z) H):Ep K (pK i) σ H R:=⟨_,a,.inr (.inr ⟨z,rfl,h⟩)⟩
def dc{R:It->Hp->Prop}(b:σ[i]? =some (some (.ref a)))(hq:SqL K H a xs)(h:R (Itl K a) H):Ep K (pK i) σ H R:=⟨_,b,.inl ⟨a,rfl,⟨xs,hq⟩,h⟩⟩
def uu{R:It->Hp->Prop}(b:σ[i]? =some (some (.ref a)))(hq:SqT K H a xs)(h:R (Itt K a) H):Ep K (pK i) σ H R:=⟨_,b,.inr (.inl ⟨a,rfl,⟨xs,hq⟩,h⟩)⟩
def bool_list{vs:List V}{b:Nat->Bool}(c:vs.length=n)(h:∀(i:Nat) v,vs[i]? =some v->v=.bl (b i)):vs=((aE n).map b).map V.bl:=by
 apply bR;·simp[c]
 ·intro i a d;have :=h i vs[i] (by simp[a]);simp[this]
def sy{a:Type}(l:List a)(d:a)(f:a->Bool):((aE l.length).map fun i=>f (l.getD i d)).all id=l.all f:=by
 rw[GO,eB];simp only[bg,bp,yT,id];constructor;·intro h c b;obtain⟨i,hi,rfl⟩:=d5.mp b;have :=h i hi;rw[af,ae hi]at this;exact this
 ·intro h i hi;have :=h _ (a6 hi);rw[af,ae hi];exact this
def getD_some{a:Type}{l:List a}{d x:a}(h:l[i]? =some x):l.getD i d=x:=by rw[af,h];rfl
theorem tB:∀ns:List Int,gh (ns.map D.int)=0
 | []=>rfl
 |n::ns=>by rw[a8,gh,tB ns];rfl
def str_len(z:Str):z.length=z.cps.toList.length:=by simp[uP]
def mJ(x y:Str):(x++y).length=x.length+y.length:=by show(x.cps++y.cps).size=_;rw[Array.size_append];rfl
def HZ(z:Str)(lo hi:Option Int):(pL z lo hi).cps.toList=(z.cps.toList.drop (HT.sIx z.length 0 lo)).take (HT.sIx z.length z.length hi-HT.sIx z.length 0 lo):=by simp[pL]
def Ms(z:Str)(lo hi:Option Int):(pL z lo hi).length=HT.sIx z.length z.length hi-HT.sIx z.length 0 lo:=by have a:HT.sIx z.length 0 lo<=z.length:=HT.vF _ _ (aM _) lo;have b:HT.sIx z.length z.length hi<=z.length:=HT.vF _ _ (av _) hi;rw[str_len,HZ,cY,cZ,<-str_len];lia
def Cn(z:Str)(lo hi:Option Int):(pL z lo hi).length<=z.length:=by have a:HT.sIx z.length z.length hi<=z.length:=HT.vF _ _ (av _) hi;rw[Ms];lia
end
def HasFn(K:ah)(x:Str)(st:Stmt):Prop:=∃(f:Addr)(oc:Value)(od an:Option Addr)(bv:Array (Option Value))(kV bi pm ap ct:Value),cU K bu x=some (some (.ref f))/\
 K.lookup f=some ⟨oc,od,.func (aB x x (bf st) (a7 st) (aO st) .none kV bi pm an ap ct),bv⟩/\eJ K ap x=true/\b7 K (.ref f)=true
def LV{x:Str}{st:Stmt}{od an:Option Addr}{kV:Value}(a:cU K bu x=some (some (.ref f)))
  (l:K.lookup f=some ⟨oc,od,.func (aB x x (bf st) (a7 st) (aO st) .none kV bi pm an ap ct),bv⟩)(c:eJ K ap x=true)(k:b7 K (.ref f)=true):HasFn K x st:=
 ⟨f,oc,od,an,bv,kV,bi,pm,ap,ct,a,l,c,k⟩
structure Def(K:ah)(mg:Str->Option Value)(x:Str)(st:Stmt):Prop where
 ex:∃f fd,Fun K x x st f fd/\mg x=some (.ref f)
def HasFn.def{x:Str}{st:Stmt}(X:K.In h)(b:h.Ns bu mg)(H:HasFn K x st):Def K mg x st:=by obtain⟨f,i,od,an,j,kV,g,m,d,e,a,l,c,k⟩:=H;exact⟨f,_,Es l c k,cO X b a⟩
section
variable {mg:Str->Option Value}
def cR{vals:List (Str×V)}{b:List ((Str×Nat)×(Sp×List V))}{x:Str}{st:Stmt}{sp:Sp}{l:CB}{e i j:List ((Str×Nat)×(Addr×Sp×List V))}{a:List (Addr×List (Key×V))}(g:GOk P w K mg base (CXx P w) k (gam vals b e a i j))(d:Def K mg x st)
  (c:(pN N ps (aO st)&&qC (aO st) N l (a7 st))=true)
  (m:∀(kV bi pm:Value)(an:Option Addr)(ap ct:Value)(us:List Value),us.length=ps.length->qK (aB x x (bf st) (a7 st) (aO st) .none kV bi pm an ap ct) ⟨us,[]⟩=pure (ps.zip us))
  (len:∀vs H Q E,sp vs H Q E->vs.length=ps.length)
  (h:∀vs H Q E,sp vs H Q E->wpB (gam vals b e a i j) K (fun _=>E) l {nx:=fun _ H'=>Q .non H',rt:=Q} (L2.start N vs) H):GOk P w K mg base (CXx P w) (k+1) (gam vals (((x,ps.length),(sp,[]))::b) e a i j):=by
 rw[az]at c;obtain⟨f,p,F,o⟩:=d.ex;exact g.add (n:=ps.length) (Gf F c.1 c.2 g len h) o F.kp (F.binds m) .nil
end
end R
local macro_rules|`(tactic|ext)=>do let a:=("R.wpB R.wpS R.wpE R.wpT R.wpL R.wpO R.wpC R.wpG R.wpGs R.wpI L2.mz L2.tRet L2.Jt L2.A4 L2.qm L2.Jx L2.Jw L2.JB L2.tOrV L2.Jv L2.tNot L2.tAnd L2.tOr L2.tV R.A2 L2.tIf L2.tCB L2.mU L2.vm L2.pK L2.tC L2.tOp L2.tUn L2.vo L2.tTup L2.tLst L2.A5 L2.tBM L2.tSl L2.Ju L2.yZ R.cv L2.iV L2.gSub L2.gTup L2.LX L2.gNil R.CGs.len L2.LR L2.LQ L2.LS List.getElem?_cons_zero List.getElem?_cons_succ Option.some.injEq exists_eq_left' exists_eq_left L2.V.bl.injEq L2.V.int.injEq L2.V.str.injEq List.set_cons_zero List.set_cons_succ R.CL.len R.Ty.t R.wY R.JD R.mul_ii R.iZ R.div_ii R.pow_ii R.MJ R.FT R.Ly R.F8 R.ge_ii R.jD R.K8 R.isnot_n R.len_s R.idx_s R.cut_s List.append_nil R.mD List.map_cons List.map_nil List.nil_append List.cons_append".splitOn " ").toArray.map fun s=>Lean.mkIdent ("_root_."++s).toName;`(tactic|simp only[$[$a:term],*])
namespace Cp
open PySem R
abbrev DU:List Str:=["thing"]
abbrev vU:List Str:=["thing"]
abbrev wU:CB:=
  (.cons (.ret (.and (.bfn .isinstance (.cons (.var 0) (.cons (.ty .int) .nil))) (.not (.bfn .isinstance (.cons (.var 0) (.cons (.ty .bool) .nil))))))
  .nil)
abbrev Hq:List Str:=["thing"]
abbrev yi:List Str:=["thing"]
abbrev yz:CB:=
  (.cons (.iff (.not (.bfn .isinstance (.cons (.var 0) (.cons (.ty .str) .nil))))
  (.cons (.ret (.con (.bool false)))
  .nil)
  .nil)
  (.cons (.iff (.not (.chain .LtE .LtE (.con (.int 1)) (.bfn .len (.cons (.var 0) .nil)) (.glo "LONGEST_NAME")))
  (.cons (.ret (.con (.bool false)))
  .nil)
  .nil)
  (.cons (.ret (.bfn .all (.cons (.comp ["sign"] [] (.name 0) (.seq (.var 0)) .no (.cmp .In (.var 0) (.glo "LETTERS"))) .nil)))
  .nil)))
abbrev zF:List Str:=["thing"]
abbrev rC:List Str:=["thing"]
abbrev se:CB:=
  (.cons (.ret (.and (.call "is_whole" (.cons (.var 0) .nil)) (.cmp .In (.var 0) (.tup (.cons (.con (.int 0)) (.cons (.con (.int 1)) .nil))))))
  .nil)
abbrev vM:List Str:=["thing"]
abbrev nU:List Str:=["thing"]
abbrev oX:CB:=
  (.cons (.iff (.or (.not (.bfn .isinstance (.cons (.var 0) (.cons (.ty .tuple) .nil)))) (.cmp .Gt (.bfn .len (.cons (.var 0) .nil)) (.glo "MOST_PLACES")))
  (.cons (.ret (.con (.bool false)))
  .nil)
  .nil)
  (.cons (.ret (.bfn .all (.cons (.comp ["part"] [] (.name 0) (.seq (.var 0)) .no (.call "is_reading" (.cons (.var 0) .nil))) .nil)))
  .nil))
end Cp
set_option maxHeartbeats 1000000
namespace Cp
open PySem PySem.Spec PyProof.Rows L2 R
abbrev iS:Option HO->String
 |some (.lst _)=>"list"
 |some (.frz _ (.lst _))=>"list"
 |some (.tup _)=>"tuple"
 |some (.dK _)=>"dict"
 |some (.dT _)=>"dict"
 |_=>"?"
abbrev tyName(H:Hp):V->String
 |.non=>"NoneType"
 |.bl _=>"bool"
 |.int _=>"int"
 |.str _=>"str"
 |.ref a=>iS (H a)
 |_=>"?"
def Known(H:Hp)(x:V):Prop:=tyName H x≠"?"
def Known.same(h:Known H x)(s:aA H H'):Known H' x/\tyName H' x=tyName H x:=by
 cases x with
 |ref a=>
  have b:iS (H a)≠"?":=h;show iS (H' a)≠"?"/\iS (H' a)=iS (H a);cases e:H a with
  |none=>rw[e]at b;exact absurd rfl b
  |some o=>rw[s a o e];rw[e]at b;exact⟨b,rfl⟩
 |_=>exact⟨h,rfl⟩
def Known.ty(h:Known H x):nq K H x (.type (tyName H x)):=by
 cases x with
 |non=>exact .non
 |bl b=>exact .bl b
 |int i=>exact .int i
 |str s=>exact .str s
 |ref a=>
  have c:iS (H a)≠"?":=h;show nq K H (.ref a) (.type (iS (H a)));cases e:H a with
  |none=>rw[e]at c;exact absurd rfl c
  |some o=>
   rw[e]at c;cases o with
   |lst xs=>exact .lst e
   |tup xs=>exact .tup e
   |dK kvs=>exact .dK e
   |dT kvs=>exact .dT e
   |frz ob u=>
    cases u with
    |lst xs=>exact .frz e
    |_=>exact absurd rfl c
   |_=>exact absurd rfl c
 |_=>exact absurd rfl h
def LU{P:Option HO->Prop}(o:Option HO)(c:∀xs,P (some (.lst xs)))(d:∀b xs,P (some (.frz b (.lst xs))))(e:∀xs,P (some (.tup xs)))(f:∀kvs,P (some (.dK kvs)))(g:∀kvs,P (some (.dT kvs)))(a:iS o="?"->P o):P o:=by
 cases o with
 |none=>exact a rfl
 |some o=>
  cases o with
  |lst xs=>exact c xs
  |tup xs=>exact e xs
  |dK kvs=>exact f kvs
  |dT kvs=>exact g kvs
  |frz b u=>
   cases u with
   |lst xs=>exact d b xs
   |_=>exact a rfl
  |_=>exact a rfl
def Known.mem(h:Known H x):tyName H x∈["NoneType","bool","int","str","list","tuple","dict"]:=by
 cases x with
 |ref a=>
  have b:iS (H a)≠"?":=h;show iS (H a)∈_;cases e:H a with
  |none=>rw[e]at b;exact absurd rfl b
  |some o=>
   rw[e]at b;cases o with
   |lst xs=>show "list"∈_;decide
   |tup xs=>show "tuple"∈_;decide
   |dK kvs=>show "dict"∈_;decide
   |dT kvs=>show "dict"∈_;decide
   |frz ob u=>
    cases u with
    |lst xs=>show "list"∈_;decide
    |_=>exact absurd rfl b
   |_=>exact absurd rfl b
 |_=>first
  |exact absurd rfl h
  |exact aL
  |exact aD _ aL
  |exact aD _ (aD _ aL)
  |exact aD _ (aD _ (aD _ aL))
abbrev jC(a b:String):Bool:=a==b||(a=="bool"&&b=="int")
def kit_ty(K:ah):∀(a:String)(t:Ty),a∈["NoneType","bool","int","str","list","tuple","dict"]->cE K (.type a) (.type t.t)=some (jC a t.t):=by intro a t h;simp only[aG,cu,or_false]at h;rcases h with rfl|rfl|rfl|rfl|rfl|rfl|rfl<;>cases t<;>rfl
def isi{Q:VK}(h:Known H x)(t:Ty)(q:Q (.bl (jC (tyName H x) t.t)) H):rBf K .isinstance [x,.ty t.t] H Q:=
 .inl ⟨x,t.t,_,_,rfl,h.ty,kit_ty K _ t h.mem,q⟩
def zY{i:Int}:Known H (.int i):=by show "int"≠"?";decide
def kn_bl{i:Bool}:Known H (.bl i):=by show "bool"≠"?";decide
def Eg:Known H .non:=by show "NoneType"≠"?";decide
def Ef{x:Str}:Known H (.str x):=by show "str"≠"?";decide
def qu(h:H a=some (.tup xs)):Known H (.ref a):=by show iS (H a)≠"?";rw[h];show "tuple"≠"?";decide
def we(h:H a=some (.lst xs)):Known H (.ref a):=by show iS (H a)≠"?";rw[h];show "list"≠"?";decide
def kn_dK{xs:List (Key×V)}(h:H a=some (.dK xs)):Known H (.ref a):=by show iS (H a)≠"?";rw[h];show "dict"≠"?";decide
def dj{o:HO}(s:aA H H1)(h:H l=none):aA H (upd H1 l o):=fun b u e=>by rw[aW (bI e h)];exact s b u e
abbrev isWhole:V->Bool
 |.int _=>true
 |_=>false
abbrev bJ:V->Bool
 |.int i=>i==0||i==1
 |_=>false
def spB(f:V->Bool):Sp:=fun vs H Q _=>∃x,vs=[x]/\Known H x/\∀H',aA H H'->Q (.bl (f x)) H'
def sub_int(h:Known H x):(jC (tyName H x) "int"&& !jC (tyName H x) "bool")=isWhole x:=by
 cases x with
 |ref a=>have b:iS (H a)≠"?":=h;exact LU (P:=fun o=>(jC (iS o) "int"&& !jC (iS o) "bool")=false) (H a) (fun _=>rfl) (fun _ _=>rfl) (fun _=>rfl) (fun _=>rfl) (fun _=>rfl) fun e=>by rw[e];rfl
 |_=>rfl
def AV{G:Gam}:Sat G K (spB isWhole) wU vU:=by
 rintro c H Q E ⟨x,rfl,b,q⟩;unfold wU;change wpB G K _ _ _ [some x] H;ext;refine isi b .int ⟨_,rfl,?_⟩;have e:=sub_int b;cases h1:jC (tyName H x) "int" with
 |false=>rw[h1,cT]at e;have a:=q H (aA.refl H);rw[<-e]at a;simpa[Ty.t,h1]using a
 |true=>rw[h1,eM]at e;have a:=q H (aA.refl H);rw[<-e]at a;simp only[Ty.t,h1,if_true];exact isi b .bool ⟨_,rfl,a⟩
def xw{G:Gam}(d:G.fn "is_whole" 1=some (spB isWhole,[])):
  Sat G K (spB bJ) se rC:=by
 rintro h H Q E ⟨x,rfl,f,q⟩;unfold se;change wpB G K _ _ _ [some x] H;ext;refine⟨_,_,d,x,rfl,f,fun c b=>⟨_,rfl,?_⟩⟩;cases x with
 |int i=>
  refine⟨by decide,fun p hp=>.inr ⟨p,_,rfl,.inr (SqT.of aq),rfl,rfl,?_⟩⟩;have g:=q _ (b.trans (au (o:=.tup [.int 0,.int 1]) hp));have e:(if false=true then !inV (.int i) [.int 0,.int 1]else inV (.int i) [.int 0,.int 1])=bJ (.int i):=by show((0:Int)==i||((1:Int)==i||false))=(i==0||i==1);rw[Bool.or_false,Bool.beq_comm,Bool.beq_comm (a:=(1:Int))]
  rw[e];exact g
 |_=>exact q c b
abbrev lg(c:Nat):Bool:=decide (97<=c/\c<=122)
abbrev eO(z:Str):Bool:=decide (1<=z.length/\z.length<=8)&&z.cps.toList.all lg
abbrev isName:V->Bool
 |.str z=>eO z
 |_=>false
abbrev LETTERS:Str:="abcdefghijklmnopqrstuvwxyz"
def BX(c:Nat):decide (c∈LETTERS.cps.toList)=lg c:=by unfold lg;rw[show LETTERS.cps.toList=List.range' 97 26 by decide+kernel,decide_eq_decide,List.mem_range'_1];exact⟨fun h=>⟨h.1,Nat.le_of_lt_succ h.2⟩,fun h=>⟨h.1,Nat.lt_succ_of_le h.2⟩⟩
def Em{c:Nat}{Q:VK}(q:Q (.bl (lg c)) H):gR K .In (.str ⟨#[c]⟩) (.str LETTERS) H Q:=by refine .inl (.inl ⟨_,_,rfl,rfl,?_⟩);rw[StrLaws.found_one,BX];exact q
def Ec:(20000:Nat)<=sizeLine:=by decide
def spN:Sp:=fun vs H Q _=>∃x,vs=[x]/\Known H x/\(∀z,x=.str z->z.length<=20000)/\∀H',aA H H'->Q (.bl (isName x)) H'
def sub_str(h:Known H x):jC (tyName H x) "str"=(match x with |.str _=>true|_=>false):=by
 cases x with
 |ref a=>exact LU (P:=fun o=>jC (iS o) "str"=false) (H a) (fun _=>rfl) (fun _ _=>rfl) (fun _=>rfl) (fun _=>rfl) (fun _=>rfl) fun e=>by rw[e];rfl
 |_=>rfl
def Ds{G:Gam}(v1:G.val "LETTERS"=some (.str LETTERS))(A:G.val "LONGEST_NAME"=some (.int 8)):
  Sat G K spN yz yi:=by
 rintro B H Q E ⟨x,rfl,m,g,q⟩;unfold yz;change wpB G K _ _ _ [some x] H;ext;refine isi m .str ⟨_,rfl,?_⟩;rw[show Ty.t .str="str" from rfl,sub_str m];cases x with
 |str z=>
  have g:=g z rfl;have n:z.length<=sizeLine:=aF g Ec;have all:∀R:VK,(∀b,aA H b->R (.bl (z.cps.toList.all lg)) b)->vn (Ep K (pK 0)) (iV 0) tYes (tOp (gR K .In) (pK 0) fun F H Q=>∃v,G.val "LETTERS"=some v/\Q v H) (mD ["sign"] []) [some (.str z)] H fun x j=>rBf K .all [x] j R:=by
   intro R r;refine dF (CV rfl (d7 seq_str n (fun _ _=>trivial) (fun i v _=>v=.bl (lg (z.cps.toList.getD i 0))) (fun _ _ _ _ _ h=>h) (fun o=>∃t,o=[t]) ⟨none,rfl⟩ ?_ ?_))
   ·rintro i x o C R hi ⟨t,rfl⟩ D ⟨c,s,rfl⟩ k;refine⟨_,rfl,_,v1,Em (k _ _ _ ⟨_,rfl⟩ (aA.refl _) ?_)⟩;have :z.cps.toList[i]? =some c:=by simpa using s
    rw[af,this];rfl
   ·intro B j l w p y u;have e:=bool_list w p;subst e;refine⟨l,_,rfl,SqL.of aq,?_⟩;have f:((aE z.length).map fun i=>lg (z.cps.toList.getD i 0)).all id=z.cps.toList.all lg:=by have :=sy z.cps.toList 0 lg;rw[show z.cps.toList.length=z.length by simp[uP]]at this;exact this
    rw[f];exact r _ (y.trans (au u))
  simp only[gv,aX,if_false,A,fR,exists_eq_left',exists_eq_left,V.bl.injEq,V.int.injEq,Ly,len_s,n,true_and];have a:∀b,aA H b->Q (.bl (eO z)) b:=q;unfold eO at a;by_cases h1:1<=z.length
  ·by_cases h2:z.length<=8;·have d:decide ((1:Int)<=z.length)=true:=decide_eq_true (by lia);have f:decide ((z.length:Int)<=8)=true:=decide_eq_true (by lia);rw[decide_eq_true (And.intro h1 h2),eM]at a;simp only[d,f,if_true,gv,aX,if_false];exact all Q a
   ·have d:decide ((1:Int)<=z.length)=true:=decide_eq_true (by lia);have f:decide ((z.length:Int)<=8)=false:=decide_eq_false (by lia);rw[decide_eq_false (fun h=>h2 h.2),cT]at a;simp only[d,f,if_true,Bool.not_false];exact a H (aA.refl H)
  ·have d:decide ((1:Int)<=z.length)=false:=decide_eq_false (by lia);rw[decide_eq_false (fun h=>h1 h.1),cT]at a;simp only[d,aX,if_false,Bool.not_false,if_true];exact a H (aA.refl H)
 |_=>exact q H (aA.refl H)
abbrev cA:Option HO->Option (List V)
 |some (.tup xs)=>some xs
 |_=>none
def mM{o:Option HO}(h:cA o=some xs):o=some (.tup xs):=by
 cases o with
 |none=>cases h
 |some o=>cases o<;>first | (cases h;rfl) |cases h
def xV(o:Option HO):jC (iS o) "tuple"=(cA o).isSome:=by
 cases o with
 |none=>rfl
 |some o=>
  cases o with
  |frz ob u=>cases u<;>rfl
  |_=>rfl
abbrev bT(H:Hp):V->Bool
 |.ref a=>match cA (H a)with
  |some xs=>decide (xs.length<=60)&&xs.all bJ
  |none=>false
 |_=>false
def spR:Sp:=fun vs H Q _=>∃x,vs=[x]/\Known H x/\(∀a xs,x=.ref a->H a=some (.tup xs)->xs.length<=20000/\∀y∈xs,Known H y)/\∀H',aA H H'->Q (.bl (bT H x)) H'
def uD{G:Gam}(m:G.fn "is_reading" 1=some (spB bJ,[]))(v1:G.val "MOST_PLACES"=some (.int 60)):
  Sat G K spR oX nU:=by
 rintro I H Q E ⟨x,rfl,o,w,q⟩;unfold oX;change wpB G K _ _ _ [some x] H;ext;refine isi o .tuple ⟨_,rfl,?_⟩;rw[show Ty.t .tuple="tuple" from rfl];cases x with
 |ref a=>
  show if(!jC (iS (H a)) "tuple")=true then _ else _
  rw[xV];have d:∀b,aA H b->Q (.bl (match cA (H a)with |some xs=>decide (xs.length<=60)&&xs.all bJ|none=>false)) b:=q;cases e0:cA (H a)with
  |none=>rw[e0]at d;exact d H (aA.refl H)
  |some xs=>
    rw[e0]at d;have e:=mM e0;have c:∀b,aA H b->Q (.bl (decide (xs.length<=60)&&xs.all bJ)) b:=d;obtain⟨p,z⟩:=w a xs rfl e;have r:xs.length<=sizeLine:=aF p Ec;simp only[fS,gv,aX,if_false];refine Or.inl ⟨a,xs,rfl,.inr (SqT.of e),_,v1,?_⟩;rw[F8];refine⟨_,rfl,?_⟩;by_cases hle:xs.length<=60
    ·rw[decide_eq_true hle,eM]at c;have f:decide ((60:Int)<xs.length)=false:=decide_eq_false (by lia);rw[f];simp only[aX,if_false];refine dF (uu rfl (SqT.of e) (d7 zm r (fun J B=>B.tup (SqT.of e)) (fun i v _=>v=.bl (bJ (xs.getD i .non))) (fun _ _ _ _ _ h=>h) (fun j=>∃t,j=[t]) ⟨none,rfl⟩ ?_ ?_));·rintro i y j M R hi ⟨t,rfl⟩ D g k;have A:y∈xs:=aI g;exact⟨_,_,m,y,rfl,y,rfl,((z y A).same D).1,fun N F=>k _ _ _ ⟨_,rfl⟩ F (by rw[getD_some g])⟩
     ·intro I L l u n C s;have e:=bool_list u n;subst e;refine⟨l,_,rfl,SqL.of aq,?_⟩;rw[sy xs .non bJ];exact c _ (C.trans (au s))
    ·rw[decide_eq_false hle,cT]at c;have f:decide ((60:Int)<xs.length)=true:=decide_eq_true (by lia);rw[f];simpa using c H (aA.refl H)
 |_=>exact q H (aA.refl H)
end Cp
namespace Cp
open PySem R
abbrev Hr:List Str:=["thing"]
abbrev yj:List Str:=["thing"]
abbrev yA:CB:=
  (.cons (.iff (.or (.not (.bfn .isinstance (.cons (.var 0) (.cons (.ty .tuple) .nil)))) (.cmp .NotEq (.bfn .len (.cons (.var 0) .nil)) (.con (.int 2))))
  (.cons (.ret (.con (.bool false)))
  .nil)
  .nil)
  (.cons (.ret (.and (.call "is_name" (.cons (.idx (.var 0) (.con (.int 0))) .nil)) (.call "are_readings" (.cons (.idx (.var 0) (.con (.int 1))) .nil))))
  .nil))
abbrev DV:List Str:=["thing"]
abbrev vV:List Str:=["thing","names","counts"]
abbrev wV:CB:=
  (.cons (.iff (.or (.not (.bfn .isinstance (.cons (.var 0) (.cons (.ty .list) .nil)))) (.cmp .Gt (.bfn .len (.cons (.var 0) .nil)) (.glo "MOST_COPIES")))
  (.cons (.ret (.con (.bool false)))
  .nil)
  .nil)
  (.cons (.iff (.not (.bfn .all (.cons (.comp ["part"] [] (.name 0) (.seq (.var 0)) .no (.call "is_copy" (.cons (.var 0) .nil))) .nil)))
  (.cons (.ret (.con (.bool false)))
  .nil)
  .nil)
  (.cons (.asgc 1 (.comp ["name","readings"] [] (.tup (.cons (.name 0) (.cons (.name 1) .nil))) (.seq (.var 0)) .no (.var 0)))
  (.cons (.asgc 2 (.comp ["name","readings"] [] (.tup (.cons (.name 0) (.cons (.name 1) .nil))) (.seq (.var 0)) .no (.bfn .len (.cons (.var 1) .nil))))
  (.cons (.ret (.and (.cmp .Eq (.bfn .len (.cons (.bfn .set (.cons (.var 1) .nil)) .nil)) (.bfn .len (.cons (.var 1) .nil))) (.cmp .LtE (.bfn .len (.cons (.bfn .set (.cons (.var 2) .nil)) .nil)) (.con (.int 1)))))
  .nil)))))
abbrev zA:List Str:=["table"]
abbrev rn:List Str:=["table"]
abbrev rT:CB:=
  (.cons (.iff (.not (.call "is_table" (.cons (.var 0) .nil)))
  (.cons (.rais "NoTable" (.cons (.con (.str "this is no table")) .nil))
  .nil)
  .nil)
  .nil)
abbrev xB:List Str:=["table"]
abbrev pO:List Str:=["table"]
abbrev pU:CB:=
  (.cons (.expr (.call "need_table" (.cons (.var 0) .nil)))
  (.cons (.iff (.cmp .Eq (.bfn .len (.cons (.var 0) .nil)) (.con (.int 0)))
  (.cons (.ret (.con (.int 0)))
  .nil)
  .nil)
  (.cons (.ret (.bfn .len (.cons (.idx (.idx (.var 0) (.con (.int 0))) (.con (.int 1))) .nil)))
  .nil)))
end Cp
namespace Cp
open PySem PySem.Spec PyProof.Rows L2 R
def Kn1(H:Hp)(x:V):Prop:=Known H x/\∀z,x=.str z->z.length<=20000
def Kn2(H:Hp)(x:V):Prop:=Kn1 H x/\∀a xs,x=.ref a->H a=some (.tup xs)->xs.length<=20000/\∀y∈xs,Kn1 H y
def Kn3(H:Hp)(x:V):Prop:=Kn1 H x/\∀a xs,x=.ref a->H a=some (.tup xs)->xs.length<=20000/\∀y∈xs,Kn2 H y
abbrev cN:Option HO->Option (List V)
 |some (.lst xs)=>some xs
 |some (.frz _ (.lst xs))=>some xs
 |_=>none
def Kn4(H:Hp)(x:V):Prop:=Kn1 H x/\∀a xs,x=.ref a->cN (H a)=some xs->xs.length<=20000/\∀y∈xs,Kn3 H y
def yO{o:HO}(s:aA H H')(k:H a≠none)(h:H' a=some o):H a=some o:=by
 cases e:H a with
 |none=>exact absurd e k
 |some u=>rw[s a u e]at h;exact h
def Known.some(k:Known H (.ref a)):H a≠none:=fun e=>by have b:iS (H a)≠"?":=k;rw[e]at b;exact b rfl
theorem Kn1.same(h:Kn1 H x)(s:aA H H'):Kn1 H' x:=⟨(h.1.same s).1,h.2⟩
theorem Kn2.same(h:Kn2 H x)(s:aA H H'):Kn2 H' x:=⟨h.1.same s,fun a d e b=>by subst e;obtain⟨l,k⟩:=h.2 a d rfl (yO s h.1.1.some b);exact⟨l,fun y c=>(k y c).same s⟩⟩
theorem Kn3.same(h:Kn3 H x)(s:aA H H'):Kn3 H' x:=⟨h.1.same s,fun a d e b=>by subst e;obtain⟨l,k⟩:=h.2 a d rfl (yO s h.1.1.some b);exact⟨l,fun y c=>(k y c).same s⟩⟩
def yP(h:Known H x)(s:aA H H'):bT H' x=bT H x:=by
 cases x with
 |ref a=>
  show(match cA (H' a)with |some xs=>_|none=>_)=(match cA (H a)with |some xs=>_|none=>_);cases e:H a with
  |none=>exact absurd e h.some
  |some o=>rw[s a o e]
 |_=>rfl
abbrev cF(H:Hp):V->Bool
 |.ref a=>match cA (H a)with
  |some [n,r]=>isName n&&bT H r
  |_=>false
 |_=>false
def pv(h:Kn3 H x)(s:aA H H'):cF H' x=cF H x:=by
 cases x with
 |ref a=>
  show(match cA (H' a)with |some [n,r]=>_|_=>_)=(match cA (H a)with |some [n,r]=>_|_=>_);cases e:H a with
  |none=>exact absurd e h.1.1.some
  |some o=>
   rw[s a o e];cases o with
   |tup xs=>
    match xs with
    | []=>rfl
    | [_]=>rfl
    | [n,r]=>have k:=(h.2 a _ rfl e).2 r (by simp);show(isName n&&bT H' r)=(isName n&&bT H r);rw[yP k.1.1 s]
    |_::_::_::_=>rfl
   |_=>rfl
 |_=>rfl
def spC:Sp:=fun vs H Q _=>∃x,vs=[x]/\Kn3 H x/\∀H',aA H H'->Q (.bl (cF H x)) H'
def Dt{G:Gam}(t:G.fn "is_name" 1=some (spN,[]))(u:G.fn "are_readings" 1=some (spR,[])):
  Sat G K spC yA yj:=by
 rintro B H Q E ⟨x,rfl,i,q⟩;unfold yA;change wpB G K _ _ _ [some x] H;ext;refine isi i.1.1 .tuple ⟨_,rfl,?_⟩;rw[show Ty.t .tuple="tuple" from rfl];cases x with
 |ref a=>
  show if(!jC (iS (H a)) "tuple")=true then _ else _
  rw[xV];have c:∀f,aA H f->Q (.bl (match cA (H a)with |some [n,r]=>isName n&&bT H r|_=>false)) f:=q;cases e0:cA (H a)with
  |none=>rw[e0]at c;exact c H (aA.refl H)
  |some xs=>
   have e:=mM e0;rw[e0]at c;obtain⟨w,d⟩:=i.2 a xs rfl e;simp only[fS,gv,aX,if_false];refine Or.inl ⟨a,xs,rfl,.inr (SqT.of e),?_⟩;show gR K .NotEq (.int (xs.length:Int)) (.int 2) H _;rw[K8];refine⟨_,rfl,?_⟩
   match xs,w,d,e,c with
   | [],_,_,_,c=>exact c H (aA.refl H)
   | [_],_,_,_,c=>exact c H (aA.refl H)
   |_::_::_::r,_,_,_,c=>rw[if_pos (by simp;lia)];exact c H (aA.refl H)
   | [n,r],_,d,e,c=>
    rw[if_neg (by simp)];have kn:=d n (by simp);have j:=d r (by simp);refine⟨_,_,t,.inr (.inl ⟨a,[n,r],0,n,rfl,rfl,SqT.of e,rfl,n,rfl,kn.1.1,kn.1.2,fun o g=>⟨_,rfl,?_⟩⟩)⟩;have h:∀f,aA H f->Q (.bl (isName n&&bT H r)) f:=c;cases en:isName n with
    |false=>rw[en,cT]at h;rw[if_neg ao];exact h o g
    |true=>
     rw[en,eM]at h;rw[if_pos rfl];have m:=j.same g;refine⟨_,_,u,.inr (.inl ⟨a,[n,r],1,r,rfl,rfl,g.tup (SqT.of e),rfl,r,rfl,m.1.1,fun b A s v=>?_,fun p z=>?_⟩)⟩;·obtain⟨l,k⟩:=m.2 b A s v;exact⟨l,fun y d=>(k y d).1⟩
     ·rw[yP j.1.1 g];exact h p (g.trans z)
 |_=>exact q H (aA.refl H)
def BR{vs:List V}{f:V->V}(c:vs.length=xs.length)(h:∀(i:Nat) v,vs[i]? =some v->v=f (xs.getD i .non)):vs=xs.map f:=by
 apply bR;·simp[c]
 ·intro i a d;have b:i<xs.length:=by lia
  have :=h i vs[i] (by simp[a]);rw[this,bQ,af,ae b];rfl
theorem yg:∀(l:List Str),(l.map (fo:Str->Key)).Nodup↔l.Nodup
 | []=>by simp
 |x::l=>by
  rw[a8,cG,cG,yg l];have e:fo x∈l.map (fo:Str->Key)↔x∈l:=by
   constructor
   ·intro h;obtain⟨y,a,e⟩:=aJ.mp h;injection e with e
    rw[<-e];exact a
   ·exact fun h=>aJ.mpr ⟨x,h,rfl⟩
  rw[e]
def lO(h:cN (H a)=some xs):SqL K H a xs:=by
 cases e:H a with
 |none=>rw[e]at h;cases h
 |some o=>
  rw[e]at h;cases o with
  |lst ys=>cases h;exact .inl (.inl e)
  |frz ob u=>cases u<;>first | (cases h;exact .inl (.inr ⟨ob,e⟩)) |cases h
  |_=>cases h
def JC(o:Option HO):jC (iS o) "list"=(cN o).isSome:=by
 cases o with
 |none=>rfl
 |some o=>
  cases o with
  |frz ob u=>cases u<;>rfl
  |_=>rfl
abbrev aR(H:Hp):V->Str
 |.ref a=>match cA (H a)with
  |some (.str z::_)=>z
  |_=>""
 |_=>""
abbrev bB(H:Hp):V->Nat
 |.ref a=>match cA (H a)with
  |some [_,.ref b]=>(cA (H b)).elim 0 eL
  |_=>0
 |_=>0
def hV(h:cF H x=true):∃a z b ys,x=.ref a/\H a=some (.tup [.str z,.ref b])/\H b=some (.tup ys)/\eO z=true/\ys.length<=60/\(∀y∈ys,bJ y=true)/\aR H x=z/\bB H x=ys.length:=by
 cases x with
 |ref a=>
  have d:(match cA (H a)with |some [n,r]=>isName n&&bT H r|_=>false)=true:=h;split at d
  ·rename_i n r e;rw[az]at d;obtain⟨f,g⟩:=d;cases n with
   |str z=>
    cases r with
    |ref b=>
     have c:(match cA (H b)with |some xs=>decide (xs.length<=60)&&xs.all bJ|none=>false)=true:=g;split at c
     ·rename_i ys eb;rw[az,decide_eq_true_eq,bg]at c;refine⟨a,z,b,ys,rfl,mM e,mM eb,f,c.1,c.2,?_,?_⟩;·show(match cA (H a)with |some (.str z::_)=>z|_=>"")=z;rw[e]
      ·show(match cA (H a)with |some [_,.ref b]=>(cA (H b)).elim 0 eL|_=>0)=ys.length;rw[e];show(cA (H b)).elim 0 eL=ys.length;rw[eb];rfl
     ·cases c
    |_=>cases g
   |_=>cases f
  ·cases d
 |_=>cases h
abbrev bN(H:Hp):V->Bool
 |.ref a=>match cN (H a)with
  |some xs=>decide (xs.length<=40)&&(xs.all (cF H)&&(decide ((xs.map (aR H)).Nodup)&&decide (∀y∈xs,∀z∈xs,bB H y=bB H z)))
  |none=>false
 |_=>false
def spT:Sp:=fun vs H Q _=>∃x,vs=[x]/\Kn4 H x/\∀H',aA H H'->Q (.bl (bN H x)) H'
def AW{G:Gam}(g1:G.fn "is_copy" 1=some (spC,[]))(v1:G.val "MOST_COPIES"=some (.int 40)):
  Sat G K spT wV vV:=by
 rintro vs H Q c0 ⟨a0,rfl,W,q⟩;unfold wV;change wpB G K _ _ _ [some a0,none,none] H;ext;refine isi W.1.1 .list ⟨_,rfl,?_⟩;rw[show Ty.t .list="list" from rfl];cases a0 with
 |ref a=>
  show if(!jC (iS (H a)) "list")=true then _ else _
  rw[JC];have x:∀f,aA H f->Q (.bl (match cN (H a)with |some xs=>decide (xs.length<=40)&&(xs.all (cF H)&&(decide ((xs.map (aR H)).Nodup)&&decide (∀y∈xs,∀z∈xs,bB H y=bB H z))) |none=>false)) f:=q;cases e0:cN (H a)with
  |none=>rw[e0]at x;exact x H (aA.refl H)
  |some xs=>
   rw[e0]at x;obtain⟨hl,hy⟩:=W.2 a xs rfl e0;have L:xs.length<=sizeLine:=aF hl Ec;simp only[fS,gv,aX,if_false];refine Or.inl ⟨a,xs,rfl,.inl (lO e0),_,v1,?_⟩;rw[F8];refine⟨_,rfl,?_⟩;by_cases hle:xs.length<=40
   ·rw[decide_eq_false (by lia:¬(40:Int)<xs.length),if_neg ao];have m:∀f,aA H f->Q (.bl (xs.all (cF H)&&(decide ((xs.map (aR H)).Nodup)&&decide (∀y∈xs,∀z∈xs,bB H y=bB H z)))) f:=fun f s'=>by have z:Q (.bl (decide (xs.length<=40)&&(xs.all (cF H)&&(decide ((xs.map (aR H)).Nodup)&&decide (∀y∈xs,∀z∈xs,bB H y=bB H z))))) f:=x f s';rw[decide_eq_true hle,eM]at z;exact z
    have B:∀{r:Hp},aA H r->SqL K r a xs:=fun n=>n.seq (lO e0);refine dF (dc rfl (lO e0) (d7 eE L (fun r n=>B n) (fun i v _=>v=.bl (cF H (xs.getD i .non))) (fun _ _ _ _ _ h=>h) (fun g=>∃t,g=[t]) ⟨none,rfl⟩ ?_ ?_));·rintro i y g T R hi ⟨t,rfl⟩ e d k;have Y:=hy y (aI d);exact⟨_,_,g1,y,rfl,y,rfl,Y.same e,fun s A=>k _ _ _ ⟨_,rfl⟩ A (by rw[getD_some d,pv Y e])⟩
    intro vs S l b5 hF s2 b0;have a1:=bool_list b5 hF;subst a1;refine⟨l,_,rfl,SqL.of aq,_,rfl,?_⟩;rw[sy xs .non (cF H)];have e:aA H (upd S l (.lst (((aE xs.length).map fun i=>cF H (xs.getD i .non)).map V.bl))):=s2.trans (au b0);generalize upd S l (.lst (((aE xs.length).map fun i=>cF H (xs.getD i .non)).map V.bl))=T at e;cases ea:xs.all (cF H)with
    |false=>rw[ea,cT]at m;rw[if_pos (by rfl)];exact m T e
    |true=>
     rw[ea,eM]at m;rw[if_neg (by simp)];rw[bg]at ea;have sh:∀{i:Nat}{y:V},xs[i]? =some y->∃a z b o,y=.ref a/\H a=some (.tup [.str z,.ref b])/\H b=some (.tup o)/\aR H y=z/\bB H y=o.length:=fun d=>by obtain⟨a,z,b,o,j,D,E,_,_,_,h7,h8⟩:=hV (ea _ (aI d));exact⟨a,z,b,o,j,D,E,h7,h8⟩
     refine dF (dc rfl (B e) (d7 eE L (fun r n=>B (e.trans n)) (fun i v _=>v=.str (aR H (xs.getD i .non))) (fun _ _ _ _ _ h=>h) (fun g=>∃t u,g=[t,u]) ⟨none,none,rfl⟩ ?_ ?_));·rintro i y g s R hi ⟨t,u,rfl⟩ A d k;obtain⟨b,z,c,o,rfl,j,D,E,U⟩:=sh d;refine⟨b,_,rfl,(e.trans A).tup (SqT.of j),rfl,_,_,rfl,_,_,rfl,rfl,_,rfl,k _ _ _ ⟨_,_,rfl⟩ (aA.refl _) ?_⟩;rw[getD_some d,E]
     intro b8 s l1 b6 a4 A b1;have e1:b8=xs.map fun y=>V.str (aR H y):=BR b6 a4;subst e1;have p:aA H (upd s l1 (.lst (xs.map fun y=>V.str (aR H y)))):=e.trans (A.trans (au b1));have O:SqL K (upd s l1 (.lst (xs.map fun y=>V.str (aR H y)))) l1 (xs.map fun y=>V.str (aR H y)):=SqL.of aq;generalize upd s l1 (.lst (xs.map fun y=>V.str (aR H y)))=H5 at p O;refine dF (dc rfl (B p) (d7 eE L (fun r n=>B (p.trans n)) (fun i v _=>v=.int (bB H (xs.getD i .non))) (fun _ _ _ _ _ h=>h) (fun g=>∃t u,g=[t,u]) ⟨none,none,rfl⟩ ?_ ?_));·rintro i y g C R hi ⟨t,u,rfl⟩ F d k;obtain⟨b,z,c,o,rfl,j,D,E,U⟩:=sh d;refine⟨b,_,rfl,(p.trans F).tup (SqT.of j),rfl,_,_,rfl,_,_,rfl,rfl,_,rfl,Or.inl ⟨c,o,rfl,.inr ((p.trans F).tup (SqT.of D)),k _ _ _ ⟨_,_,rfl⟩ (aA.refl _) ?_⟩⟩;rw[getD_some d,U]
     intro b9 C l2 b7 a5 F b2;have e2:b9=xs.map fun y=>V.int (bB H y):=BR b7 a5;subst e2;have I:aA H5 (upd C l2 (.lst (xs.map fun y=>V.int (bB H y)))):=F.trans (au b2);have Z:SqL K (upd C l2 (.lst (xs.map fun y=>V.int (bB H y)))) l2 (xs.map fun y=>V.int (bB H y)):=SqL.of aq;generalize upd C l2 (.lst (xs.map fun y=>V.int (bB H y)))=H7 at I Z;have a2:(xs.map fun y=>(fo (aR H y):Key)).map kV=xs.map fun y=>V.str (aR H y):=by rw[cD];rfl
     have a3:(xs.map fun y=>(fq (bB H y:Int):Key)).map kV=xs.map fun y=>V.int (bB H y):=by rw[cD];rfl
     refine⟨l1,xs.map fun y=>(fo (aR H y):Key),rfl,by rw[a2];exact I.seq O,by rw[ai];lia,fun w a6=>?_⟩;refine .inr (.inr ⟨w,_,rfl,aq,?_⟩);have J:aA H7 (upd H7 w (_root_.Q.DH w (_root_.Q.met (xs.map fun y=>(fo (aR H y):Key))).length)):=au a6;generalize upd H7 w (_root_.Q.DH w (_root_.Q.met (xs.map fun y=>(fo (aR H y):Key))).length)=H8 at J;refine Or.inl ⟨l1,_,rfl,.inl (J.seq (I.seq O)),?_⟩;show gR K .Eq (.int ((_root_.Q.met (xs.map fun y=>(fo (aR H y):Key))).length:Int)) (.int ((xs.map fun y=>V.str (aR H y)).length:Int)) H8 _;rw[jD];refine⟨_,rfl,?_⟩;have b3:decide (((_root_.Q.met (xs.map fun y=>(fo (aR H y):Key))).length:Int)=((xs.map fun y=>V.str (aR H y)).length:Int))=decide ((xs.map (aR H)).Nodup):=by
      rw[decide_eq_decide,ai];have X:(xs.map fun y=>(fo (aR H y):Key)).Nodup↔(xs.map (aR H)).Nodup:=by
       have :(xs.map fun y=>(fo (aR H y):Key))=(xs.map (aR H)).map fo:=by rw[cD];rfl
       rw[this];exact yg _
      constructor;·intro z;refine X.mp (_root_.Q.zM ?_);rw[ai];exact Int.ofNat.inj z
      ·intro z;rw[_root_.Q.HF (X.mpr z),ai]
     rw[b3];have s9:aA H H8:=p.trans (I.trans J);cases en:decide ((xs.map (aR H)).Nodup)with
     |false=>rw[en,cT]at m;rw[if_neg ao];exact m H8 s9
     |true=>
      rw[en,eM]at m;rw[if_pos rfl];refine⟨l2,xs.map fun y=>(fq (bB H y:Int):Key),rfl,by rw[a3];exact J.seq Z,by rw[ai];lia,fun c2 a7=>?_⟩;refine .inr (.inr ⟨c2,_,rfl,aq,?_⟩);show gR K .LtE (.int ((_root_.Q.met (xs.map fun y=>(fq (bB H y:Int):Key))).length:Int)) (.int 1) _ Q;rw[Ly];have b4:decide (((_root_.Q.met (xs.map fun y=>(fq (bB H y:Int):Key))).length:Int)<=1)=decide (∀y∈xs,∀z∈xs,bB H y=bB H z):=by
       rw[decide_eq_decide];have j:((_root_.Q.met (xs.map fun y=>(fq (bB H y:Int):Key))).length:Int)<=1↔(_root_.Q.met (xs.map fun y=>(fq (bB H y:Int):Key))).length<=1:=by lia
       rw[j,_root_.Q.met_one];constructor;·intro z y M P N;have :=z _ (aJ.mpr ⟨y,M,rfl⟩) _ (aJ.mpr ⟨P,N,rfl⟩);injection this with this;lia
       ·intro z k1 a8 k2 a9;obtain⟨y,M,rfl⟩:=aJ.mp a8;obtain⟨P,N,rfl⟩:=aJ.mp a9;rw[z y M P N]
      rw[b4];exact m _ (s9.trans (au a7))
   ·rw[decide_eq_true (by lia:(40:Int)<xs.length),if_pos rfl];have q1:Q (.bl (decide (xs.length<=40)&&(xs.all (cF H)&&(decide ((xs.map (aR H)).Nodup)&&decide (∀y∈xs,∀z∈xs,bB H y=bB H z))))) H:=x H (aA.refl H);rw[decide_eq_false hle,cT]at q1;exact q1
 |_=>exact q H (aA.refl H)
def XC(K:ah)(C:Addr):Prop:=b7 K (.ref C)=true/\PySem.W.excIn K C bmV "ValueError.__new__"=true
theorem Kn4.same(h:Kn4 H x)(s:aA H H'):Kn4 H' x:=⟨h.1.same s,fun a c e b=>by
 subst e;have d:cN (H a)=some c:=by
  cases e:H a with
  |none=>exact absurd e h.1.1.some
  |some o=>rw[s a o e]at b;exact b
 obtain⟨l,k⟩:=h.2 a c rfl d;exact⟨l,fun y f=>(k y f).same s⟩⟩
def vP:(1:Nat)<=sizeLine:=by decide
def y9(C:Addr):Sp:=fun vs H Q E=>∃x,vs=[x]/\Kn4 H x/\(bN H x=true->∀H',aA H H'->Q .non H')/\(bN H x=false->∀H',aA H H'->E (.ref C) none H')
def xv{G:Gam}(d:G.fn "is_table" 1=some (spT,[]))(v1:G.val "NoTable"=some (.ref C))(c:XC K C):
  Sat G K (y9 C) rT rn:=by
 rintro i H Q E ⟨x,rfl,f,g,h⟩;unfold rT;change wpB G K _ _ _ [some x] H;ext;refine⟨_,_,d,x,rfl,f,fun a b=>⟨_,rfl,?_⟩⟩;cases e:bN H x with
 |true=>rw[if_neg (by simp)];exact g e a b
 |false=>rw[if_pos (by rfl)];exact⟨C,v1,c.1,c.2,vP,h e a b⟩
abbrev count(H:Hp):V->Nat
 |.ref a=>match cN (H a)with
  |some (y::_)=>bB H y
  |_=>0
 |_=>0
def dD(h:bN H x=true):∃a xs,x=.ref a/\cN (H a)=some xs/\xs.length<=40/\(∀y∈xs,cF H y=true)/\(xs.map (aR H)).Nodup/\∀y∈xs,bB H y=count H x:=by
 cases x with
 |ref a=>
  have b:(match cN (H a)with |some xs=>decide (xs.length<=40)&&(xs.all (cF H)&&(decide ((xs.map (aR H)).Nodup)&&decide (∀y∈xs,∀z∈xs,bB H y=bB H z))) |none=>false)=true:=h;split at b
  ·rename_i xs e;rw[az,az,az,decide_eq_true_eq,decide_eq_true_eq,decide_eq_true_eq,bg]at b;obtain⟨d,f,g,i⟩:=b;refine⟨a,xs,rfl,e,d,f,g,fun y c=>?_⟩;show _=(match cN (H a)with |some (y::_)=>bB H y|_=>0);rw[e];cases xs with
   |nil=>cases c
   |cons z r=>exact i y c z (.head _)
  ·cases b
 |_=>cases h
def uS(C:Addr):Sp:=fun vs H Q E=>∃x,vs=[x]/\Kn4 H x/\(bN H x=true->∀H',aA H H'->Q (.int (count H x)) H')/\(bN H x=false->∀H',aA H H'->E (.ref C) none H')
def vh{G:Gam}(m:G.fn "need_table" 1=some (y9 C,[])):
  Sat G K (uS C) pU pO:=by
 rintro D H Q E ⟨x,rfl,p,i,u⟩;unfold pU;change wpB G K _ _ _ [some x] H;ext;refine⟨_,_,m,x,rfl,p,fun e f d=>?_,u⟩;obtain⟨a,g,rfl,h,A,n,B,o⟩:=dD e;have k:SqL K f a g:=d.seq (lO h);refine Or.inl ⟨a,g,rfl,.inl k,?_⟩;show gR K .Eq (.int (g.length:Int)) (.int 0) f _;rw[jD];refine⟨_,rfl,?_⟩;cases g with
 |nil=>
  rw[if_pos (by rfl)];have z:=i e f d;have l:count H (.ref a)=0:=by show(match cN (H a)with |some (y::_)=>bB H y|_=>0)=0;rw[h]
  rw[l]at z;exact z
 |cons y r=>rw[if_neg (by simp;lia)];obtain⟨b,z,c,v,rfl,q,s,_,_,_,_,t⟩:=hV (n y (.head _));refine .inl ⟨a,_,0,.ref b,rfl,rfl,k,cC (j:=0) rfl,?_⟩;refine .inr (.inl ⟨b,_,1,.ref c,rfl,rfl,d.tup (SqT.of q),rfl,?_⟩);refine Or.inl ⟨c,v,rfl,.inr (d.tup (SqT.of s)),?_⟩;have w:=i e f d;rw[<-o _ (.head _),t]at w;exact w
abbrev isPlace(H:Hp)(x:V):V->Bool
 |.int i=>decide (0<=i/\i<count H x)
 |_=>false
abbrev sW(H:Hp):V->List V
 |.ref a=>match cA (H a)with
  |some [_,.ref b]=>(cA (H b)).getD []
  |_=>[]
 |_=>[]
abbrev at_(H:Hp)(i:Int)(y:V):V:=(sW H y).getD i.toNat .non
def jJ(h:cF H x=true):∃a b,x=.ref a/\H a=some (.tup [.str (aR H x),.ref b])/\H b=some (.tup (sW H x))/\(sW H x).length=bB H x/\∀y∈sW H x,bJ y=true:=by
 obtain⟨a,z,b,c,rfl,d,f,_,_,g,i,j⟩:=hV h;have e:sW H (.ref a)=c:=by show(match cA (H a)with |some [_,.ref b]=>(cA (H b)).getD [] |_=>[])=c;rw[d];show(cA (H b)).getD []=c;rw[f];rfl
 refine⟨a,b,rfl,by rw[i];exact d,by rw[e];exact f,by rw[e,j],by rw[e];exact g⟩
def EK{i:Int}(h:cF H y=true)(g:bB H y=count H x)(hi:isPlace H x (.int i)=true):atI (sW H y) i=some (at_ H i y)/\bJ (at_ H i y)=true:=by
 have k:0<=i/\i<count H x:=of_decide_eq_true hi;obtain⟨a,b,_,_,_,f,c⟩:=jJ h;have d:i.toNat<(sW H y).length:=by lia
 have e:(sW H y)[i.toNat]? =some (at_ H i y):=by unfold at_;rw[af,ae d];rfl
 refine⟨?_,c _ (aI e)⟩;have :=cC (j:=i.toNat) e
 rwa [show((i.toNat:Nat):Int)=i by lia]at this
def i9(h:bJ v=true):v=.int 0\/v=.int 1:=by
 cases v with
 |int i=>
  have a:(i==0||i==1)=true:=h;rw[b8,beq_iff_eq,beq_iff_eq]at a;rcases a with rfl|rfl;·exact .inl rfl
  ·exact .inr rfl
 |_=>cases h
def Aj{J:It}{C:Hp->Prop}{g:TG}{K:TT}{L:TE}{Q:VK}{N:L2.St}{w:Type}{ds:List w}(Y:xs.length=ds.length)(S:tL J xs.length (fun i x _=>xs[i]? =some x) C)(hn:xs.length<=sizeLine)(U:∀H,aA H1 H->C H)
  (t:w->Bool)(f:V->w->V)(T:L2.St->Prop)(R:T N)
  (step:∀(i:Nat) x a k h (E:L2.St->V->Hp->Prop)(D:L2.St->Hp->Prop),xs[i]? =some x->ds[i]? =some a->T k->aA H1 h->(∀d j,T d->aA h j->t a=true->E d (f x a) j)->(∀d j,T d->aA h j->t a=false->D d j)->
   g x k h fun o O=>K o O fun b B=>if b=true then L o B (E o)else D o B)
  (P:∀H2 l,aA H1 H2->H2 l=none->Q (.ref l) (upd H2 l (.lst (((xs.zip ds).filter fun p=>t p.2).map fun p=>f p.1 p.2)))):C0 J g K L N H1 Q:=by
 have zl:(xs.zip ds).length=xs.length:=by rw[List.length_zip];lia
 refine⟨fun i m k F H2=>m=xs.length-i/\i<=xs.length/\T k/\F=(((xs.zip ds).take i).filter fun p=>t p.2).map (fun p=>f p.1 p.2)/\aA H1 H2,⟨xs.length,by simp,aM _,R,by simp,aA.refl _⟩,?_⟩;rintro i m k F H2 ⟨rfl,hi,X,rfl,n⟩;have q:=U H2 n;by_cases hlt:i<xs.length
 ·refine .inr ⟨S.go i H2 q hlt,fun d G A=>T d/\G=(((xs.zip ds).take (i+1)).filter fun p=>t p.2).map (fun p=>f p.1 p.2)/\aA H1 A,fun d G A ⟨a,b,c⟩=>⟨xs.length-(i+1),by lia,rfl,hlt,a,b,c⟩,fun x h y=>?_⟩;obtain⟨M,v⟩:=S.yld i H2 x h q hlt y;have I:ds[i]? =some ds[i]:=ae (by lia);have e:(xs.zip ds).take (i+1)=(xs.zip ds).take i++[(x,ds[i])]:=by rw[dI,(List.getElem?_zip_eq_some (z:=(x,ds[i]))).mpr ⟨M,I⟩];rfl
  have Z:((((xs.zip ds).take i).filter fun p=>t p.2).map (fun p=>f p.1 p.2)).length<=i:=by rw[ai];refine aF (gw _ _) ?_;rw[cY];lia
  refine step i x _ k h _ _ M I X (n.trans v) (fun d j r s u=>⟨by lia,r,?_,(n.trans v).trans s⟩) (fun d j r s u=>⟨r,?_,(n.trans v).trans s⟩);·rw[e,lH,cH];simp[u]
  ·rw[e,lH,cH];simp[u]
 ·have e:i=xs.length:=by lia
  subst e;rw[<-zl,fK];exact .inl ⟨S.stop _ H2 q (by rw[zl];exact av _),fun l W=>P H2 l n W⟩
def tI{J:It}{p:Hp->Prop}{g:TG}{u:TT}{v:TE}{Q:VK}{w:L2.St}(S:tL J xs.length (fun i x _=>xs[i]? =some x) p)(D:xs.length<=sizeLine)(C:∀H,aA H1 H->p H)
  (t:V->Bool)(f:V->V)(T:L2.St->Prop)(B:T w)
  (step:∀x m c (k:L2.St->V->Hp->Prop)(j:L2.St->Hp->Prop),x∈xs->T m->aA H1 c->(∀e d,T e->aA c d->t x=true->k e (f x) d)->(∀e d,T e->aA c d->t x=false->j e d)->
   g x m c fun n y=>u n y fun b o=>if b=true then v n o (k n)else j n o)
  (A:∀H2 l,aA H1 H2->H2 l=none->Q (.ref l) (upd H2 l (.lst ((xs.filter t).map f)))):C0 J g u v w H1 Q:=by
 refine Aj rfl S D C t (fun _ a=>f a) T B (fun i x a m c k j q r=>?_) fun H2 l s h=>?_;·rw[q]at r;cases r;exact step x m c k j (aI q)
 ·have z:=A H2 l s h;rw[<-nv (l₁:=xs) (l₂:=xs) (av _),kC,cD]at z;exact z
end Cp
namespace Lt
open PySem R
abbrev xC:List Str:=["_law_script","_law_k"]
abbrev pP:List Str:=["_law_script","_law_k"]
abbrev qa:CB:=
  (.cons (.iff (.cmp .Lt (.var 1) (.bfn .len (.cons (.var 0) .nil)))
  (.cons (.ret (.idx (.var 0) (.var 1)))
  .nil)
  .nil)
  (.cons (.ret (.con (.int 0)))
  .nil))
end Lt
namespace Lt
open PySem PySem.Spec PyProof.Rows L2 R Cp
def yx{i j:Int}(h0:0<=j)(a:j<18446744073709551616):EO i j:=.inr ⟨by lia,by lia⟩
def Gn{i j:Int}(h0:0<=i)(a:i<18446744073709551616):EO i j:=.inl ⟨by lia,by lia⟩
def vB(K:ah):Sp:=fun vs H Q _=>∃(a:Addr)(ns:List Int)(k:Nat),vs=[.ref a,.int k]/\SqL K H a (ns.map V.int)/\Q (.int (ns.getD k 0)) H
def wp_cell{G:Gam}:Sat G K (vB K) qa pP:=by
 rintro d H Q E ⟨a,b,k,rfl,c,q⟩;unfold qa;change wpB G K _ _ _ [some (.ref a),some (.int k)] H;ext;refine Or.inl ⟨a,_,rfl,.inl c,?_⟩;show gR K .Lt (.int (k:Int)) (.int ((b.map V.int).length:Int)) H _;rw[FT,ai];refine⟨_,rfl,?_⟩;by_cases hk:k<b.length;·rw[decide_eq_true (by lia:(k:Int)<(b.length:Int)),if_pos rfl];refine .inl ⟨a,_,k,_,rfl,rfl,c,cC (j:=k) (v:=.int (b.getD k 0)) ?_,q⟩;rw[aC,ae hk,af,ae hk];rfl
 ·rw[decide_eq_false (by lia:¬(k:Int)<(b.length:Int)),if_neg ao];rw[af,bX (by lia)]at q;exact q
def short(h:n<=40):n<=sizeLine:=aF h (by decide)
end Lt
namespace Q
open PySem PySem.Spec PySem.W PyProof.Rows L2
theorem Bv(nd:ks.Nodup):(ord ks).Perm (aE ks.length):=by
 unfold ord;split;·exact dU _
 ·have P:=(fN (vj nd) (by lia)).1;have :=eQ.mp P.perm;simpa using this
def range_getD{a:Type}(d:a)(ys:List a):(aE ys.length).map (fun i=>ys.getD i d)=ys:=by
 apply bR;·simp
 ·intro i c b;simp[b]
def fB{a:Type}(d:a){ys:List a}(nd:ks.Nodup)(b:ks.length=ys.length):(sortBy d ks ys).Perm ys:=by unfold sortBy;have h:=(Bv nd).map fun i=>ys.getD i d;rw[b,range_getD]at h;exact h
theorem i8(nd:ks.Nodup):(sortBy ("":Str) ks ks).Pairwise fun a b=>tlt a b=true:=by
 unfold sortBy ord;split
 ·rename_i h;rw[range_getD]
  match ks,h with
  | [],_=>exact .nil
  | [x],_=>simp
  |_::_::_,h=>simp at h;lia
 ·rename_i h;obtain⟨P,U,_⟩:=fN (vj nd) (by lia:1<=ks.length);rw[eY];intro i j hi f d;have m:i<ks.length:=by simpa[P.size]using hi
  have g:j<ks.length:=by simpa[P.size]using f
  have u:=U i j d g;rw[bQ,bQ];have e:∀(k:Nat)(c:k<(run (nX ks) (dQ ks.length)).toList.length),(run (nX ks) (dQ ks.length)).toList[k]=at' (run (nX ks) (dQ ks.length)) k:=fun k c=>by
   have l:k<(run (nX ks) (dQ ks.length)).size:=by simpa using c
   simp[at',l]
  rw[e,e];exact u
def G1{x y:Str}(a:tlt x y=true)(b:tlt y x=true):False:=by have c:=xU a b;unfold tlt at c;exact List.lt_irrefl _ (of_decide_eq_true c)
theorem k7:∀{l m:List Str},l.Perm m->l.Pairwise (fun a b=>tlt a b=true)->m.Pairwise (fun a b=>tlt a b=true)->l=m
 | [],m,p,_,_=>by rw[List.nil_perm.mp p]
 |x::l,[],p,_,_=>by simpa using p.length_eq
 |x::l,y::m,p,h1,h2=>by
  rw[List.pairwise_cons]at h1 h2;have e:x=y:=by
   by_cases e:x=y;·exact e
   ·have c:x∈m:=by
     have :=p.mem_iff.mp (aL (a:=x) (l:=l));rcases aG.mp this with z|z;·exact absurd z e
     ·exact z
    have d:y∈l:=by
     have :=p.mem_iff.mpr (aL (a:=y) (l:=m));rcases aG.mp this with z|z;·exact absurd z.symm e
     ·exact z
    exact(G1 (h1.1 y d) (h2.1 x c)).elim
  subst e;rw[k7 (List.perm_cons x |>.mp p) h1.2 h2.2]
def tW{c:Type}(d:c)(f:c->Str)(p:c->Bool){ys:List c}(nd:(ys.map f).Nodup):((sortBy d (ys.map f) ys).filter p).map f=sortBy ("":Str) ((ys.filter p).map f) ((ys.filter p).map f):=by
 have g:((ys.filter p).map f).Nodup:=nd.sublist (sM.map _);refine k7 ?_ ?_ (i8 g);·exact(((fB d nd (by simp)).filter p).map f).trans (fB ("":Str) g rfl).symm
 ·have h:((sortBy d (ys.map f) ys).map f).Pairwise fun a b=>tlt a b=true:=by
   have r:=i8 nd;unfold sortBy at r⊢;rw[cD];have e:(ord (ys.map f)).map (f∘fun i=>ys.getD i d)=(ord (ys.map f)).map fun i=>(ys.map f).getD i ("":Str):=by
    apply cJ
    intro i hi;have j:i<ys.length:=by have :=(Bv nd).mem_iff.mp hi;simpa using this
    show f (ys.getD i d)=(ys.map f).getD i ("":Str);rw[af,af,aC,ae j];rfl
   rw[e];exact r
  exact h.sublist (sM.map _)
end Q
namespace Lt
open PySem PySem.Spec PyProof.Rows L2 R Cp
def Hz(h:Known H x)(s:aA H H'):aR H' x=aR H x:=by
 cases x with
 |ref a=>
  show(match cA (H' a)with |some (.str z::_)=>z|_=>"")=(match cA (H a)with |some (.str z::_)=>z|_=>"");cases e:H a with
  |none=>exact absurd e h.some
  |some o=>rw[s a o e]
 |_=>rfl
def ji(h:Kn3 H x)(s:aA H H'):bB H' x=bB H x:=by
 cases x with
 |ref a=>
  show(match cA (H' a)with |some [_,.ref b]=>(cA (H' b)).elim 0 eL|_=>0)=(match cA (H a)with |some [_,.ref b]=>(cA (H b)).elim 0 eL|_=>0);cases e:H a with
  |none=>exact absurd e h.1.1.some
  |some o=>
   rw[s a o e];cases o with
   |tup xs=>
    match xs with
    | []=>rfl
    | [_]=>rfl
    | [n,r]=>
     cases r with
     |ref b=>
      have k:=(h.2 a _ rfl e).2 (.ref b) (by simp);show(cA (H' b)).elim 0 eL=(cA (H b)).elim 0 eL;cases eb:H b with
      |none=>exact absurd eb k.1.1.some
      |some ob=>rw[s b ob eb]
     |_=>rfl
    |_::y::_::_=>cases y<;>rfl
   |_=>rfl
 |_=>rfl
def Lq(h:Known H (.ref a))(s:aA H H'):cN (H' a)=cN (H a):=by
 cases e:H a with
 |none=>exact absurd e h.some
 |some o=>rw[s a o e]
def iX(h:Kn4 H x)(s:aA H H'):bN H' x=bN H x:=by
 cases x with
 |ref a=>
  show(match cN (H' a)with |some xs=>decide (xs.length<=40)&&(xs.all (cF H')&&(decide ((xs.map (aR H')).Nodup)&&decide (∀y∈xs,∀z∈xs,bB H' y=bB H' z))) |none=>false)=
   (match cN (H a)with |some xs=>decide (xs.length<=40)&&(xs.all (cF H)&&(decide ((xs.map (aR H)).Nodup)&&decide (∀y∈xs,∀z∈xs,bB H y=bB H z))) |none=>false)
  rw[Lq h.1.1 s];cases e:cN (H a)with
  |none=>rfl
  |some xs=>
   have c:=(h.2 a xs rfl e).2;have f:xs.all (cF H')=xs.all (cF H):=by rw[eB,bg,bg];exact⟨fun z y b=>by rw[<-pv (c y b) s];exact z y b,fun z y b=>by rw[pv (c y b) s];exact z y b⟩
   have g:xs.map (aR H')=xs.map (aR H):=cJ fun y b=>Hz (c y b).1.1 s;have i:decide (∀y∈xs,∀z∈xs,bB H' y=bB H' z)=decide (∀y∈xs,∀z∈xs,bB H y=bB H z):=by rw[decide_eq_decide];exact⟨fun w y b z d=>by rw[<-ji (c y b) s,<-ji (c z d) s];exact w y b z d,fun w y b z d=>by rw[ji (c y b) s,ji (c z d) s];exact w y b z d⟩
   show(decide (xs.length<=40)&&(xs.all (cF H')&&(decide ((xs.map (aR H')).Nodup)&&decide (∀y∈xs,∀z∈xs,bB H' y=bB H' z))))=(decide (xs.length<=40)&&(xs.all (cF H)&&(decide ((xs.map (aR H)).Nodup)&&decide (∀y∈xs,∀z∈xs,bB H y=bB H z))));rw[f,g,i]
 |_=>rfl
mutual
theorem wF:∀d:D,eqD d d=true
 |.non=>rfl
 |.bl b=>by cases b<;>rfl
 |.int i=>by show(i==i)=true;simp
 |.str x=>by show(x==x)=true;simp
 |.tup ds=>tG ds
 |.lst ds=>tG ds
theorem tG:∀ds:List D,n9 ds ds=true
 | []=>rfl
 |d::ds=>by show(eqD d d&&n9 ds ds)=true;rw[wF d,tG ds];rfl
end
end Lt
namespace L2
open PySem PySem.Spec PyProof.Rows
section
variable {κ α:Type}[DecidableEq κ](kf:α->κ)(vf:α->V)
abbrev rL(ad:List (κ×V))(y:α):List (κ×V):=if(eN ad (kf y)).isSome then ad else putK ad (kf y) (vf y)
abbrev fnd(ys:List α):List (κ×V):=ys.foldl (rL kf vf) []
theorem LY(a:List (κ×V))(y:α)(k:κ):eN (rL kf vf a y) k=if(eN a k).isSome then eN a k else if k=kf y then some (vf y)else none:=by
 unfold rL;cases h:eN a (kf y)with
 |some v=>
  show eN a k=_;cases hk:eN a k with
  |some u=>rfl
  |none=>rw[if_neg (by simp),if_neg];intro e;rw[e,h]at hk;cases hk
 |none=>
  rw[if_neg (by simp),Ji];by_cases e:k=kf y;·rw[if_pos e,e,h];simp
  ·rw[if_neg e];cases hk:eN a k<;>simp[e]
theorem fndS_nd{a:List (κ×V)}(y:α)(h:(a.map (·.1)).Nodup):((rL kf vf a y).map (·.1)).Nodup:=by
 unfold rL;cases e:eN a (kf y)with
 |some v=>exact h
 |none=>rw[if_neg (by simp)];exact nd_putK _ h e
theorem LZ(a:List (κ×V))(y:α):(rL kf vf a y).length<=a.length+1:=by
 unfold rL;split;·lia
 ·exact nZ _ _ _
theorem B9:∀(ys:List α)(ad:List (κ×V)),(ys.foldl (rL kf vf) ad).length<=ad.length+ys.length
 | [],ad=>av _
 |y::ys,ad=>by have :=B9 ys (rL kf vf ad y);have :=LZ kf vf ad y;simp only[dO,ba];lia
theorem Ge:∀(ys:List α){ad:List (κ×V)},(ad.map (·.1)).Nodup->((ys.foldl (rL kf vf) ad).map (·.1)).Nodup
 | [],_,h=>h
 |y::ys,_,h=>Ge ys (fndS_nd kf vf y h)
theorem B8:∀(ys:List α)(ad:List (κ×V))(k:κ),eN (ys.foldl (rL kf vf) ad) k=if(eN ad k).isSome then eN ad k else(ys.find? fun y=>decide (kf y=k)).map vf
 | [],ad,k=>by show eN ad k=_;cases eN ad k<;>rfl
 |y::ys,ad,k=>by
  rw[dO,B8 ys,LY];cases hk:eN ad k with
  |some u=>simp
  |none=>
   simp only[IV,aX,if_false];by_cases e:k=kf y;·rw[if_pos e,iO];simp[e]
   ·have a:¬kf y=k:=fun z=>e z.symm;rw[if_neg e,iO];simp[a]
theorem Ab(ys:List α)(k:κ):eN (fnd kf vf ys) k=(ys.find? fun y=>decide (kf y=k)).map vf:=by unfold fnd;rw[B8];rfl
theorem fnd_nd(ys:List α):((fnd kf vf ys).map (·.1)).Nodup:=Ge kf vf ys jd
theorem fnd_len(ys:List α):(fnd kf vf ys).length<=ys.length:=by have :=B9 kf vf ys [];rw[kB,xk]at this;exact this
theorem Ac{ys:List α}{k:κ}:k∈(fnd kf vf ys).map (·.1)↔∃y∈ys,kf y=k:=by
 constructor
 ·intro h;cases e:eN (fnd kf vf ys) k with
  |none=>exact absurd h (AX e)
  |some v=>rw[Ab]at e;obtain⟨y,a,_⟩:=iW.mp e;exact⟨y,List.mem_of_find?_eq_some a,by have :=List.find?_some a;simpa using this⟩
 ·rintro⟨y,a,e⟩;cases h:eN (fnd kf vf ys) k with
  |some v=>exact valV_in h
  |none=>rw[Ab,Option.map_eq_none_iff,uA]at h;exact absurd e (by have :=h y a;simpa using this)
theorem K9:∀{l m:List κ},l.Nodup->(∀x∈l,x∈m)->l.length<=m.length
 | [],_,_,_=>aM _
 |a::l,m,h,hs=>by obtain⟨d,f⟩:=cG.mp h;have b:=hs a (.head _);have :=K9 (l:=l) (m:=m.erase a) f fun x c=>(qL (fun e:x=a=>d (by rw[<-e];exact c))).mpr (hs x (.tail _ c));rw[List.length_erase_of_mem b]at this;have :=List.length_pos_of_mem b;simp only[ba];lia
theorem fnd_all{ys:List α}{ks:List κ}(b:ks.Nodup)(l:∀y∈ys,kf y∈ks):(fnd kf vf ys).length<ks.length↔∃k∈ks,∀y∈ys,kf y≠k:=by
 have m:∀k∈(fnd kf vf ys).map (·.1),k∈ks:=fun k h=>by obtain⟨y,a,e⟩:=(Ac kf vf).mp h;rw[<-e];exact l y a
 have i:=fnd_nd kf vf ys;constructor
 ·intro n;apply gD
  intro j;have d:∀k∈ks,k∈(fnd kf vf ys).map (·.1):=fun k b=>by
   apply gD
   intro c;exact j ⟨k,b,fun y a e=>c ((Ac kf vf).mpr ⟨y,a,e⟩)⟩
  have :=K9 b d;rw[ai]at this;lia
 ·rintro⟨k,g,f⟩;have c:k∉(fnd kf vf ys).map (·.1):=fun h=>by obtain⟨y,a,e⟩:=(Ac kf vf).mp h;exact f y a e
  have :(k::(fnd kf vf ys).map (·.1)).Nodup:=cG.mpr ⟨c,i⟩;have :=K9 this (fun x hx=>by
   rcases aG.mp hx with rfl|hx;·exact g
   ·exact m x hx)
  rw[ba,ai]at this;lia
end
end L2
namespace Kc
open PySem R
abbrev sY:List Str:=["copies","one","other"]
abbrev lM:List Str:=["copies","one","other","found","name","readings"]
abbrev mf:CB:=
  (.cons (.asg (.name 3) (.dicT))
  (.cons (.forr (.tup (.cons (.name 4) (.cons (.name 5) .nil))) (.seq (.var 0))
  (.cons (.expr (.setd (.var 3) (.tup (.cons (.idx (.var 5) (.var 1)) (.cons (.idx (.var 5) (.var 2)) .nil))) (.var 4)))
  .nil))
  (.cons (.iff (.cmp .Lt (.bfn .lend (.cons (.var 3) .nil)) (.bfn .len (.cons (.glo "KINDS") .nil)))
  (.cons (.ret (.con .none))
  .nil)
  .nil)
  (.cons (.ret (.bfn .tuple (.cons (.comp ["kind"] [3] (.name 0) (.seq (.glo "KINDS")) .no (.idxd (.var 1) (.var 0))) .nil)))
  .nil))))
end Kc
namespace Kc
open PySem PySem.Spec PyProof.Rows L2 R Cp Lt
def gX{J:It}{l:Nat->V->Hp->Prop}{k:Hp->Prop}{g:TG}{tb:TS}{D:Ends}(S:tL J n l k)(e:Nat->L2.St->Hp->Prop)(h0:e 0 σ H)(o:∀i σ H,i<=n->e i σ H->k H)
  (p:∀i x σ H H' (j:Ends),i<n->e i σ H->l i x H'->aA H H'->(∀f H2,e (i+1) f H2->j.nx f H2)->j.rt=D.rt->g x σ H' fun f H2=>tb j f H2)(m:∀σ H,e n σ H->D.nx σ H):ForB J g tb D σ H:=
 Gd S e h0 o (fun i x σ H H' a b c d=>p i x σ H H' _ a b c d (fun _ _ h=>h) rfl) m
def iI(h:us.length=1):∃a,us=[a]:=by
 cases us with
 |nil=>exact nomatch h
 |cons a r=>exact⟨a,by rw[bA.mp (jU h)]⟩
def gd(h:us.length=2):∃a b,us=[a,b]:=by
 cases us with
 |nil=>exact nomatch h
 |cons a r=>obtain⟨b,e⟩:=iI (jU h);exact⟨a,b,by rw[e]⟩
def qR(h:us.length=3):∃a b c,us=[a,b,c]:=by
 cases us with
 |nil=>exact nomatch h
 |cons a r=>obtain⟨b,c,e⟩:=gd (jU h);exact⟨a,b,c,by rw[e]⟩
def de{b:Type}{F:b->Prop}{vs:List V}(h:∃a,F a)(k:∀a,F a->vs.length=n):vs.length=n:=let⟨a,f⟩:=h;k a f
def fT{P:Prop}{l vs:List V}(h:vs=l/\P)(e:l.length=n):vs.length=n:=by rw[h.1];exact e
abbrev num(H:Hp)(i:Int)(y:V):Int:=match at_ H i y with
 |.int n=>n
 |_=>0
abbrev KP:List (Int×Int):=[(0,0),(0,1),(1,0),(1,1)]
abbrev qv(k:Int×Int):List Key:=[.inl k.1,.inl k.2]
abbrev kf(H:Hp)(i j:Int)(y:V):List Key:=qv (num H i y,num H j y)
abbrev lh(H:Hp)(xs:List V)(i j:Int):Bool:=KP.all fun k=>xs.any fun y=>decide (num H i y=k.1/\num H j y=k.2)
abbrev firstOf(H:Hp)(xs:List V)(i j:Int)(k:Int×Int):V:=((xs.find? fun y=>decide (kf H i j y=qv k)).map fun y=>V.str (aR H y)).getD .non
def Kinds(K:ah)(kd:Addr):Prop:=∃a b c d:Addr,∀H:Hp,SqT K H kd [.ref a,.ref b,.ref c,.ref d]/\SqT K H a [.int 0,.int 0]/\SqT K H b [.int 0,.int 1]/\SqT K H c [.int 1,.int 0]/\SqT K H d [.int 1,.int 1]
theorem Kinds.at(h:Kinds K kd):∃a:List V,a.length=4/\(∀H:Hp,SqT K H kd a)/\∀(H:Hp)(i:Nat) x,a[i]? =some x->∃(b:Addr)(k:Int×Int),x=.ref b/\KP[i]? =some k/\SqT K H b ((qv k).map kV):=by
 obtain⟨c,d,f,g,h⟩:=h;refine⟨[.ref c,.ref d,.ref f,.ref g],rfl,fun H=>(h H).1,fun H i x e=>?_⟩;obtain⟨_,j,l,m,o⟩:=h H
 match i,e with
 | 0,e=>cases e;exact⟨c,_,rfl,rfl,j⟩
 | 1,e=>cases e;exact⟨d,_,rfl,rfl,l⟩
 | 2,e=>cases e;exact⟨f,_,rfl,rfl,m⟩
 | 3,e=>cases e;exact⟨g,_,rfl,rfl,o⟩
 |n+4,e=>simp at e
def zK{i:Int}(h:cF H y=true)(a:bB H y=count H x)(hi:isPlace H x (.int i)=true):at_ H i y=.int (num H i y)/\(num H i y=0\/num H i y=1):=by
 have :=(EK h a hi).2;unfold num;rcases i9 this with e|e;·rw[e];exact⟨rfl,.inl rfl⟩
 ·rw[e];exact⟨rfl,.inr rfl⟩
def LJ{k l:Int×Int}(h:qv k=qv l):k=l:=by
 unfold qv at h;injection h with h1 h2
 injection h2 with h2 _;injection h1 with h1;injection h2 with h2;exact Prod.ext h1 h2
def LF:(KP.map qv).Nodup:=by decide+kernel
def kf_eq{i j:Int}{k:Int×Int}:kf H i j y=qv k↔(num H i y=k.1/\num H j y=k.2):=by
 constructor;·intro h;have :=LJ h;rw[<-this];exact⟨rfl,rfl⟩
 ·rintro⟨a,b⟩;unfold kf;rw[a,b]
def wy{i j:Int}(b:V->V)(d:∀y∈xs,kf H i j y∈KP.map qv):(fnd (kf H i j) b xs).length<4↔lh H xs i j=false:=by
 rw[show(4:Nat)=(KP.map qv).length from rfl,fnd_all (kf H i j) b LF d];unfold lh;rw[List.all_eq_false];constructor;·rintro⟨k,c,h⟩;obtain⟨p,hp,rfl⟩:=aJ.mp c;refine⟨p,hp,?_⟩;intro z;obtain⟨y,a,e⟩:=cw.mp z;exact h y a (kf_eq.mpr (of_decide_eq_true e))
 ·rintro⟨p,hp,h⟩;refine⟨qv p,aJ.mpr ⟨p,hp,rfl⟩,fun y a e=>h ?_⟩;exact cw.mpr ⟨y,a,decide_eq_true (kf_eq.mp e)⟩
def kf_in{i j:Int}(b:∀y∈xs,cF H y=true)(c:∀y∈xs,bB H y=count H x)(hi:isPlace H x (.int i)=true)(h:isPlace H x (.int j)=true):∀y∈xs,kf H i j y∈KP.map qv:=by intro y a;have d:=(zK (b y a) (c y a) hi).2;have g:=(zK (b y a) (c y a) h).2;unfold kf;refine aJ.mpr ⟨_,?_,rfl⟩;rcases d with e|e<;>rcases g with f|f<;>rw[e,f]<;>simp[KP]
def zd:Sp:=fun vs H Q _=>∃a xs i j b,vs=[.ref a,.int i,.int j]/\aA b H/\bN b (.ref a)=true/\cN (b a)=some xs/\isPlace b (.ref a) (.int i)=true/\isPlace b (.ref a) (.int j)=true/\
 (lh b xs i j=false->∀H',aA H H'->Q .non H')/\(lh b xs i j=true->∀H' l,aA H H'->H l=none->H' l=some (.tup (KP.map (firstOf b xs i j)))->Q (.ref l) H')
def Jd{G:Gam}(v1:G.val "KINDS"=some (.ref kd))(hk:Kinds K kd):
  Sat G K zd mf lM:=by
 rintro O H a6 a5 ⟨a,f,i,j,e,rfl,N,ht,U,hi,J,q1,q2⟩;unfold mf;change wpB G K _ _ _ [some (.ref a),some (.int i),some (.int j),none,none,none] H;ext;intro d S;obtain⟨a',b0,ea,Q,h2,w,h4,A⟩:=dD ht;cases ea;rw[U]at Q;cases Q;obtain⟨as,I,L,a2⟩:=hk.at;have Y:∀{s:Hp},aA e s->SqL K s a f:=fun o=>o.seq (lO U);have X:aA H (upd H d (.dT [])):=au S;refine iJ (dc rfl (Y (N.trans X)) (gX eE (fun k E F=>aA H F/\F d=some (.dT (fnd (kf e i j) (fun y=>V.str (aR e y)) (f.take k)))/\∃u v,E=[some (.ref a),some (.int i),some (.int j),some (.ref d),u,v])
  ⟨X,aq,none,none,rfl⟩ (fun k E F _ p=>Y (N.trans p.1)) ?_ ?_))
 ·rintro k y E s m D2 a9 ⟨o,q,u,v,rfl⟩ C g R _;have h:=aI C;have ei:=zK (w y h) (A y h) hi;have ej:=zK (w y h) (A y h) J;have gi:=(EK (w y h) (A y h) hi).1;have gj:=(EK (w y h) (A y h) J).1;obtain⟨b,c,rfl,k1,W,k3,k4⟩:=jJ (w y h);have x:=N.trans (o.trans g);refine⟨b,_,rfl,x.tup (SqT.of k1),rfl,_,_,rfl,_,_,rfl,rfl,?_⟩;ext;refine⟨.inr (.inr (.inl ⟨rfl,.inr ⟨_,g _ _ q⟩⟩)),?_⟩;refine .inr (.inl ⟨c,_,i,_,rfl,rfl,x.tup (SqT.of W),gi,?_⟩);refine .inr (.inl ⟨c,_,j,_,rfl,rfl,x.tup (SqT.of W),gj,short (by simp),fun p hp=>?_⟩);have D:aA m (upd m p (.tup [at_ e i (.ref b),at_ e j (.ref b)])):=au hp;have hf:(fnd (kf e i j) (fun y=>V.str (aR e y)) (f.take k)).length<=40:=aF (fnd_len _ _ _) (by rw[cY];lia);have et:f.take (k+1)=f.take k++[V.ref b]:=by rw[dI,C];rfl
  have P:fnd (kf e i j) (fun y=>V.str (aR e y)) (f.take (k+1))=rL (kf e i j) (fun y=>V.str (aR e y)) (fnd (kf e i j) (fun y=>V.str (aR e y)) (f.take k)) (.ref b):=by unfold fnd;rw[et,List.foldl_append];rfl
  refine⟨d,p,_,kf e i j (.ref b),_,rfl,rfl,D _ _ (g _ _ q),?_,iT hf (by decide),fun z M=>?_,fun M=>?_⟩;·rw[aq,ei.1,ej.1];rfl
  ·refine R _ _ ⟨o.trans (g.trans D),?_,_,_,rfl⟩;rw[P];unfold rL;rw[M];exact D _ _ (g _ _ q)
  ·refine R _ _ ⟨dj (o.trans (g.trans D)) S,?_,_,_,rfl⟩;rw[P];unfold rL;rw[M];exact aq
 ·rintro E s ⟨o,q,u,v,rfl⟩;rw[fK]at q;ext;refine⟨d,_,rfl,q,_,v1,Or.inl ⟨kd,as,rfl,.inr (L _),?_⟩⟩;rw[I];show gR K .Lt (.int _) (.int ((4:Nat):Int)) s _;rw[FT];refine⟨_,rfl,?_⟩;have r:=wy (fun y=>V.str (aR e y)) (kf_in w A hi J);cases hf:lh e f i j with
  |false=>have :=r.mpr hf;rw[decide_eq_true (by lia),if_pos rfl];exact q1 hf s o
  |true=>
   have a8:¬(fnd (kf e i j) (fun y=>V.str (aR e y)) f).length<4:=fun z=>by rw[r.mp z]at hf;cases hf
   rw[decide_eq_false (by lia),if_neg ao];refine dF ⟨_,v1,.inr (.inl ⟨kd,rfl,⟨_,L _⟩,?_⟩)⟩;refine d7 zm (by rw[I];exact short (by decide)) (fun m _=>L m) (fun n v _=>v=firstOf e f i j (KP.getD n (0,0))) (fun _ _ _ _ _ a0=>a0) (fun Z=>∃t,Z=[t,some (.ref d)]) ⟨none,rfl⟩ ?_ ?_
   ·rintro n y Z m a7 hn ⟨t,rfl⟩ g C k;obtain⟨b,p,rfl,hp,B⟩:=a2 m n y C;ext;have a1:f.any (fun y=>decide (num e i y=p.1/\num e j y=p.2))=true:=by unfold lh at hf;exact bg.mp hf p (aI hp)
    obtain⟨y0,a4,e0⟩:=cw.mp a1;cases r:f.find? (fun y=>decide (kf e i j y=qv p))with
    |none=>rw[uA]at r;exact absurd (decide_eq_true (kf_eq.mpr (of_decide_eq_true e0))) (r y0 a4)
    |some y1=>
     refine⟨d,b,_,qv p,V.str (aR e y1),rfl,rfl,g _ _ q,B,?_,?_⟩;·rw[Ab,r];rfl
     ·refine k _ _ _ ⟨_,rfl⟩ (aA.refl _) ?_;rw[getD_some hp];unfold firstOf;rw[r];rfl
   ·intro O m l T hF g a3;have ev:O=KP.map (firstOf e f i j):=by
     rw[I]at T;apply bR;·rw[T];rfl
     ·intro n m1 m2;have :=hF n O[n] (by simp[m1]);rw[this,bQ,af,ae (by simpa using m2)];rfl
    subst ev;refine⟨l,_,rfl,.inl ⟨SqL.of aq,fun b B=>?_⟩⟩;have x:aA H (upd m l (.lst (KP.map (firstOf e f i j)))):=o.trans (g.trans (au a3));exact q2 hf _ b (x.trans (au B)) (x.free B) aq
end Kc
namespace K21
open PySem PySem.Spec PyProof.Rows L2 R Cp Lt Kc
def Dr(H:Hp)(nf:Nat->Str)(n:Nat)(ys:List V):Prop:=∀(i:Nat) y,ys[i]? =some y->∃b r zs,y=.ref b/\H b=some (.tup [.str (nf i),.ref r])/\H r=some (.tup zs)/\zs.length=n/\∀z∈zs,bJ z=true
def rP(k:∀i,eO (nf i)=true)(d:Dr H nf n ys)(t:n<=60)(e:ys[i]? =some y):cF H y=true/\aR H y=nf i/\bB H y=n/\Kn3 H y:=by
 obtain⟨b,r,m,rfl,c,h,p,j⟩:=d i y e;have o:bT H (.ref r)=true:=by show(match cA (H r)with |some g=>decide (g.length<=60)&&g.all bJ|none=>false)=true;rw[h];show(decide (m.length<=60)&&m.all bJ)=true;rw[decide_eq_true (by lia),eM,bg];exact j
 have q:(nf i).length<=20000:=by have :=k i;unfold eO at this;rw[az,decide_eq_true_eq]at this;lia
 refine⟨?_,?_,?_,⟨qu c,fun z e=>nomatch e⟩,fun a g e f=>?_⟩;·show(match cA (H b)with |some [n,r]=>isName n&&bT H r|_=>false)=true;rw[c];show(eO (nf i)&&bT H (.ref r))=true;rw[k,o];rfl
 ·show(match cA (H b)with |some (.str z::_)=>z|_=>("":Str))=_;rw[c];rfl
 ·show(match cA (H b)with |some [_,.ref b]=>(cA (H b)).elim 0 eL|_=>0)=n;rw[c];show(cA (H r)).elim 0 eL=n;rw[h];exact p
 ·injection e with e
  subst e;rw[c]at f;cases f;refine⟨by show 2<=20000;decide,fun y l=>?_⟩;simp only[aG,cu,or_false]at l;rcases l with rfl|rfl;·exact⟨⟨Ef,fun z e=>by injection e with e;rw[<-e];exact q⟩,fun a g e=>nomatch e⟩
  ·refine⟨⟨qu h,fun z e=>nomatch e⟩,fun a g e f=>?_⟩;injection e with e;subst e;rw[h]at f;cases f;refine⟨by lia,fun z s=>?_⟩;rcases i9 (j z s)with rfl|rfl
   ·exact⟨zY,fun z e=>nomatch e⟩
   ·exact⟨zY,fun z e=>nomatch e⟩
def rO{t:Addr}(h:∀i,eO (nf i)=true)(q:∀i j,i<ys.length->j<ys.length->nf i=nf j->i=j)(m:H t=some (.lst ys))(d:Dr H nf n ys)(r:ys.length<=40)(g:n<=60):Kn4 H (.ref t)/\bN H (.ref t)=true/\(∀y∈ys,cF H y=true)/\∀y∈ys,bB H y=n:=by
 have at':∀y∈ys,∃i,ys[i]? =some y:=fun y c=>bK.mp c;have o:∀y∈ys,cF H y=true:=fun y c=>let⟨i,e⟩:=at' y c;(rP h d g e).1;have k:∀y∈ys,bB H y=n:=fun y c=>let⟨i,e⟩:=at' y c;(rP h d g e).2.2.1;refine⟨⟨⟨we m,fun z e=>nomatch e⟩,fun a f e p=>?_⟩,?_,o,k⟩
 ·injection e with e
  subst e;rw[m]at p;cases p;exact⟨by lia,fun y c=>let⟨i,e⟩:=at' y c;(rP h d g e).2.2.2⟩
 ·show(match cN (H t)with |some f=>decide (f.length<=40)&&(f.all (cF H)&&(decide ((f.map (aR H)).Nodup)&&decide (∀y∈f,∀z∈f,bB H y=bB H z))) |none=>false)=true;rw[m];show(decide (ys.length<=40)&&(ys.all (cF H)&&(decide ((ys.map (aR H)).Nodup)&&decide (∀y∈ys,∀z∈ys,bB H y=bB H z))))=true;rw[decide_eq_true r,eM,az,az,bg,decide_eq_true_eq,decide_eq_true_eq];refine⟨o,?_,fun y c z s=>by rw[k y c,k z s]⟩;show List.Pairwise (fun a b=>a≠b) _;rw[eY];intro i j hi l u e;rw[ai]at hi l;rw[bQ,bQ,(rP h d g (ae hi)).2.1,(rP h d g (ae l)).2.1]at e;have :=q i j hi l e;lia
def z6{vs:List V}(h:∀(i:Nat) v,vs[i]? =some v->∃m:Int,v=.int m):∃ns:List Int,vs=ns.map V.int:=by
 induction vs with
 |nil=>exact⟨[],rfl⟩
 |cons v vs ih=>obtain⟨m,rfl⟩:=h 0 v rfl;obtain⟨ns,rfl⟩:=ih fun i w e=>h (i+1) w (by simpa using e);exact⟨m::ns,rfl⟩
def Mr(c:List Int)(lo hi:Option Int):∃b:List Int,lq (c.map V.int) lo hi=b.map V.int:=by refine z6 fun i v e=>?_;have a:=aI e;unfold lq at a;obtain⟨m,_,rfl⟩:=aJ.mp (List.mem_of_mem_drop (IX a));exact⟨m,rfl⟩
end K21
namespace K22
open PySem PySem.Spec PyProof.Rows L2 R Cp Lt Kc K21
def BI{t:Addr}{fs:List Int}(c:SqL K H t (fs.map V.int))(b:H p=some (.lst [])):∃d a,Rep K H d (.ref t)/\Rep K H a (.ref p)/\hgt d<=30/\eqD d a=decide (fs=[]):=by
 refine⟨.lst (fs.map D.int),.lst [],⟨t,_,rfl,c,d8.ints fs⟩,⟨p,[],rfl,SqL.of b,rfl⟩,by show gh (fs.map D.int)+1<=30;rw[tB];decide,?_⟩;cases fs with
 |nil=>rfl
 |cons x r=>rw[decide_eq_false (by simp)];rfl
end K22
namespace Lm
open PySem PySem.Spec PySem.W PyProof.Rows L2 Q
noncomputable abbrev Kp(h h':Heap):Prop:=∀b o,h.get? b=some o->h'.get? b=some o
section
variable {E:Value->Shared->Prop}{s:Shared}
def Mz{Q:Value->Shared->Prop}{x:Str}{u:Arguments}{k:Value}{p q t:Pos}{a:Array Value}
  (hf:s.heap.get? f=some (kla_obj "<lambda>" qual u (.Subscript (.Name x p) (.Constant (.int 0) j q) t) scope [] pm c' ce))(C:s.heap.CodeRec (.ref c') qual)(K:A.depth<jL)(I:s.heap.NoLimit)
  (B:∀v,qK (kla_fn "<lambda>" qual u (.Subscript (.Name x p) (.Constant (.int 0) j q) t) scope [] pm (.ref c') ce) ⟨[v],[]⟩=pure [(x,v)])
  (m:scope.names.lookup x=some .local)(G:(x==("__debug__":Str))=false)(d:scope.kind=.function)(D:∀y∈scope.names,y.2≠.cell)(F:scope.isCoroutine=false)(H:scope.isGenerator=false)
  (L:IsTup s.heap b a)(h0:a[0]? =some k)(h:∀h' t',Kp s.heap h'->Q k {s with heap:=h',toks:=t'}):wpAny (model prog w) A (call (.ref f) [.ref b]) Q E s:=by
 refine iA (kla_callFunE K hf rfl F H rfl C ?_);rw[B];refine aj (wpAny_newFunctionEnv D (fun y M=>?_) (fun n J i=>⟨I.fresh _ i,?_⟩) d)
 ·have e:y=(x,.ref b):=by simpa using M
  rw[e];exact m
 have g:Kp s.heap n:=fun b o e=>i.extBut b o (aK (ay e)) (ag _ e);refine kla_codeExpr (Subscript_ (IC (wpAny_loadName_local d m J (v:=.ref b) (by simp) ?_) G));refine wpAny_Constant_int ?_;have l:IsTup n b a:=by obtain⟨o,e,c⟩:=L;exact⟨o,g _ _ e,c⟩
 have N:0<a.size:=by
  rcases Nat.eq_zero_or_pos a.size with z|z;·rw[EY (by lia)]at h0;cases h0
  ·exact z
 exact sD (x:=k) l.typeIs slot_tuple_getitem.lookup
  (getItem_tuple (j:=0) (Q:=fun r O=>r=k/\_) l (by decide) (by decide) (by rw[uM (by decide) (by lia)];rfl) h0 ⟨rfl,h _ _ g⟩) rfl
def Keys(prog:Program)(w:World)(A:Around)(f:Value)(vs:List Value)(ks:List Str)(h0:Heap):Prop:=
 ∀(i:Nat)(v:Value)(k:Str),vs[i]? =some v->ks[i]? =some k->∀(s1:Shared)(E:Value->Shared->Prop)(a:Value->Shared->Prop),Kp h0 s1.heap->
  (∀t h' t',Kp s1.heap h'->a (.str k t) {s1 with heap:=h',toks:=t'})->wpAny (model prog w) A (call f [v]) a E s1
theorem strs_snoc{k:Str}{t:Tok}:∀{vs:List Value}{ks:List Str},AH vs ks->AH (vs++[.str k t]) (ks++[k])
 |_,_,.nil=>.cons k t .nil
 |_,_,.cons y u h=>.cons y u (strs_snoc h)
def E6{e f:Nat}{st:SortSt}{P:dG->Shared->Prop}(t:(arrOf st).map (·.2)=dX out)(hz:out.length<64)(p:kv.length<64)(hf:failedOf st=none)
  (n:s.heap.get? kS=some (seqObj "list" kv.toArray e))(l:s.heap.get? a=some (seqObj "list" #[] f))(r:kS≠a)
  (h:∀h' c,(∀b o,b≠a->b≠kS->s.heap.get? b=some o->h'.get? b=some o)->h'.get? a=some (seqObj "list" out.toArray c)->P (.done (.ret .none)) {s with heap:=h'}):
  wpAny (model prog w) A (ksk_tail a false f (.ref kS) st) P E s:=by
 have i:=bO s.heap kS (aZ fun _=>(#[]:Array Value));have g:(s.heap.update kS (aZ fun _=>(#[]:Array Value))).get? a=some (seqObj "list" #[] f):=(i.2 a (bE r)).trans l;have u:=bO (s.heap.update kS (aZ fun _=>(#[]:Array Value))) a (aZ fun _=>dX out);obtain⟨d,m⟩:∃d,((s.heap.update kS (aZ fun _=>(#[]:Array Value))).update a (aZ fun _=>dX out)).get? a=some (seqObj "list" (dX out) d):=⟨_,sI g fun _=>dX out⟩;unfold ksk_tail;try dsimp only
 rw[t];refine aa (fP n rfl ?_ (by rw[aw];exact fU p) (aM _));refine aa (pD ?_);refine aa (uN g rfl ?_);refine aa (fP g rfl ?_ (aM _) (by simpa using Fc hz));rw[hf];simp only[bne_self_eq_false,aX,if_false];exact aj (h _ d (fun b o j k q=>(u.2 b j).trans ((i.2 b k).trans q)) m)
def end_ok{e f:Nat}{P:dG->Shared->Prop}(nd:ks.Nodup)(r:AH kv ks)(y:ks.length=vs.length)(m:vs.length<64)
  (x:s.heap.get? kS=some (seqObj "list" kv.toArray e))(v:s.heap.get? a=some (seqObj "list" #[] f))(B:kS≠a)
  (h:∀h' c,(∀b o,b≠a->b≠kS->s.heap.get? b=some o->h'.get? b=some o)->h'.get? a=some (seqObj "list" (gC (nX ks) vs).toArray c)->P (.done (.ret .none)) {s with heap:=h'}):
  wpAny (model prog w) A (ksk_end a false vs.toArray f (.ref kS) (dX kv)) P E s:=by
 have g:vs.toArray.size=vs.length:=by simp
 have O:=vp r;have n:kv.length=vs.length:=O.trans y;unfold ksk_end;simp only[aX,if_false];by_cases hn:vs.length<2;·have l:gC (nX ks) vs=vs:=if_pos hn;rw[l]at h;rw[if_pos (by rw[g];exact hn),if_pos (by rw[g];exact hn)];refine aa (aj (aa ?_));rw[StateT.run_pure];refine aj (E6 (out:=vs) ?_ m (by lia) rfl x v B h);show(kv.toArray.zip vs.toArray).map (·.2)=vs.toArray;apply AQ;simp[nv,n]
 ·have I:2<=vs.length:=by lia
  have l:gC (nX ks) vs=(run (nX ks) (dQ vs.length)).toList.map fun i=>vs.getD i .none:=if_neg hn;rw[l]at h;rw[if_neg (by rw[g];exact hn),if_neg (by rw[g];exact hn)];obtain⟨κ,M,N⟩:=Iv (prog:=prog) (w:=w) (A:=A) (h0:=s.heap) r (by lia) s (fun _ _ q=>q);have T:Tot (nX ks) vs.length:=by rw[<-y];exact vj nd
  obtain⟨F,U,D⟩:=fN T (by lia:1<=vs.length);refine aa (M _ _ (aa ?_));have R:=kat_run (prog:=prog) (w:=w) (A:=A) (E:=E) (κ:=κ) (ks:=kv) (vs:=vs) (s:=s)
   (Q:=fun k d=>d=s/\arrOf k=(run (nX ks) (dQ vs.length)).map (kas_item (kv.toArray.zip vs.toArray))/\failedOf k=none)
   (G:=fun p d=>d=s/\p=run (nX ks) (dQ vs.length)) n I m
   (fun p k d _ f H u=>⟨u.1,by rw[f,u.2],H⟩)
   (wp_run (S:=fun d=>d=s) (fun i j C d hi V L t J=>by subst t;exact N i j C (by lia) (by lia) L (J _ rfl)) _ _ D rfl fun d t=>⟨t,rfl⟩)
  refine cL R ?_ fun _ _ z=>z;rintro⟨⟨⟩,k⟩ d ⟨rfl,K,hf⟩;exact E6 (kat_snds n K) (by rw[ai,cm,F.size];exact m) (by lia) hf x v B h
def JS{f:Value}{P:dG->Shared->Prop}(nd:ks.Nodup)(U:ks.length=vs.length)(u:s.heap.get? a=some (seqObj "list" vs.toArray n))
  (k0:∀b o,h0.get? b=some o->s.heap.get? b=some o/\b≠a)(F:vs.length<64)(W:Keys prog w A f vs ks h0)
  (h:∀h' t' c,(∀b o,b≠a->s.heap.get? b=some o->h'.get? b=some o)->h'.get? a=some (seqObj "list" (gC (nX ks) vs).toArray c)->P (.done (.ret .none)) {s with heap:=h',toks:=t'}):
  wpAny (model prog w) A (ksk_tree a f false) P E s:=by
 have V:vs.toArray.size=vs.length:=by simp
 have S:a<s.heap.objs.size:=ay u;have X:=bO s.heap a (aZ fun _=>(#[]:Array Value));obtain⟨m,M⟩:∃m,(s.heap.update a (aZ fun _=>(#[]:Array Value))).get? a=some (seqObj "list" #[] m):=⟨_,sI u fun _=> #[]⟩;unfold ksk_tree;refine aa (listItems_at u rfl ?_);refine aa (fP u rfl ?_ (by rw[V];exact fU F) (aM _));refine aa (uN M rfl ?_);refine aa (wpAny_newTuple ?_ (show vs.length<=_ from fU F));refine aa (pM ?_ (aM _));refine bH ?_;have J:((s.heap.update a (aZ fun _=>(#[]:Array Value))).push (seqObj "tuple" vs.toArray 0)).get? a=some (seqObj "list" #[] m):=ag _ M;have O:∀b o,b≠a->s.heap.get? b=some o->((s.heap.update a (aZ fun _=>(#[]:Array Value))).push (seqObj "tuple" vs.toArray 0)).get? b=some o:=fun b o g q=>ag _ ((X.2 b g).trans q);have v:s.heap.objs.size<((s.heap.update a (aZ fun _=>(#[]:Array Value))).push (seqObj "tuple" vs.toArray 0)).objs.size:=by rw[IE,nF];lia
 show wpAny _ _ (ksk_rest a f false vs.toArray m (.ref ((s.heap.update a (aZ fun _=>(#[]:Array Value))).push (seqObj "tuple" vs.toArray 0)).objs.size)) _ _
  {s with heap:=((s.heap.update a (aZ fun _=>(#[]:Array Value))).push (seqObj "tuple" vs.toArray 0)).push (seqObj "list" #[] 0)}
 generalize(s.heap.update a (aZ fun _=>(#[]:Array Value))).push (seqObj "tuple" vs.toArray 0)=h1 at J O v⊢;have L:h1.objs.size≠a:=eK (fW S v);unfold ksk_rest;refine aa (iy ?_)
 first
  |rw[List.forIn_toArray]
  | (rw[<-Na];simp only[M1])
  |rw[<-Na]
 refine aa (ksk_fold (fun i H=>∃l C d e,H={s with heap:=l,toks:=C}/\AH d (ks.take i)/\l.get? h1.objs.size=some (seqObj "list" (dX d) e)/\l.get? a=some (seqObj "list" #[] m)/\∀b o,b≠a->s.heap.get? b=some o->l.get? b=some o)
  vs 0 _ ⟨_,s.toks,[],0,rfl,by rw[List.take_zero];exact .nil,ax _ rfl,ag _ J,fun b o g q=>ag _ (O b o g q)⟩ ?_ ?_)
 ·rintro j x H N ⟨l,C,d,e,rfl,r,p,G,B⟩;rw[xk]at r;have Y:j<vs.length:=(aH.mp N).1;have K:ks[j]? =some (ks[j]'(by lia)):=ae (by lia);have Z:d.length=j:=by rw[vp r,cY];lia
  refine aa (i6 (W j x _ N K _ _ _ (fun b o q=>B b o (k0 b o q).2 (k0 b o q).1) fun t I t3 y=>?_));have Q:=bO I h1.objs.size (aZ (·.push (iP (ks[j]'(by lia)) t)));have R:(dX d).push (iP (ks[j]'(by lia)) t)=dX (d++[iP (ks[j]'(by lia)) t]):=by simp
  obtain⟨D,T⟩:∃D,(I.update h1.objs.size (aZ (·.push (iP (ks[j]'(by lia)) t)))).get? h1.objs.size=some (seqObj "list" (dX (d++[iP (ks[j]'(by lia)) t])) D):=⟨_,by rw[<-R];exact sI (y _ _ p) (·.push _)⟩;try dsimp only
  refine aa (fP (y _ _ p) rfl ?_ (by rw[aw];exact fU (by lia)) (aF (xl (Array.size_push ..)) (by rw[aw];exact Fc (by lia))));refine aj ⟨rfl,_,t3,d++[iP (ks[j]'(by lia)) t],D,rfl,?_,T,(Q.2 a (bE L)).trans (y _ _ G),fun b o g q=>(Q.2 b (aK (fW (ay q) v))).trans (y _ _ (B b o g q))⟩;rw[xk,dI,K];exact strs_snoc r
 ·rintro H ⟨l,C,d,e,rfl,r,p,G,B⟩;rw[xk,jc (by lia)]at r;try dsimp only
  refine aa (listItems_at p rfl ?_);exact end_ok nd r U F p G L fun h' c k q=>h h' C c (fun b o g z=>k b o g (aK (fW (ay z) v)) (B b o g z)) q
def DF{Q:Value->Shared->Prop}(nd:ks.Nodup)(n:ks.length=vs.length)(j:s.heap.IsList l vs.toArray)(a:vs.length<64)(r:Keys prog w A.in1.in1 (.ref q) vs ks s.heap)
  (h:∀h' t' c,Kp s.heap h'->h'.get? (s.heap.objs.size+1)=some (seqObj "list" (gC (nX ks) vs).toArray c)->Q (.ref (s.heap.objs.size+1)) {s with heap:=h',toks:=t'}):
  wpAny (model prog w) A (call (.builtin "sorted") [.ref l] [(aP "key",.ref q)]) Q E s:=by
 refine call_function_entry_kw kind_sorted plain_sorted entry_sorted (ksk_s1 _ _) ?_;unfold Builtin.«sorted»;refine aa (m:=checkCount "sorted" 1 1 _) (aj ?_);refine aa (collect_list j ?_ (by simpa using fU a));refine aa (pM ?_ (show vs.length<=_ from fU a));have g:((s.heap.push (seqObj "list" #[] 0)).update s.heap.objs.size (aZ (·++vs.toArray))).objs.size=s.heap.objs.size+1:=by rw[nF,IE]
 have p:Kp s.heap ((s.heap.push (seqObj "list" #[] 0)).update s.heap.objs.size (aZ (·++vs.toArray))):=fun b o e=>by have i:=ay e;rw[aN _ _ (eK i)];exact ag _ e
 have d:(((s.heap.push (seqObj "list" #[] 0)).update s.heap.objs.size (aZ (·++vs.toArray))).push (seqObj "list" vs.toArray 0)).get? (s.heap.objs.size+1)=some (seqObj "list" vs.toArray 0):=by rw[<-g];exact ax _ rfl
 show wpAny _ _ _ _ _ {s with heap:=((s.heap.push (seqObj "list" #[] 0)).update s.heap.objs.size (aZ (·++vs.toArray))).push (seqObj "list" vs.toArray 0)};rw[g];have f:Kp s.heap (((s.heap.push (seqObj "list" #[] 0)).update s.heap.objs.size (aZ (·++vs.toArray))).push (seqObj "list" vs.toArray 0)):=fun b o e=>ag _ (p b o e);generalize((s.heap.push (seqObj "list" #[] 0)).update s.heap.objs.size (aZ (·++vs.toArray))).push (seqObj "list" vs.toArray 0)=h1 at d f⊢;refine aa (bH (wpAny_call_entry_kw ID ⟨_,d,rfl⟩ ET ?_ (ksk_l1 _ _)));show wpAny (model prog w) A.in1.in1 (Builtin.«list.sort» ⟨[.ref (s.heap.objs.size+1)],[(aP "key",.ref q)]⟩) _ _ _;rw[ksk_t1];exact JS (s:={s with heap:=h1}) nd n d (fun b o e=>⟨f b o e,aK (bM (ay e))⟩) a r fun h' t' c k z=>⟨_,rfl,aj ⟨_,rfl,h h' t' c (fun b o e=>k b o (aK (bM (ay e))) (f b o e)) z⟩⟩
end
structure Tb where
 P:Addr
 pos:Pos
 q:Str
def Tab(T:Tb)(H:Hp):Prop:=H T.P=some (.tbl #[])\/∃c' oc u vs t,H T.P=some (.tbl #[rawInt T.pos.line,rawInt T.pos.col,.ref c'])/\H c'=some (.frz oc u)/\oc.data=.fields vs/\vs[1]? =some (.str T.q t)
structure Gr(T:Tb)(H H':Hp):Prop where
 keep:∀b o,b≠T.P->H b=some o->H' b=some o
 tab:Tab T H->Tab T H'
def Gr.refl(T:Tb)(H:Hp):Gr T H H:=⟨fun _ _ _ e=>e,fun t=>t⟩
def Gr.trans{T:Tb}{d:Hp}(a:Gr T H H1)(b:Gr T H1 d):Gr T H d:=⟨fun c o n e=>b.keep c o n (a.keep c o n e),fun t=>b.tab (a.tab t)⟩
def Gr.of{T:Tb}(e:aA H H'):Gr T H H':=
 ⟨fun b o _ q=>e b o q,fun t=>by
  rcases t with t|⟨a,h,u,i,tk,c,d,f,g⟩;·exact .inl (e _ _ t)
  ·exact .inr ⟨a,h,u,i,tk,e _ _ c,e _ _ d,f,g⟩⟩
def Tab.ne{T:Tb}(t:Tab T H){o:HO}(e:H b=some o)(n:∀ps,o≠.tbl ps):b≠T.P:=by
 intro z;subst z;rcases t with t|⟨c,h,u,i,tk,a,d,f,g⟩;·rw[t]at e;exact n _ (bc e).symm
 ·rw[a]at e;exact n _ (bc e).symm
section
variable {T:Tb}{a:Addr}
def Gr.at(g:Gr T H H')(t:Tab T H){o:HO}(e:H a=some o)(n:∀ps,o≠.tbl ps):H' a=some o:=g.keep a o (t.ne e n) e
theorem Gr.lst(g:Gr T H H')(t:Tab T H)(e:H a=some (.lst xs)):H' a=some (.lst xs):=g.at t e fun _ z=>by cases z
def Gr.uE(g:Gr T H H')(t:Tab T H)(e:H a=some (.tup xs)):H' a=some (.tup xs):=g.at t e fun _ z=>by cases z
theorem Gr.frz(g:Gr T H H')(t:Tab T H){o:Obj}{u:HO}(e:H a=some (.frz o u)):H' a=some (.frz o u):=g.at t e fun _ z=>by cases z
def Gr.seq(g:Gr T H H')(t:Tab T H)(h:SqL K H a xs):SqL K H' a xs:=by
 rcases h with(h|⟨o,h⟩) |h;·exact .inl (.inl (g.lst t h))
 ·exact .inl (.inr ⟨o,g.frz t h⟩)
 ·exact .inr h
def Gr.tup(g:Gr T H H')(t:Tab T H)(h:SqT K H a xs):SqT K H' a xs:=by
 rcases h with(h|⟨o,h⟩) |h;·exact .inl (.inl (g.uE t h))
 ·exact .inl (.inr ⟨o,g.frz t h⟩)
 ·exact .inr h
end
def un_tab{fs:List Addr}{j:Obj}{ps more:Array Value}(r:HOk P w H h)(i:∀b o,b≠p->h.get? b=some o->h'.get? b=some o)(c:H p=some (.tbl ps))(l:h.objs.size<=c')
  (s:h'.get? p=some (tabObj (ps++more)))(k:h'.get? c'=some j):
  Un fs [] H (upd (upd H c' (.frz j (.ext fun _=>True))) p (.tbl (ps++more))) h h'/\HOk P w (upd (upd H c' (.frz j (.ext fun _=>True))) p (.tbl (ps++more))) h':=by
 have m:H c'=none:=r.fresh l;have ne:c'≠p:=bE (bI c m);have g:∀{b:Addr}{o:HO},H b=some o->b≠p->upd (upd H c' (.frz j (.ext fun _=>True))) p (.tbl (ps++more)) b=some o:=fun{b o} e n=>by rw[aW n,aW (bI e m)];exact e
 have f:∀{b:Addr}{o:HO},H b=some o->(∀t,o≠.tbl t)->b≠p:=fun{b o} e n z=>by subst z;rw[c]at e;exact n _ (bc e).symm
 refine⟨⟨fun b o e n _ _=>i b o (fun z=>by rw[z,c]at n;cases n) e,fun b o e n _ _=>⟨o.slots,i b o (fun z=>by rw[z,c]at n;cases n) e⟩,fun b o e n _=>?_,fun b o e _=>?_,fun b A e=>g e (f e fun _ z=>by cases z),
  fun b o u e=>g e (f e fun _ z=>by cases z),fun b t e=>?_⟩,fun b o e=>?_⟩
 ·have a:b≠p:=fun z=>by rw[z,c]at n;cases n
  rw[aW a,aW (aK (aT (ay e) l))];exact n
 ·by_cases a:b=p;·exact⟨_,by rw[a];exact s⟩
  ·exact⟨o,i b o a e⟩
 ·by_cases a:b=p;·subst a;rw[c]at e;cases e;exact⟨more,aq⟩
  ·exact⟨#[],by rw[g e a];simp⟩
 ·by_cases a:b=p;·subst a;rw[aq]at e;cases e;exact s
  ·rw[aW a]at e;by_cases hc2:b=c';·subst hc2;rw[aq]at e;cases e;exact⟨k,trivial,⟨_,k⟩,fun _ _ _ _=>trivial⟩
   ·rw[aW hc2]at e;refine(r b o e).sR (fun d v x q=>i d v ?_ q) (fun d q=>g q (f q fun _ z=>by cases z)) fun d A q=>g q (f q fun _ z=>by cases z);rcases x with z|z;·rw[z];exact a
    ·exact f z fun _ y=>by cases y
def BM(mg:Str->Option Value)(h:Heap):Prop:=∃bm a,mg "__builtins__"=some (.ref bm)/\bm≠nr/\bm≠bu/\h.get? bm=some a/\a.cls=.type "module"/\a.dict=some nr/\a.data=.plain
def rSortK(K:ah)(T:Tb):List V->Hp->VK->Prop:=fun xs H Q=>∃a ys ks,xs=[V.ref a]/\SqL K H a ys/\ks.length<64/\ks.Nodup/\sA H ys ks/\Tab T H/\
 ∀H2 l,Gr T H H2->H2 l=none->Q (.ref l) (upd H2 l (.lst (sortBy .non ks ys)))
def vk(K:ah)(T:Tb)(te:TE):TE:=fun σ H Q=>mU te vm σ H fun xs H1=>rSortK K T xs H1 Q
structure ML(env:Env)(params:Arguments)(x:Str)(body:Expr)(scope:Scope):Prop where
 cl:IL scope env=pure []
 df:defaultsOf params env=([],[])
 bd:∀(qual:Str)(pm ce v:Value)(c':Addr),qK (kla_fn "<lambda>" qual params body scope [] pm (.ref c') ce) ⟨[v],[]⟩=pure [(x,v)]
 lk:scope.names.lookup x=some .local
 dbg:(x==("__debug__":Str))=false
 kd:scope.kind=.function
 nc:∀y∈scope.names,y.2≠.cell
 co:scope.isCoroutine=false
 gn:scope.isGenerator=false
section
variable {te:TE}{T:Tb}{c:Addr}{p kp p1 p2 p3:Pos}{x:Str}{params:Arguments}
theorem uZ(O:ML X.env params x (.Subscript (.Name x p1) (.Constant (.int 0) j p2) p3) scope)(ok:HOk X.prog X.w H s.heap)
  (hf:s.heap.get? f=some (kla_obj "<lambda>" qual params (.Subscript (.Name x p1) (.Constant (.int 0) j p2) p3) scope [] pm c' ce))(e:s.heap.CodeRec (.ref c') qual)(h:A.depth<jL)(g:s.heap.NoLimit):
  ∀{ys:List V}{ks:List Str}{vs:List Value},sA H ys ks->bG ys vs->Keys prog w A (.ref f) vs ks s.heap
 |_,_,_,.nil,.nil=>fun i v k c=>by simp at c
 |_,_,_,.cons y t,.cons r q=>by
  intro i v k c d G E l b hq;cases i with
  |zero=>
   obtain⟨a,K,rfl,p⟩:=y;cases r;have m:v=bz a:=by simpa using c.symm
   subst m;obtain⟨_,J,F,o,u,z,n,B⟩:=ok a _ p;cases F with
   |cons r0 _=>obtain⟨tk,rfl⟩:=r0;obtain rfl:=bc d;exact Mz (b _ _ hf) (e.keeps b) h (g.keeps b) (fun v=>O.bd _ _ _ v _) O.lk O.dbg O.kd O.nc O.co O.gn ⟨o,b _ _ u,z,n,B⟩ (by simp) fun C I D=>hq tk C I D
  |succ i=>exact uZ O ok hf e h g t q i v k (by simpa using c) (by simpa using d) G E l b hq
def xZ{Q:VK}(O:ML X.env params x (.Subscript (.Name x p1) (.Constant (.int 0) j p2) p3) scope)(I:Inv X pins σ H s)
  (hf:s.heap.get? f=some (kla_obj "<lambda>" T.q params (.Subscript (.Name x p1) (.Constant (.int 0) j p2) p3) scope [] pm c' ce))(e:s.heap.CodeRec (.ref c') T.q)(i:X.A.depth<jL)
  (hq:SqL X.K H a ys)(t:ks.length<64)(nd:ks.Nodup)(c:sA H ys ks)(q:∀l,H l=none->Q (.ref l) (upd H l (.lst (sortBy .non ks ys)))):
  wpAny (model X.prog X.w) X.A (call (.builtin "sorted") [.ref a] [(aP "key",.ref f)]) (EP X pins σ Q) X.xe s:=by
 obtain⟨o,b,p,v⟩:=I.list hq;have h:ks.length=ys.length:=tU c;have u:=b.length;have m:ks.length=o.length:=by lia
 refine DF nd m p.isList (by lia) (uZ (A:=X.A.in1.in1) O I.hok hf e i I.nolimit c b) fun r t' d k g=>?_;have n:(sortBy V.non ks ys).length<=sizeLine:=by unfold sortBy;rw[ai,ord_len ks nd];lia
 exact⟨.ref (s.heap.objs.size+1),_,I.laid (t':=t') k (dP _) (show dz X.prog X.w _ _ _ (.lst (sortBy .non ks ys))from⟨n,_,d,K1 nd h b,g⟩),rfl,q _ (I.hok.fresh (dP _))⟩
def KD(he:PE X e te)(s:bh [e] X.env=(false,eval e X.env)::bh [] X.env)(hg:Gl X "sorted")(hm:X.mg "sorted"=none)(C:X.env.code=.ref c)(B:CodeHd X.base c T.P)(hq:X.env.qual++"<lambda>"=T.q)(hb:BM X.mg X.base)
  (O:ML X.env params x (.Subscript (.Name x p1) (.Constant (.int 0) j p2) p3) scope)(K:X.A.depth<jL):
  PE X (.Call (.Name "sorted" p) [e] [⟨some (aP "key"),.Lambda params (.Subscript (.Name x p1) (.Constant (.int 0) j p2) p3) scope T.pos,kp⟩] pos) (vk X.K T te):=by
 intro a9 b9 σ H c0 I a0;refine eZ (mL (u:=.builtin "sorted") I hg hm (by decide+kernel) ?_);refine callWith_kw (thn (gV he k9 s pos a9 b9 σ H _ I a0) fun us f ⟨i,g,a,b7,c1,ys,ks,ev,M,y,nd,G,tb,q⟩=>?_) (by rw[s];rfl) (by rw[s];rfl);subst ev;obtain⟨u,rfl,rx⟩:=vals1 b7;cases rx;obtain⟨w,ob,R,S,Q,v,U,V,W⟩:=hb;have F:f.heap.Ns bu X.mg:=a.mod.glob.keeps a.bk;have a1:w≠T.P:=fun z=>by have n:=(a.bs _ _ v).2;rw[z]at n;rcases tb with t|⟨_,_,_,_,_,t,_⟩<;>(rw[t]at n;cases n)
 have a3:bu≠T.P:=fun z=>by obtain⟨o,es,ep,g1,g2,_⟩:=a.mod.glob;have n:=(a.bs _ _ g1).2;rw[z]at n;rcases tb with t|⟨_,_,_,_,_,t,_⟩<;>(rw[t]at n;cases n)
 have A:f.heap.BuiltinsAt X.mg T.P:=⟨w,ob,R,S,Q,a1,a.bk _ _ v,U,V,W⟩;refine kws_cons (kla_eval O.df ?_);rw[hq];rcases tb with t|⟨d,h,u,i,tk,t,a2,k,a6⟩
 ·refine kla_makeFunction (mg:=X.mg) O.cl a.ok.glob F C (B.keeps a.bk) (ps:= #[]) (a.hok _ _ t) True.intro rfl a3 A fun d m h' tk hx E c3 a4 a5=>kws_nil ?_;obtain⟨c2,h,i,N,ec,k,D,L⟩:=a4;cases ec;have a7:∀b o,b≠T.P->f.heap.get? b=some o->(h'.push (kla_obj "<lambda>" T.q params (.Subscript (.Name x p1) (.Constant (.int 0) j p2) p3) scope [] ((X.mg "__name__").getD .none) d m)).get? b=some o:=fun b o n e=>ag _ (hx b o n e);obtain⟨un,ok⟩:=un_tab (fs:=frs X.stack) a.hok a7 t E (ag _ a5) (ag _ k);have l:=a.call (g':=f.gens) (t':=tk) (d':=f.drawn) un ok a.bare (fun b z=>absurd z (by simp));have P:Tab T g:=.inl t;have gr:Gr T g (upd (upd g d (.frz h (.ext fun _=>True))) T.P (.tbl (#[]++ #[rawInt T.pos.line,rawInt T.pos.col,bz d]))):=by
   have J:g d=none:=a.hok.fresh E;refine⟨fun b o n e=>by rw[aW n,aW (bI e J)];exact e,fun _=>.inr ⟨d,h,.ext fun _=>True,i,N,?_,?_,D,L⟩⟩;·rw[aq];simp
   ·rw[aW (bE (bI t J)),aq]
  exact xZ O l (ax _ rfl) ⟨d,h,i,N,rfl,ag _ k,D,L⟩ K (gr.seq P M) y nd (Paired.rG G fun c6 c5 ⟨b,b8,Y,Z⟩=>⟨b,b8,Y,gr.uE P Z⟩) (q _ · gr)
 ·refine kla_makeFunctionHit (mg:=X.mg) O.cl a.ok.glob F C (B.keeps a.bk) (a.hok _ _ t) (by simp[TriplesOk,rawInt]) (cv:=.ref d) (by simp[codeAmong,rawInt]) A fun m h' tk r c4=>kws_nil ?_;have l:=a.call (H':=g) (h':=h'.push (kla_obj "<lambda>" T.q params (.Subscript (.Name x p1) (.Constant (.int 0) j p2) p3) scope [] ((X.mg "__name__").getD .none) d m)) (g':=f.gens) (t':=tk) (d':=f.drawn) (ch:=[])
   (Un.kept fun b o e=>ag _ (r b o e)) (a.hok.kept fun b o e=>ag _ (r b o e)) a.bare (fun b z=>absurd z (by simp))
  exact xZ O l (ax _ rfl) ⟨d,h,i,_,rfl,ag _ (r _ _ (a.hok _ _ a2).1),k,a6⟩ K M y nd G fun a8 hl=>q g a8 (Gr.refl _ _) hl
end
end Lm
namespace Lm
open PySem PySem.Spec PySem.W PyProof.Rows L2 Q R
abbrev rJ(lx:Str)(p:Pos):Arguments:={posonlyargs:=[],args:=[⟨lx,none,p⟩],vararg:=none,kwonlyargs:=[],kw_defaults:=[],kwarg:=none,defaults:=[]}
abbrev isArg(lx:Str):List Arg->Bool
 |x::r=>r.isEmpty&&(x.annotation.isNone&&x.arg==lx)
 | []=>false
abbrev yq(lx:Str)(a:Arguments):Bool:=a.posonlyargs.isEmpty&&(a.vararg.isNone&&(a.kwonlyargs.isEmpty&&(a.kw_defaults.isEmpty&&(a.kwarg.isNone&&(a.defaults.isEmpty&&isArg lx a.args)))))
def jA{a b:Bool}(h:(a&&b)=true):a=true/\b=true:=by rwa [az]at h
def emp{a:Type}{l:List a}(h:l.isEmpty=true):l=[]:=List.isEmpty_iff.mp h
def non{a:Type}{l:Option a}(h:l.isNone=true):l=none:=gU.mp h
def Ee{a:Arguments}(h:yq lx a=true):∃p,a=rJ lx p:=by
 obtain⟨s,b,t,o,n,q,c⟩:=a;obtain⟨d,h⟩:=jA h;obtain⟨e,h⟩:=jA h;obtain⟨f,h⟩:=jA h;obtain⟨g,h⟩:=jA h;obtain⟨i,h⟩:=jA h;obtain⟨j,h⟩:=jA h;cases b with
 |nil=>exact(ao h).elim
 |cons x r=>obtain⟨k,h⟩:=jA h;obtain⟨l,m⟩:=jA h;obtain⟨y,an,p⟩:=x;exact⟨p,by rw[(emp d:s=[]),(non e:t=none),(emp f:o=[]),(emp g:n=[]),(non i:q=none),(emp j:c=[]),(emp k:r=[]),(non l:an=none),(eq_of_beq m:y=lx)];rfl⟩
abbrev qw(lx:Str)(sc:Scope):Bool:=decide (sc.names=[(lx,.local)])&&(decide (sc.kind=.function)&&(decide (sc.isCoroutine=false)&&(decide (sc.isGenerator=false)&&(lx==("__debug__":Str))==false)))
abbrev isNm(lx:Str):Expr->Bool
 |.Name x _=>x==lx
 |_=>false
def F5(h:isNm lx e=true):∃p,e=.Name lx p:=by
 cases e with
 |Name x p=>cases eq_of_beq h;exact⟨p,rfl⟩
 |_=>exact(ao h).elim
abbrev isZero:Expr->Bool
 |.Constant c _ _=>decide (c=.int 0)
 |_=>false
def HN(h:isZero e=true):∃j p,e=.Constant (.int 0) j p:=by
 cases e with
 |Constant c j p=>cases of_decide_eq_true h;exact⟨j,p,rfl⟩
 |_=>exact(ao h).elim
abbrev F6(lx:Str):Expr->Bool
 |.Subscript a b _=>isNm lx a&&isZero b
 |_=>false
def Ej(h:F6 lx e=true):∃p1 j p2 p3,e=.Subscript (.Name lx p1) (.Constant (.int 0) j p2) p3:=by
 cases e with
 |Subscript a b p=>obtain⟨c,d⟩:=jA h;obtain⟨p1,rfl⟩:=F5 c;obtain⟨j,p2,rfl⟩:=HN d;exact⟨_,_,_,_,rfl⟩
 |_=>exact(ao h).elim
abbrev EE(lx:Str)(pos:Pos):Expr->Bool
 |.Lambda params body scope lp=>decide (lp=pos)&&(yq lx params&&(qw lx scope&&F6 lx body))
 |_=>false
def Ib(h:EE lx pos e=true):∃a scope p1 j p2 p3,e=.Lambda (rJ lx a) (.Subscript (.Name lx p1) (.Constant (.int 0) j p2) p3) scope pos/\qw lx scope=true:=by
 cases e with
 |Lambda params body scope lp=>obtain⟨b,h⟩:=jA h;obtain⟨c,h⟩:=jA h;obtain⟨d,f⟩:=jA h;cases of_decide_eq_true b;obtain⟨a,rfl⟩:=Ee c;obtain⟨p1,j,p2,p3,rfl⟩:=Ej f;exact⟨_,_,_,_,_,_,rfl,d⟩
 |_=>exact(ao h).elim
abbrev Mx(lx:Str)(pos:Pos):List Keyword->Bool
 |k::r=>r.isEmpty&&(decide (k.arg=some (aP "key"))&&EE lx pos k.value)
 | []=>false
abbrev wN(sc:Scope)(N:List Str)(a:CE)(lx:Str)(pos:Pos):Expr->Bool
 |.Call f es ks _=>isNm "sorted" f&&(kD sc "sorted"&&(lR sc N (.cons a .nil) es&&Mx lx pos ks))
 |_=>false
abbrev Mv(sc:Scope)(N:List Str)(i:Nat):List Expr->Bool
 |g::r=>r.isEmpty&&wM sc N true (.name i) g
 | []=>false
abbrev EF(sc:Scope)(N:List Str)(i:Nat)(a:CE)(lx:Str)(pos:Pos):Stmt->Bool
 |.Assign ts v _=>Mv sc N i ts&&wN sc N a lx pos v
 |_=>false
def asg_of{a:CE}{s:Stmt}(h:EF sc N i a lx pos s=true):∃ts v p,s=.Assign ts v p/\Mv sc N i ts=true/\wN sc N a lx pos v=true:=by
 cases s<;>first |exact cQ h|skip
 obtain⟨b,c⟩:=jA h;exact⟨_,_,_,rfl,b,c⟩
def tg_of{a:List Expr}(h:Mv sc N i a=true):∃g,a=[g]/\wM sc N true (.name i) g=true:=by
 cases a with
 |nil=>exact cQ h
 |cons g r=>obtain⟨b,c⟩:=jA h;cases emp b;exact⟨g,rfl,c⟩
def MB{b:CE}{v:Expr}(h:wN sc N b lx pos v=true):∃f es ks c,v=.Call f es ks c/\isNm "sorted" f=true/\kD sc "sorted"=true/\lR sc N (.cons b .nil) es=true/\Mx lx pos ks=true:=by
 cases v<;>first |exact cQ h|skip
 obtain⟨d,a⟩:=jA h;obtain⟨e,a⟩:=jA a;obtain⟨g,i⟩:=jA a;exact⟨_,_,_,_,rfl,d,e,g,i⟩
def kw_of{ks:List Keyword}(h:Mx lx pos ks=true):∃kv kp,ks=[⟨some (aP "key"),kv,kp⟩]/\EE lx pos kv=true:=by
 cases ks with
 |nil=>exact cQ h
 |cons k ks=>obtain⟨a,b⟩:=jA h;obtain⟨c,d⟩:=jA b;cases emp a;obtain⟨e,kv,kp⟩:=k;cases of_decide_eq_true c;exact⟨_,_,rfl,d⟩
def AsgO(sc:Scope)(N:List Str)(i:Nat)(a:CE)(lx:Str)(pos:Pos)(s:Stmt):Prop:=∃g e c scope p1 j p2 p3 p kp b sp,s=.Assign [g] (.Call (.Name "sorted" p) [e] [⟨some (aP "key"),.Lambda (rJ lx c) (.Subscript (.Name lx p1) (.Constant (.int 0) j p2) p3) scope pos,kp⟩] b) sp/\
  wM sc N true (.name i) g=true/\kD sc "sorted"=true/\du sc N a e=true/\qw lx scope=true
def Ic{a:CE}{s:Stmt}(h:EF sc N i a lx pos s=true):AsgO sc N i a lx pos s:=by obtain⟨I,v,H,rfl,c,m⟩:=asg_of h;obtain⟨g,rfl,n⟩:=tg_of c;obtain⟨f,x,z,w,rfl,o,q,r,t⟩:=MB m;obtain⟨p,rfl⟩:=F5 o;obtain⟨e,F,rfl,u,d⟩:=jS r;cases lQ d;obtain⟨A,y,rfl,k⟩:=kw_of t;obtain⟨E,G,B,j,C,D,b,l⟩:=Ib k;cases b;exact⟨_,_,_,_,_,_,_,_,_,_,_,_,rfl,n,q,u,l⟩
abbrev chkK(sc:Scope)(N:List Str)(a:CS)(i:Nat)(c:CE)(lx:Str)(pos:Pos)(b:CB):List Stmt->Bool
 |s1::r=>chkS sc N a s1&&rst r
 | []=>false
where rst:List Stmt->Bool
 |s2::rest=>EF sc N i c lx pos s2&&qC sc N b rest
 | []=>false
section
variable {mg:Str->Option Value}
def L5{x:Str}{st:Stmt}{q:fg}{G:Gam}{sp:Sp}{l:CS}{n:CE}{m:CB}{T:Tb}(F:Fun K x qual st f q)(Y:pN N ps (aO st)=true)
  (b:chkK (aO st) N l i n lx T.pos m (a7 st)=true)(W:q.code=.ref c)(O:CodeHd base c T.P)(hq:qual++".<locals>."++"<lambda>"=T.q)(U:BM mg base)
  (V:∀(p:Pos)(j:Expr)(scope:Scope)(qual:Str)(pm ce v:Value)(c':Addr),qK (kla_fn "<lambda>" qual (rJ lx p) j scope [] pm (.ref c') ce) ⟨[v],[]⟩=pure [(lx,v)])
  (g:GOk P w K mg base (CXx P w) k G)(len:∀vs H Q E,sp vs H Q E->vs.length=ps.length)
  (h:∀vs H Q E,sp vs H Q E->mz (wpS G K (fun _=>E) l) (mz (qm (vk K T (wpE G K (fun _=>E) n)) (iV i)) (wpB G K (fun _=>E) m)) {nx:=fun _ H'=>Q .non H',rt:=Q} (start N vs) H):jm P w K mg base (CXx P w) (k+1) f q ps sp:=by
 have S:=BA Y;obtain⟨oc,od,kV,a1,pm,an,C,ct,a3,rfl,lk,X⟩:=F.ex;have D:C=.ref c:=W;subst D;refine fn_of lk X S len fun a0 outer a4 H vs Q E u Z=>?_;have o:=K4 (outer:=outer) (E:=E) (H:=H) S g u;refine⟨_,?_,h vs H Q E Z⟩;generalize hB:a7 st=j at b;cases j with
 |nil=>exact(ao b).elim
 |cons s1 r=>
  obtain⟨I,b⟩:=jA b;cases r with
  |nil=>exact(ao b).elim
  |cons s2 rest=>
  obtain⟨J,L⟩:=jA b;obtain⟨g',e,pa,scope,p1,a2,p2,p3,p,kp,cp,a5,rfl,s,M,t,a⟩:=Ic J;obtain⟨d,a⟩:=jA a;obtain⟨y,a⟩:=jA a;obtain⟨A,a⟩:=jA a;obtain⟨B,n5⟩:=jA a;rw[decide_eq_true_eq]at d y A B;have R:=sT (CX:=CXx P w) (fun _ _ _ _ _ z=>HY z) (.name i) _ o s;refine qV (JO (fun _ _ _ _ _ z=>HY z) l s1 o (fun _ _ _ _ _=>S.kind) I) (qV ?_ (nL (fun _ _ _ _ _ z=>HY z) m rest o (fun _ _ _ _ _=>S.kind) L));refine DO (KD (c:=c) (T:=T) (bF (fun _ _ _ _ _ z=>HY z) n e o t) (cf t [] _) (o.gl M) (g.blt _ (by decide+kernel)) rfl O hq U ?_ ?_) R (BG rfl _ _ _) (vS s (dh _) _) (by rw[qZ s];rfl)
  ·refine⟨?_,rfl,fun qual pm ce v c'=>V pa _ _ qual pm ce v c',by rw[d];simp,by simpa using n5,y,?_,A,B⟩;·unfold IL;rw[d];rfl
   ·rw[d];intro z hz;have :z=(lx,dZ.local):=by simpa using hz
    rw[this];exact fun z=>by cases z
  ·exact u.depth
end
abbrev kc(K:ah)(tabs:List Addr)(a:Addr)(vs:List Value)(ns:List Int):Hp:=fun b=>
 if b∈tabs then some (.tbl #[])else if b=a/\K.lookup a=none then some (.frz {cls:=.type "list",data:=.seq vs.toArray} (.lst (ns.map V.int)))else none
def HI{CX:CXT}{D:fg}{x:Str}{sp:Sp}{c:Shared}(B:K.In c.heap)
  (J:c.heap.Ns bu mg)(f:c.heap.Ns nr mb)(a0:∀x:Str,x≠"__name__"->mb x=fJ x)(a2:c.heap.NoLimit)(hg:c.gens= #[])(j:c.heap.get? a=some {cls:=.type "list",data:=.seq vs.toArray})
  (hi:bY vs ns) (I:ns.length<=sizeLine) (hr:i5 k GF) (t:∀p∈tabs,c.heap.get? p=some (tabObj #[])/\isCodeTable c.heap p/\K.lookup p=none)
  (F:∀base:Heap,K.In base->base.Ns bu mg->(∀b o,c.heap.get? b=some o->o.cls≠.none->o.cls≠.type "list"->base.get? b=some o)->jm P w K mg base CX k fa D [x] sp)
  (a1:∀(s:Shared)(u:Value),BindsTo s D ⟨[u],[]⟩ [(x,u)])
  (a4:∀H:Hp,(∀p∈tabs,H p=some (.tbl #[]))->SqL K H a (ns.map V.int)->sp [.ref a] H (fun v _=>v=.bl true) fun _ _ _=>False) (W:∀H e s',CX [] H c (fun _ _ _=>False) e s'->False):
  gA (model P w) GF (.call (.ref fa) ⟨[.ref a],[]⟩) (fun r s'=>r=.ok (.ret (.bool true))/\OldK c.heap s'.heap/\s'.os=c.os/\pJ s'.gens) c:=by
 have M:=sO hi;have a5:=hi.length;have y:∀b,(b∈tabs/\kc K tabs a vs ns b=some (.tbl #[]))\/(b=a/\K.lookup a=none/\kc K tabs a vs ns b=some (.frz {cls:=.type "list",data:=.seq vs.toArray} (.lst (ns.map V.int))))\/kc K tabs a vs ns b=none:=fun b=>by
  unfold kc;by_cases i:b∈tabs;·exact .inl ⟨i,if_pos i⟩
  ·rw[if_neg i];by_cases g:b=a/\K.lookup a=none;·exact .inr (.inl ⟨g.1,g.2,if_pos g⟩)
   ·exact .inr (.inr (if_neg g))
 have N:∀p∈tabs,kc K tabs a vs ns p=some (.tbl #[]):=fun p hp=>if_pos hp;have Z:a∉tabs:=fun z=>by have :=(t a z).1;rw[j]at this;cases this
 --what is neither a table nor a list is not tracked
 have O:∀{b:Addr}{o:Obj},c.heap.get? b=some o->o.cls≠.none\/(∃n l,o.data=.dict n l)->o.cls≠.type "list"\/(∃n l,o.data=.dict n l)->kc K tabs a vs ns b=none:=fun{b o} e i g=>by
  rcases y b with⟨q,_⟩ |⟨rfl,_⟩ |q
  ·have :=(t b q).1;rw[e]at this;cases this;rcases i with z|⟨_,_,z⟩;·exact absurd rfl z
   ·cases z
  ·rw[j]at e;cases e;rcases g with z|⟨_,_,z⟩;·exact absurd rfl z
   ·cases z
  ·exact q
 have A:∀{b:Addr}{m:Str->Option Value},c.heap.Ns b m->(B3 c.heap (kc K tabs a vs ns)).Ns b m:=fun{b m} ⟨o,n,l,e,d,r⟩=>⟨o,n,l,wt e (O e (.inr ⟨_,_,d⟩) (.inr ⟨_,_,d⟩)),d,r⟩;have G:K.In (B3 c.heap (kc K tabs a vs ns)):=fun b o e=>wt (B b o e) (by
  rcases y b with⟨q,_⟩ |⟨rfl,z,_⟩ |q;·rw[(t b q).2.2]at e;cases e
  ·rw[z]at e;cases e
  ·exact q)
 have a3:HOk P w (kc K tabs a vs ns) c.heap:=fun b o e=>by
  rcases y b with⟨q,z⟩ |⟨rfl,_,z⟩ |z;·rw[z]at e;cases e;exact(t b q).1
  ·rw[z]at e;cases e;exact⟨j,by rw[ai];exact I,vs,_,M,j⟩
  ·rw[z]at e;cases e
 have Y:SqL K (kc K tabs a vs ns) a (ns.map V.int):=by
  cases hk:K.lookup a with
  |none=>refine .inl (.inr ⟨{cls:=.type "list",data:=.seq vs.toArray},?_⟩);unfold kc;rw[if_neg Z,if_pos ⟨rfl,hk⟩]
  |some o=>have e:=B a o hk;rw[j]at e;cases e;exact .inr ⟨_,vs.toArray,_,hk,rfl,rfl,rfl,by rw[aw,a5];exact I,by simpa using M⟩
 have X:Mod K mg (B3 c.heap (kc K tabs a vs ns)):=⟨G,A J,⟨mb,A f,a0⟩,let⟨mc,i,g⟩:=a2;⟨mc,A i,g⟩⟩;have S:EN P w K mg (B3 c.heap (kc K tabs a vs ns)) GF [] c (kc K tabs a vs ns):=⟨rfl,X,fun b o e=>of_hidT e,xl (HU _ _),trivial,fun b f=>absurd (show b∈([]:List Addr)from f) (by simp),a3,.of_eq hg⟩;have U:=F _ G (A J) fun b o e i g=>wt e (O e (.inl i) (.inl g));refine jO (U.run GF [] c (kc K tabs a vs ns) ⟨[.ref a],[]⟩ [.ref a] [.ref a] _ _ hr S (a1 c (.ref a)) (.cons rfl .nil) (a4 _ N Y)) fun r s' h=>?_;cases r with
 |error e=>exact(W _ e s' h).elim
 |ok fl=>
  cases fl with
  |next =>exact gL h
  |brk=>exact gL h
  |cont=>exact gL h
  |ret u=>
   obtain⟨v,H',os,Q,un,L,r',q⟩:=h;have q':v=.bl true:=q;subst q';obtain rfl:u=AG true:=r';have kept:∀b o,c.heap.get? b=some o->b∉tabs->s'.heap.get? b=some o:=fun b o e nt=>by
    rcases y b with⟨z,_⟩ |⟨rfl,_,z⟩ |z;·exact absurd z nt
    ·have z2:=un.frzs b _ _ z;obtain⟨T,_⟩:=L b _ z2;rw[j]at e;cases e;exact T
    ·exact un.keep b o e z (by intro z;exact absurd (show b∈([]:List Addr)from z) (by simp)) (by simp)
   have E:∀b∈tabs,∃more,s'.heap.get? b=some (tabObj (#[]++more)):=fun b f=>by obtain⟨more,z⟩:=un.tbls b _ (N b f);exact⟨more,L b _ z⟩
   refine⟨rfl,⟨fun b o e=>?_,fun b o e=>?_⟩,os,Q⟩
   ·by_cases f:b∈tabs;·obtain⟨C,R,_⟩:=t b f;rw[e]at C;cases C;obtain⟨more,z⟩:=E b f;exact .inr (.inl ⟨R,rfl,#[],more,rfl,z⟩)
    ·exact .inl (kept b o e f)
   ·by_cases f:b∈tabs;·obtain⟨more,z⟩:=E b f;exact⟨_,z⟩
    ·exact⟨o,kept b o e f⟩
def bm_of(l:h.Ns bu mg)(j:∃bm a,mg "__builtins__"=some (.ref bm)/\bm≠nr/\h.get? bm=some a/\a.cls=.type "module"/\a.dict=some nr/\a.data=.plain):BM mg h:=by obtain⟨bm,a,d,f,b,g,i,c⟩:=j;refine⟨bm,a,d,f,fun q=>?_,b,g,i,c⟩;obtain⟨o,n,m,e,k,_⟩:=l;rw[q,e]at b;cases b;rw[k]at c;cases c
def Jg{l:PySem.W.OpenLaw}{q:Program}{XP:(Str->Option Value)->Heap->Prop}{YP:World->Heap->Prop}{d:DefRec}{K:Params->ah}{CX:CXT}{sp:ah->Sp}{x:Str}
  (Q:l.most=some n)(R:n<=sizeLine)(M:d.params.defaults=[])(U:i5 k GF)(I:∀(w:World)(h:Heap),YP w h->(K w.params).In h)
  (E:∀(w:World)(c:Shared)(mg mb:Str->Option Value)(h:Heap),Ground q loose [] XP w c mg mb h->YP w h->∀p∈tabs,h.get? p=some (tabObj #[])/\isCodeTable h p/\(K w.params).lookup p=none)
  (F:∀(w:World)(mg:Str->Option Value)(fa:Addr)(h:Heap),(K w.params).In h->h.Ns bu mg->mg d.name=some (.ref fa)->
   ∃fd:fg,(∀(s:Shared)(u:Value),BindsTo s fd ⟨[u],[]⟩ [(x,u)])/\
    ∀base:Heap,(K w.params).In base->base.Ns bu mg->BM mg base->jm l.prog w (K w.params) mg base CX k fa fd [x] (sp (K w.params)))
  (W:∀(K:ah)(H:Hp)(a:Addr)(ns:List Int),ns.length<=n->(∀p∈tabs,H p=some (.tbl #[]))->SqL K H a (ns.map V.int)->sp K [.ref a] H (fun v _=>v=.bl true) fun _ _ _=>False)
  (C:∀(H:Hp)(s:Shared)(e:Value)(s':Shared),CX [] H s (fun _ _ _=>False) e s'->False):
  PySem.W.WalkO q loose XP YP l.row.toRowW d [] (fun f vs=>PySem.call f vs):=by
 refine Att.CQ Q M fun w c a0 mg mb fa a3 pm cd a1 a vs ns G Y ho hd a2 P T O j N=>?_;have g:=I w _ Y;obtain⟨fd,J,D⟩:=F w mg fa _ g G.T.g P;have L:=bm_of G.T.g G.T.bmain;refine HI g G.T.g G.T.b G.T.builtins G.T.nolimit N T O (aF j R) U (E w c mg mb _ G Y) (fun base X Z k3=>D base X Z ?_) J (fun H t S=>W _ H a ns j t S) fun H e s'=>C H a0 e s';obtain⟨i,m,r,y,o,z,b,A,B⟩:=L;exact⟨i,m,r,y,o,k3 i m z (by rw[b];nofun) (by rw[b];decide),b,A,B⟩
end Lm
namespace Cp
open PySem PySem.Spec PyProof.Rows L2 R Lm
abbrev qW:List Str:=["table"]
abbrev jH:List Str:=["table","ordered"]
abbrev lB:CS:=.expr (.call "need_table" (.cons (.var 0) .nil))
abbrev lA:CB:=.cons (.ret (.comp ["name","readings"] [] (.tup (.cons (.name 0) (.cons (.name 1) .nil))) (.seq (.var 1)) .no (.tup (.cons (.var 0) (.cons (.bfn .tuple (.cons (.bfn .list (.cons (.var 1) .nil)) .nil)) .nil))))) .nil
def _root_.Lm.Gr.free{T:Tb}(g:Gr T H H')(t:Tab T H)(h:H' l=none):H l=none:=by
 cases e:H l with
 |none=>rfl
 |some o=>
  by_cases n:l=T.P
  ·rcases g.tab t with z|⟨_,_,_,_,_,z,_⟩;·rw[n,z]at h;cases h
   ·rw[n,z]at h;cases h
  ·rw[g.keep l o n e]at h;cases h
abbrev srt(H:Hp):V->List V
 |.ref a=>match cN (H a)with
  |some ys=>_root_.Q.sortBy .non (ys.map (aR H)) ys
  |none=>[]
 |_=>[]
def Copied(H H':Hp)(us zs:List V):Prop:=zs.length=us.length/\∀(i:Nat) z,zs[i]? =some z->∃b r,z=.ref b/\H' b=some (.tup [.str (aR H (us.getD i .non)),.ref r])/\H' r=some (.tup (sW H (us.getD i .non)))
def za(C:Addr)(T:Tb):Sp:=fun vs H Q E=>∃x,vs=[x]/\Kn4 H x/\Tab T H/\(bN H x=true->∀H' l zs,Gr T H H'->H l=none->H' l=some (.lst zs)->Copied H H' (srt H x) zs->Q (.ref l) H')/\(bN H x=false->∀H',aA H H'->E (.ref C) none H')
theorem tk_of(s:aA H H'):∀{xs:List V},(∀y∈xs,cF H y=true)->_root_.Q.sA H' xs (xs.map (aR H))
 | [],_=>.nil
 |y::xs,h=>by obtain⟨a,b,e,c,_⟩:=jJ (h y (.head _));exact .cons ⟨a,_,e,s _ _ c⟩ (tk_of s fun z d=>h z (.tail _ d))
def xu{G:Gam}{T:Tb}(P:G.fn "need_table" 1=some (y9 C,[])):
  ∀vs H Q E,za C T vs H Q E->mz (R.wpS G K (fun _=>E) lB) (mz (qm (vk K T (wpE G K (fun _=>E) (.var 0))) (iV 1)) (wpB G K (fun _=>E) lA)) {nx:=fun _ H'=>Q .non H',rt:=Q} (L2.start jH vs) H:=by
 rintro vs H Q E ⟨x,rfl,W,tb,q1,q2⟩;unfold lB lA;change mz _ _ _ [some x,none] H;unfold vk;ext;refine⟨_,_,P,x,rfl,W,fun e L k=>?_,q2⟩;obtain⟨a,d,rfl,A,S,B,D,h5⟩:=dD e;have a4:Tab T L:=(Gr.of k).tab tb;refine⟨a,d,d.map (aR H),rfl,k.seq (lO A),by rw[ai];lia,D,tk_of k B,a4,fun m l gr X=>?_⟩;have M:srt H (.ref a)=_root_.Q.sortBy V.non (d.map (aR H)) d:=by show(match cN (H a)with |some d=>_root_.Q.sortBy V.non (d.map (aR H)) d|none=>[])=_;rw[A]
 have w:(_root_.Q.sortBy V.non (d.map (aR H)) d).Perm d:=_root_.Q.fB V.non D (by simp);have o:=q1 e;rw[M]at o;generalize _root_.Q.sortBy V.non (d.map (aR H)) d=us at w o⊢;have j:Gr T H (upd m l (.lst us)):=(Gr.of k).trans (gr.trans (Gr.of (au X)));have n:upd m l (.lst us) l=some (.lst us):=aq;generalize upd m l (.lst us)=H3 at j n⊢;have a0:us.length<=40:=by rw[w.length_eq];exact S
 refine dF (dc rfl (SqL.of n) (d7 eE (aF a0 (by decide)) (fun f g=>SqL.of (g _ _ n)) (fun i v H'=>∃b r,v=V.ref b/\H' b=some (.tup [.str (aR H (us.getD i .non)),.ref r])/\H' r=some (.tup (sW H (us.getD i .non))))
  (fun i v f H5 h ⟨b,r,p,q,s⟩=>⟨b,r,p,h _ _ q,h _ _ s⟩) (fun J=>∃t u,J=[t,u]) ⟨none,none,rfl⟩ ?_ ?_))
 ·rintro a6 y J f R hi ⟨t,u,rfl⟩ g I a2;have Z:y∈d:=w.mem_iff.mp (aI I);obtain⟨b,c,rfl,k1,k2,k3,k4⟩:=jJ (B y Z);have N:=g _ _ (j.uE tb k1);have O:=g _ _ (j.uE tb k2);refine⟨b,_,rfl,SqT.of N,rfl,_,_,rfl,_,_,rfl,rfl,?_⟩;ext;refine⟨c,_,rfl,.inr (SqT.of O),fun l1 Y=>⟨l1,_,rfl,.inl ⟨SqL.of aq,fun r hr=>⟨aF (by simp :_<=2) (by decide),fun a3 hp=>a2 _ _ _ ⟨_,_,rfl⟩ ((au Y).trans ((au hr).trans (au hp))) ?_⟩⟩⟩⟩;rw[getD_some I];exact⟨a3,r,rfl,aq,by rw[aW (bI aq hp)];exact aq⟩
 ·intro vs f l2 a1 U g F;have z:Gr T H f:=j.trans (Gr.of g);have h:aA f (upd f l2 (.lst vs)):=au F;refine o _ l2 vs (z.trans (Gr.of h)) (z.free tb F) aq ⟨a1,fun i a5 hz=>?_⟩;obtain⟨b,r,p,q,s⟩:=U i a5 hz;exact⟨b,r,p,h _ _ q,h _ _ s⟩
end Cp
namespace K22
open PySem R
abbrev p_clash:List Str:=["table"]
abbrev FK:List Str:=["table","copies","count","one","other","names"]
abbrev yG:CB:=
  (.cons (.ret (.con .none))
  .nil)
abbrev yH:CB:=
  (.cons (.forr (.name 3) (.range1 (.var 2))
  (.cons (.forr (.name 4) (.range2 (.bin .Add (.var 3) (.con (.int 1))) (.var 2))
  (.cons (.asg (.name 5) (.call "first_of_kinds" (.cons (.var 1) (.cons (.var 3) (.cons (.var 4) .nil)))))
  (.cons (.iff (.cmp .IsNot (.var 5) (.con .none))
  (.cons (.ret (.tup (.cons (.var 3) (.cons (.var 4) (.cons (.var 5) .nil)))))
  .nil)
  .nil)
  .nil)))
  .nil))
  yG)
abbrev yI:CB:=
  (.cons (.asg (.name 2) (.call "place_count" (.cons (.var 1) .nil)))
  yH)
abbrev GB:CB:=
  (.cons (.asg (.name 1) (.call "table_list" (.cons (.var 0) .nil)))
  yI)
end K22
namespace K22
open PySem PySem.Spec PyProof.Rows L2 R Cp Lt Kc K21 Lm
abbrev cd(H:Hp)(y:V):Str×List V:=(aR H y,sW H y)
abbrev Hv(i:Int)(p:Str×List V):Int:=match p.2.getD i.toNat .non with
 |.int n=>n
 |_=>0
abbrev isK(i j:Int)(k:Int×Int)(p:Str×List V):Bool:=decide (Hv i p=k.1/\Hv j p=k.2)
abbrev rK(ac:List (Str×List V))(i j:Int):Bool:=KP.all fun k=>ac.any (isK i j k)
abbrev nQ(ac:List (Str×List V))(i j:Int)(k:Int×Int):Str:=((ac.find? (isK i j k)).map (·.1)).getD ""
def Gc{i j:Int}:lh H xs i j=rK (xs.map (cd H)) i j:=by unfold lh rK;congr 1;funext k;rw[GN];rfl
def La{i j:Int}(h:lh H xs i j=true):KP.map (firstOf H xs i j)=(KP.map (nQ (xs.map (cd H)) i j)).map V.str:=by
 rw[cD];refine cJ fun k d=>?_;have c:xs.any (fun y=>decide (num H i y=k.1/\num H j y=k.2))=true:=by unfold lh at h;exact bg.mp h k d
 have b:(fun y=>decide (kf H i j y=qv k))=(isK i j k)∘(cd H):=by
  funext y
  exact decide_eq_decide.mpr kf_eq
 show firstOf H xs i j k=V.str (nQ (xs.map (cd H)) i j k);unfold firstOf nQ;rw[b,List.find?_map];obtain⟨f,e,a⟩:=cw.mp c;cases hf:xs.find? ((isK i j k)∘(cd H))with
 |none=>rw[uA]at hf;exact absurd a (hf f e)
 |some y=>rfl
structure oZ(ac:List (Str×List V))(n i j:Nat):Prop where
 ij:i<j
 jn:j<n
 four:rK ac i j=true
 no:∀a b:Nat,a<b->b<n->(a<i\/a=i/\b<j)->rK ac a b=false
def NoC(ac:List (Str×List V))(n:Nat):Prop:=∀a b:Nat,a<b->b<n->rK ac a b=false
def oZ.one{c:List (Str×List V)}{a b:Nat}(f:oZ c n i j)(g:oZ c n a b):i=a/\j=b:=by
 have d:¬(a<i\/a=i/\b<j):=fun z=>by have :=f.no a b g.ij g.jn z;rw[g.four]at this;cases this
 have e:¬(i<a\/i=a/\j<b):=fun z=>by have :=g.no i j f.ij f.jn z;rw[f.four]at this;cases this
 lia
def Res(H:Hp)(ac:List (Str×List V))(n:Nat)(v:V):Prop:=(v=.non/\NoC ac n)\/∃(i j:Nat)(a l:Addr),v=.ref a/\oZ ac n i j/\H a=some (.tup [.int i,.int j,.ref l])/\H l=some (.tup ((KP.map (nQ ac i j)).map V.str))
abbrev rowsOf(H:Hp)(x:V):List (Str×List V):=(srt H x).map (cd H)
def mE(a:H b=some (.tup [.str z,.ref r]))(e:H r=some (.tup zs)):cd H (.ref b)=(z,zs):=by
 have c:aR H (.ref b)=z:=by show(match cA (H b)with |some (.str z::_)=>z|_=>("":Str))=_;rw[a];rfl
 have d:sW H (.ref b)=zs:=by show(match cA (H b)with |some [_,.ref b]=>(cA (H b)).getD [] |_=>[])=zs;rw[a];show(cA (H r)).getD []=zs;rw[e];rfl
 unfold cd;rw[c,d]
def mB{t:Addr}(h:cN (H t)=some ys):srt H (.ref t)=_root_.Q.sortBy .non (ys.map (aR H)) ys:=by show(match cN (H t)with |some ys=>_root_.Q.sortBy V.non (ys.map (aR H)) ys|none=>[])=_;rw[h]
def HA(h:cF H x=true):eO (aR H x)=true:=by obtain⟨_,_,_,_,_,_,_,a,_,_,b,_⟩:=hV h;rw[b];exact a
def wI(e:bN H x=true)(h:H' l=some (.lst zs))(c:Copied H H' (srt H x) zs):
  Kn4 H' (.ref l)/\bN H' (.ref l)=true/\count H' (.ref l)=count H x/\zs.map (cd H')=rowsOf H x:=by
 obtain⟨a,n,rfl,s,T,E,F,G⟩:=dD e;have Q:=mB s;have d:(srt H (.ref a)).Perm n:=by rw[Q];exact _root_.Q.fB V.non F (by simp)
 unfold rowsOf;generalize srt H (.ref a)=us at c d⊢;have Z:us.length<=40:=by rw[d.length_eq];exact T
 have K:∀u∈us,cF H u=true/\bB H u=count H (.ref a):=fun u I=>⟨E u (d.mem_iff.mp I),G u (d.mem_iff.mp I)⟩;have nd:(us.map (aR H)).Nodup:=(d.map (aR H)).nodup_iff.mpr F;have get:∀{i:Nat}{z:V},zs[i]? =some z->us[i]? =some (us.getD i .non)/\us.getD i .non∈us:=fun{i z} f=>by
  have hi:i<us.length:=by have :=(aH.mp f).1;rw[<-c.1];exact this
  have e:us[i]? =some (us.getD i .non):=by rw[af,ae hi];rfl
  exact⟨e,aI e⟩
 let nf:Nat->Str:=fun i=>if i<us.length then aR H (us.getD i .non)else "a"
 have J:∀i,eO (nf i)=true:=fun i=>by
  show eO (if i<us.length then aR H (us.getD i .non)else "a")=true;split
  ·rename_i hi;have e:us[i]? =some (us.getD i .non):=by rw[af,ae hi];rfl
   exact HA (K _ (aI e)).1
  ·decide+kernel
 have dr:Dr H' nf (count H (.ref a)) zs:=fun i z f=>by obtain⟨b,r,X,t,v⟩:=c.2 i z f;obtain⟨R,S⟩:=get f;have hi:i<us.length:=(aH.mp R).1;obtain⟨N,O⟩:=K _ S;obtain⟨_,_,_,_,_,k3,k4⟩:=jJ N;refine⟨b,r,_,X,?_,v,by rw[k3,O],k4⟩;show H' b=some (.tup [.str (if i<us.length then aR H (us.getD i .non)else "a"),.ref r]);rw[if_pos hi];exact t
 have hn60:n=[]\/count H (.ref a)<=60:=by
  cases n with
  |nil=>exact .inl rfl
  |cons y r=>
   right
   rw[<-G y (.head _)];obtain⟨_,_,_,_,_,_,_,_,U,_,_,W⟩:=hV (E y (.head _));rw[W];exact U
 have Y:∀i j,i<zs.length->j<zs.length->nf i=nf j->i=j:=fun i j hi w e=>by
  rw[c.1]at hi w;have o:(if i<us.length then aR H (us.getD i .non)else "a")=(if j<us.length then aR H (us.getD j .non)else "a"):=e;rw[if_pos hi,if_pos w]at o;have g:∀k (A:k<us.length),(us.map (aR H))[k]'(by simpa using A)=aR H (us.getD k .non):=fun k A=>by rw[bQ,af,ae A];rfl
  rw[<-g i hi,<-g j w]at o;exact(fL nd).mp o
 have L:zs=[]↔us=[]:=by rw[<-bA,c.1,bA]
 have M:zs.map (cd H')=us.map (cd H):=by
  apply jf
  intro i;rw[aC,aC];cases f:zs[i]? with
  |none=>
   have :us.length<=i:=by have :=List.getElem?_eq_none_iff.mp f;rw[c.1]at this;exact this
   rw[bX this];rfl
  |some z=>obtain⟨b,r,rfl,t,v⟩:=c.2 i z f;rw[(get f).1];show some (cd H' (.ref b))=some (cd H (us.getD i .non));rw[mE t v];rfl
 rcases hn60 with m|hn60
 ·have B:us=[]:=by rw[m]at d;exact List.perm_nil.mp d
  have a0:=L.mpr B;subst a0;have P:Dr H' nf 0 []:=fun i y e=>by simp at e
  obtain⟨C,D,_,_⟩:=rO J (fun i j hi=>absurd hi (by simp)) h P (by simp) (by decide);refine⟨C,D,?_,M⟩;have p:count H' (.ref l)=0:=by show(match cN (H' l)with |some (y::_)=>bB H' y|_=>0)=0;rw[h];rfl
  have q:count H (.ref a)=0:=by show(match cN (H a)with |some (y::_)=>bB H y|_=>0)=0;rw[s,m]
  rw[p,q]
 ·obtain⟨C,D,_,t4⟩:=rO J Y h dr (by rw[c.1];exact Z) hn60;refine⟨C,D,?_,M⟩;cases zs with
  |nil=>
   have B:=L.mp rfl;have m:n=[]:=by rw[B]at d;exact List.nil_perm.mp d
   have p:count H' (.ref l)=0:=by show(match cN (H' l)with |some (y::_)=>bB H' y|_=>0)=0;rw[h];rfl
   have q:count H (.ref a)=0:=by show(match cN (H a)with |some (y::_)=>bB H y|_=>0)=0;rw[s,m]
   rw[p,q]
  |cons z r=>show(match cN (H' l)with |some (y::_)=>bB H' y|_=>0)=_;rw[h];exact t4 z (.head _)
def ze(C:Addr)(T:Tb):Sp:=fun vs H Q E=>∃x,vs=[x]/\Kn4 H x/\Tab T H/\(bN H x=true->∀H' v,Gr T H H'->Res H' (rowsOf H x) (count H x) v->Q v H')/\(bN H x=false->∀H',aA H H'->E (.ref C) none H')
def Je{G:Gam}{T:Tb}(g1:G.fn "table_list" 1=some (za C T,[]))(g2:G.fn "place_count" 1=some (uS C,[]))(g3:G.fn "first_of_kinds" 3=some (zd,[])):
  Sat G K (ze C T) GB FK:=by
 rintro vs H a9 a8 ⟨x,rfl,hk,tb,q1,q2⟩;unfold GB yI;change wpB G K _ _ _ [some x,none,none,none,none,none] H;ext;refine⟨_,_,g1,x,rfl,hk,tb,fun e d l O gr hl E a0=>?_,q2⟩;obtain⟨kn,N,D,A⟩:=wI e E a0;have t:=q1 e;generalize rowsOf H x=rw0 at A t;generalize hn:count H x=n at D t;refine⟨_,_,g2,.ref l,rfl,kn,fun _ H2 s2=>?_,fun z=>by rw[N]at z;cases z⟩;rw[D];have U:cN (d l)=some O:=by rw[E];rfl
 have W:∀z:Nat,z<n->isPlace d (.ref l) (.int z)=true:=fun z hz=>decide_eq_true ⟨by lia,by lia⟩;have b0:n<=60:=by
  obtain⟨Q,b1,ea,S,f2,f3,f4,f5⟩:=dD N;cases ea;rw[U]at S;cases S;rw[<-D];cases O with
  |nil=>show(match cN (d l)with |some (y::_)=>bB d y|_=>0)<=60;rw[E];exact aM _
  |cons y r=>rw[<-f5 y (.head _)];obtain⟨_,_,_,_,_,_,_,_,a2,_,_,h8⟩:=hV (f3 y (.head _));rw[h8];exact a2
 unfold yH;ext;refine iJ ?_;ext;refine⟨(n:Int),rfl,by lia,by lia,?_⟩;refine gX dN (fun i h B=>aA d B/\(∀a b:Nat,a<i->a<b->b<n->rK rw0 a b=false)/\∃u v w,h=[some x,some (.ref l),some (.int n),u,v,w])
  ⟨s2,fun a b a1=>absurd a1 (by lia),none,none,none,rfl⟩ (fun _ _ _ _ _=>trivial) ?_ ?_
 ·rintro i y h P H4 D2 hi ⟨I,s,u,v,w,rfl⟩ rfl s4 a3 a6;have a5:i<n:=by lia
  ext;simp only[fX];refine iJ ?_;ext;refine⟨_,_,rfl,⟨by lia,by lia,by lia,by lia⟩,?_⟩;refine gX dN (fun m h B=>aA d B/\(∀b:Nat,i<b->b<i+1+m->rK rw0 i b=false)/\∃v w,h=[some x,some (.ref l),some (.int n),some (.int i),v,w])
   ⟨I.trans s4,fun b g c=>absurd c (by lia),_,_,rfl⟩ (fun _ _ _ _ _=>trivial) ?_ ?_
  ·rintro m y h X Y D3 hm ⟨J,o,v,w,rfl⟩ rfl s6 a4 a7;have F:i+1+m<n:=by lia
   have ej:(i:Int)+1+(m:Int)=((i+1+m:Nat):Int):=by lia
   ext;rw[ej];generalize hjj:i+1+m=j at F o⊢;have L:aA d Y:=J.trans s6;refine⟨_,_,g3,l,O,i,j,d,rfl,L,N,U,W i a5,W j F,fun f Z M=>?_,fun f Z p M hp ep=>?_⟩
   ·show if(!decide (V.non=V.non))=true then _ else _
    rw[if_neg (by simp)];refine a4 _ _ ⟨L.trans M,fun b g c=>?_,_,_,rfl⟩;by_cases hb:b=j;·rw[hb,<-A,<-Gc];exact f
    ·exact o b g (by lia)
   ·show if(!decide (V.ref p=V.non))=true then _ else _
    rw[if_pos (by simp)];refine⟨short (by simp),fun a q=>?_⟩;rw[a7,a6];refine t _ _ (gr.trans (Gr.of (L.trans (M.trans (au q))))) (.inr ⟨i,j,a,p,rfl,⟨by lia,F,by rw[<-A,<-Gc];exact f,fun Q R g c k=>?_⟩,aq,?_⟩)
    ·rcases k with k|⟨rfl,k⟩;·exact s Q R k g c
     ·exact o R g (by lia)
    ·rw[au q _ _ ep,La f,A]
  ·rintro h X ⟨J,o,v,w,rfl⟩;refine a3 _ _ ⟨J,fun a b g c k=>?_,_,_,_,rfl⟩;by_cases q:a=i;·subst q;exact o b c (by lia)
   ·exact s a b (by lia) c k
 ·rintro h P ⟨I,s,u,v,w,rfl⟩;unfold yG;ext;exact t P .non (gr.trans (Gr.of I)) (.inl ⟨rfl,fun a b g c=>s a b (by simp;lia) g c⟩)
theorem vZ{d g:Type}{f:d->g}{ys:List d}(hf:∀a∈ys,∀b∈ys,f a=f b->a=b):∀{l m:List d},(∀a∈l,a∈ys)->(∀a∈m,a∈ys)->l.map f=m.map f->l=m
 | [],[],_,_,_=>rfl
 | [],_::_,_,_,e=>by simp at e
 |_::_,[],_,_,e=>by simp at e
 |a::l,b::m,h1,h2,e=>by
  rw[a8,a8]at e;injection e with e1 e2
  rw[hf a (h1 a (.head _)) b (h2 b (.head _)) e1,vZ hf (fun x c=>h1 x (.tail _ c)) (fun x c=>h2 x (.tail _ c)) e2]
def Hx{c l:Type}{f:c->l}{ys:List c}(nd:(ys.map f).Nodup):∀a∈ys,∀b∈ys,f a=f b->a=b:=fun a g b h e=>by
 obtain⟨i,hi,rfl⟩:=d5.mp g;obtain⟨j,k,rfl⟩:=d5.mp h;have d:(ys.map f)[i]'(by simpa using hi)=(ys.map f)[j]'(by simpa using k):=by rw[bQ,bQ];exact e
 have :=(fL nd).mp d;subst this;rfl
end K22
namespace Q
open PySem PySem.Spec PySem.W PyProof.Rows L2
theorem ye(nd:ns.Nodup):(DY ns).Perm (aE ns.length):=by
 unfold DY;split;·exact dU _
 ·have P:=(fN (totI nd) (by lia)).1;have :=eQ.mp P.perm;simpa using this
end Q
namespace M3
open PySem
def and_nat(m n:Nat):iU (m:Int) (n:Int)=((m&&& n:Nat):Int):=by unfold iU;simp
def xor_bit{a b:Int}(c:a=0\/a=1)(d:b=0\/b=1):kL a b=if a=b then 0 else 1:=by rcases c with rfl|rfl<;>rcases d with rfl|rfl<;>decide
abbrev num:List Bool->Nat->Nat
 | [],n=>n
 |b::bs,n=>num bs (n*2+b.toNat)
theorem BB:∀(bs:List Bool)(b:Bool)(n:Nat),num (bs++[b]) n=num bs n*2+b.toNat
 | [],_,_=>rfl
 |c::bs,b,n=>BB bs b _
end M3
namespace M4
open Q
abbrev bl(f:Nat->Int)(n:Nat)(P:Nat->Bool):List Int:=(aE n).map fun p=>if P p=true then 1-f p else f p
def kz(f:Nat->Int)(n:Nat)(P:Nat->Bool):(bl f n P).length=n:=by simp[bl]
def yJ{f:Nat->Int}{P Q:Nat->Bool}(h:bl f n P=bl f n Q)(hf:∀p,p<n->f p=0\/f p=1){p:Nat}(hp:p<n):P p=Q p:=by
 have e:(bl f n P)[p]? =(bl f n Q)[p]? :=by rw[h]
 simp[bl,hp]at e;rcases hf p hp with z|z<;>cases hP:P p<;>cases hQ:Q p<;>simp[hP,hQ,z]at e⊢
abbrev sub(grp:Nat->Nat)(g p:Nat):Bool:=decide (grp p&&& g=g)
abbrev above(grp:Nat->Nat)(g p:Nat):Bool:=decide (grp p&&& g=g/\grp p≠g)
variable {f:Nat->Int}{grp:Nat->Nat}(hf:∀p,p<n->f p=0\/f p=1)
include hf
theorem CM{p:Nat}(hp:p<n):bl f n (sub grp (grp p))≠bl f n fun _=>false:=fun h=>by have :=yJ h hf hp;simp[sub]at this
theorem CK{p q:Nat}(hp:p<n)(hq:q<n)(c:grp p≠grp q):bl f n (sub grp (grp p))≠bl f n (sub grp (grp q)):=fun h=>by have a:=yJ h hf hp;have b:=yJ h hf hq;simp[sub]at a b;exact c (by rw[<-b,Nat.and_comm,a])
theorem Mu{p q:Nat}(hp:p<n)(hq:q<n)(c:bl f n (sub grp (grp p))=bl f n (above grp (grp q)))(d:bl f n (sub grp (grp q))=bl f n (above grp (grp p))):False:=by have a:=yJ c hf hp;have b:=yJ d hf hq;simp[sub,above]at a b;exact a.2 (by rw[<-b.1,Nat.and_comm,a.1])
theorem Fd{p:Nat}(hp:p<n):bl f n (above grp (grp p))≠bl f n (sub grp (grp p)):=fun h=>by have :=yJ h hf hp;simp[sub,above]at this
abbrev lo(a b:List Int):List Int:=if llt b a=true then b else a
abbrev hi(a b:List Int):List Int:=if llt a b=true then b else a
omit hf in
theorem lohi{a b c d:List Int}(e:lo a b=lo c d)(f:hi a b=hi c d)(g:a≠b)(h:c≠d):(a=c/\b=d)\/(a=d/\b=c):=by
 have i:=uY (bE g);have j:=uY (bE h);unfold lo at e;unfold hi at f;rw[i,j]at e;cases x:llt a b<;>cases y:llt c d<;>rw[x,y]at e f<;>simp only[Bool.not_false,gv,if_true,aX,if_false]at e f
 ·exact .inl ⟨f,e⟩
 ·exact .inr ⟨f,e⟩
 ·exact .inr ⟨e,f⟩
 ·exact .inl ⟨e,f⟩
theorem Il{p q:Nat}(hp:p<n)(hq:q<n)(c:grp p≠grp q):
  lo (bl f n (above grp (grp p))) (bl f n (sub grp (grp p)))++hi (bl f n (above grp (grp p))) (bl f n (sub grp (grp p)))≠
  lo (bl f n (above grp (grp q))) (bl f n (sub grp (grp q)))++hi (bl f n (above grp (grp q))) (bl f n (sub grp (grp q))):=fun h=>by
 have len:∀P Q:Nat->Bool,(lo (bl f n P) (bl f n Q)).length=n:=fun P Q=>by unfold lo;split <;>exact kz _ _ _
 obtain⟨a,b⟩:=List.append_inj h ((len _ _).trans (len _ _).symm);rcases lohi a b (Fd hf hp) (Fd hf hq)with⟨_,z⟩ |⟨d,e⟩;·exact CK hf hp hq c z
 ·exact Mu hf hp hq e d.symm
end M4
namespace Q
open L2
def G5(nd:ns.Nodup):∃qs:List Int,sortI ns=qs.map V.int/\qs.Perm ns:=by
 refine⟨(DY ns).map fun i=>ns.getD i 0,?_,?_⟩;·unfold sortI;rw[cD];refine cJ fun i hi=>?_;have a:i<ns.length:=bp.mp ((ye nd).mem_iff.mp hi);show(ns.map V.int).getD i .non=V.int (ns.getD i 0);rw[af,af,aC,ae a];rfl
 ·have h:=(ye nd).map fun i=>ns.getD i 0;rw[range_getD]at h;exact h
end Q
namespace M5
open M3 M4 Q L2
abbrev plc(n:Nat)(P:Nat->Bool):List Int:=((aE n).filter P).map fun p:Nat=>(p:Int)
def uX{P:Nat->Bool}(h:i<n):(i:Int)∈plc n P↔P i=true:=by
 unfold plc;rw[aJ];constructor
 ·rintro⟨p,hp,e⟩;have :p=i:=by lia
  rw[<-this];exact(iM.mp hp).2
 ·intro e;exact⟨i,iM.mpr ⟨bp.mpr h,e⟩,rfl⟩
abbrev trn(zs:List Int)(a:List Int):List Int:=(aE zs.length).map fun i:Nat=>if(i:Int)∈a then 1-zs.getD i 0 else zs.getD i 0
def G0{a:List Int}{P:Nat->Bool}:trn a (plc a.length P)=bl (fun p=>a.getD p 0) a.length P:=by
 unfold trn bl;refine cJ fun i hi=>?_;have hi:=bp.mp hi;by_cases h:P i=true;·rw[if_pos ((uX hi).mpr h),if_pos h]
 ·rw[if_neg (fun z=>h ((uX hi).mp z)),if_neg h]
def bl_getD{f:Nat->Int}{P:Nat->Bool}(h:i<n):(bl f n P).getD i 0=if P i=true then 1-f i else f i:=by unfold bl;rw[af,aC,cn h];rfl
def trn_bl{f:Nat->Int}{S E:Nat->Bool}(h:∀p,E p=true->S p=true):trn (bl f n S) (plc n E)=bl f n fun p=>S p&& !E p:=by
 unfold trn;rw[kz];refine cJ fun i hi=>?_;have hi:=bp.mp hi;rw[bl_getD hi];show _=if(S i&& !E i)=true then 1-f i else f i
 cases hE:E i with
 |true=>
  rw[if_pos ((uX hi).mpr hE),h i hE,if_pos rfl];show 1-(1-f i)=if(true&& !true)=true then _ else f i
  rw[if_neg (by simp)];lia
 |false=>rw[if_neg (fun z=>by rw[(uX hi).mp z]at hE;cases hE)];cases S i<;>rfl
def L6(a:List Int):bl (fun p=>a.getD p 0) a.length (fun _=>false)=a:=by
 unfold bl;apply bR;·simp
 ·intro i c b;simp[b]
abbrev own(grp:Nat->Nat)(g p:Nat):Bool:=decide (grp p=g)
def own_sub{grp:Nat->Nat}{g p:Nat}(h:own grp g p=true):sub grp g p=true:=by have :grp p=g:=of_decide_eq_true h;refine decide_eq_true ?_;rw[this];exact Nat.and_self g
def MK(grp:Nat->Nat)(g:Nat):(fun p=>sub grp g p&& !own grp g p)=above grp g:=by
 funext p
 unfold sub own above;by_cases h1:grp p&&& g=g<;>by_cases h2:grp p=g<;>simp[h1,h2]
abbrev nB(f:Nat->Int)(n:Nat)(grp:Nat->Nat)(q:Int):List Int:=bl f n (sub grp q.toNat)
abbrev nA(f:Nat->Int)(n:Nat)(grp:Nat->Nat)(q:Int):List Int:=bl f n (above grp q.toNat)
abbrev jg(f:Nat->Int)(n:Nat)(grp:Nat->Nat)(qs:List Int):List (List Int):=bl f n (fun _=>false)::qs.map (nB f n grp)
abbrev brK(f:Nat->Int)(n:Nat)(grp:Nat->Nat)(qs:List Int):List (List Int×List Int):=qs.map fun q=>(lo (nA f n grp q) (nB f n grp q),hi (nA f n grp q) (nB f n grp q))
def Grs(n:Nat)(grp:Nat->Nat)(qs:List Int):Prop:=qs.Nodup/\∀q∈qs,∃p,p<n/\q=(grp p:Int)
section
variable {f:Nat->Int}{grp:Nat->Nat}(hf:∀p,p<n->f p=0\/f p=1)(hq:Grs n grp qs)
include hf hq
theorem Lo{j:Type}{F:Int->j}(h:∀p q,p<n->q<n->grp p≠grp q->F (grp p:Int)≠F (grp q:Int)):(qs.map F).Nodup:=by refine mR.mpr ?_;have p:List.Pairwise (fun a b=>a≠b) qs:=hq.1;refine(List.Pairwise.and_mem.mp p).imp ?_;rintro a b ⟨c,d,f⟩;obtain⟨x,g,rfl⟩:=hq.2 a c;obtain⟨y,i,rfl⟩:=hq.2 b d;exact h x y g i (fun e=>f (by rw[e]))
theorem BF:(jg f n grp qs).Nodup:=by
 unfold jg;refine cG.mpr ⟨fun z=>?_,Lo hf hq fun p q hp a b=>?_⟩;·obtain⟨q,a,e⟩:=aJ.mp z;obtain⟨p,hp,rfl⟩:=hq.2 q a;exact CM hf hp (by unfold nB at e;rw[aQ]at e;exact e)
 ·unfold nB;rw[aQ,aQ];exact CK hf hp a b
theorem ME:((brK f n grp qs).map lS).Nodup:=by unfold brK;rw[cD];refine Lo hf hq fun p q hp b a=>?_;show lo (nA f n grp (grp p:Int)) (nB f n grp (grp p:Int))++hi (nA f n grp (grp p:Int)) (nB f n grp (grp p:Int))≠lo (nA f n grp (grp q:Int)) (nB f n grp (grp q:Int))++hi (nA f n grp (grp q:Int)) (nB f n grp (grp q:Int));unfold nA nB;rw[aQ,aQ];exact Il hf hp b a
end
def yh{f:Nat->Int}{grp:Nat->Nat}:∀k∈jg f n grp qs,k.length=n:=fun k hk=>by
 rcases aG.mp hk with rfl|hk;·exact kz _ _ _
 ·obtain⟨q,_,rfl⟩:=aJ.mp hk;exact kz _ _ _
def lo_len{a b:List Int}(c:a.length=n)(d:b.length=n):(lo a b).length=n:=by unfold lo;split <;>assumption
def hi_len{a b:List Int}(c:a.length=n)(d:b.length=n):(hi a b).length=n:=by unfold hi;split <;>assumption
def brK_len{f:Nat->Int}{grp:Nat->Nat}:∀k∈brK f n grp qs,k.1.length=n/\k.2.length=n:=fun k a=>by obtain⟨q,_,rfl⟩:=aJ.mp a;exact⟨lo_len (kz _ _ _) (kz _ _ _),hi_len (kz _ _ _) (kz _ _ _)⟩
def F9{grp:Nat->Nat}(h:Grs n grp qs):qs.length<=n:=by
 have e:qs.length<=((aE n).map fun p:Nat=>(grp p:Int)).length:=by refine List.Nodup.length_le_of_subset h.1 fun q hq=>?_;obtain⟨p,hp,rfl⟩:=h.2 q hq;exact aJ.mpr ⟨p,bp.mpr hp,rfl⟩
 simpa using e
end M5
namespace K32
open PySem R
abbrev DW:List Str:=["copies","place"]
abbrev vW:List Str:=["copies","place","first","group","name","readings"]
abbrev sf:CB:=
  (.cons (.ret (.var 3))
  .nil)
abbrev sg:CB:=
  (.cons (.forr (.tup (.cons (.name 4) (.cons (.name 5) .nil))) (.seq (.var 0))
  (.cons (.asg (.name 3) (.bin .Add (.bin .Mult (.var 3) (.con (.int 2))) (.bin .BitXor (.idx (.var 5) (.var 1)) (.var 2))))
  .nil))
  sf)
abbrev si:CB:=
  (.cons (.asg (.name 3) (.con (.int 0)))
  sg)
abbrev wW:CB:=
  (.cons (.asg (.name 2) (.idx (.idx (.idx (.var 0) (.con (.int 0))) (.con (.int 1))) (.var 1)))
  si)
abbrev KZ:List Str:=["readings","places"]
abbrev BJ:List Str:=["readings","places"]
abbrev Cv:CB:=
  (.cons (.ret (.bfn .tuple (.cons (.comp ["place","reading"] [1] (.tup (.cons (.name 0) (.cons (.name 1) .nil))) (.enumt (.var 0)) .no (.ite (.cmp .In (.var 0) (.var 2)) (.bin .Sub (.con (.int 1)) (.var 1)) (.var 1))) .nil)))
  .nil)
abbrev p_grown:List Str:=["copies"]
abbrev FJ:List Str:=["copies","first","groups","nodes","branches","group","places","around","below","above"]
abbrev yB:CB:=
  (.cons (.ret (.tup (.cons (.bfn .sortl (.cons (.var 3) .nil)) (.cons (.bfn .sortt (.cons (.var 4) .nil)) .nil))))
  .nil)
abbrev oN:CB:=
  (.cons (.expr (.meth1 .append (.var 4) (.tup (.cons (.bfn .minl (.cons (.var 9) (.cons (.var 8) .nil))) (.cons (.bfn .maxl (.cons (.var 9) (.cons (.var 8) .nil))) (.cons (.bfn .tuple (.cons (.var 6) .nil)) .nil))))))
  .nil)
abbrev oO:CB:=
  (.cons (.expr (.meth1 .append (.var 3) (.var 8)))
  oN)
abbrev uo:CB:=
  (.cons (.asg (.name 9) (.call "turned" (.cons (.var 8) (.cons (.var 6) .nil))))
  oO)
abbrev oP:CB:=
  (.cons (.asg (.name 8) (.call "turned" (.cons (.var 1) (.cons (.var 7) .nil))))
  uo)
abbrev ur:CB:=
  (.cons (.asgc 7 (.comp ["place"] [5,2] (.name 0) (.range1 (.bfn .len (.cons (.var 1) .nil))) (.yes (.cmp .Eq (.bin .BitAnd (.idx (.var 2) (.var 0)) (.var 1)) (.var 1))) (.var 0)))
  oP)
abbrev oQ:CB:=
  (.cons (.asgc 6 (.comp ["place"] [5,2] (.name 0) (.range1 (.bfn .len (.cons (.var 1) .nil))) (.yes (.cmp .Eq (.idx (.var 2) (.var 0)) (.var 1))) (.var 0)))
  ur)
abbrev yC:CB:=
  (.cons (.forr (.name 5) (.lseq (.sortset (.var 2)))
  (.cons (.iff (.cmp .Eq (.var 5) (.con (.int 0)))
  (.cons (.cont)
  .nil)
  .nil)
  oQ))
  yB)
abbrev yD:CB:=
  (.cons (.asg (.name 4) (.lst .nil))
  yC)
abbrev yE:CB:=
  (.cons (.asg (.name 3) (.lst (.cons (.var 1) .nil)))
  yD)
abbrev yF:CB:=
  (.cons (.asgc 2 (.comp ["place"] [0] (.name 0) (.range1 (.bfn .len (.cons (.var 1) .nil))) .no (.call "group_at" (.cons (.var 1) (.cons (.var 0) .nil)))))
  yE)
abbrev GA:CB:=
  (.cons (.asg (.name 1) (.idx (.idx (.var 0) (.con (.int 0))) (.con (.int 1))))
  yF)
end K32
namespace K32
open PySem PySem.Spec PyProof.Rows L2 R Cp Lt Kc K21 K22 Lm M3 M4 M5
def eU(h:n<=63):n<=sizeLine:=aF h (by decide)
def xE(h:n<=63):n<sizeLine:=iT h (by decide)
def xor_ii{i j:Int}{Q:VK}:uF K .BitXor (.int i) (.int j) H Q↔Q (.int (kL i j)) H:=by show rI0 _ _ _ _ _↔_;simp[rI0]
def and_ii{i j:Int}{Q:VK}:uF K .BitAnd (.int i) (.int j) H Q↔Q (.int (iU i j)) H:=by show rI0 _ _ _ _ _↔_;simp[rI0]
def F7(a:Int)(l:List Int):inV (V.int a) (l.map V.int)=decide (a∈l):=by
 unfold inV;rw[GN,eB,cw,decide_eq_true_eq];constructor;·rintro⟨x,b,e⟩;have :x=a:=beq_iff_eq.mp e;rw[<-this];exact b
 ·intro h;exact⟨a,h,beq_self_eq_true a⟩
def tE(b:List Int):(b.map V.int).all rM=true:=by rw[bg];intro v a;obtain⟨m,_,rfl⟩:=aJ.mp a;rfl
def x9:tL (Itet K a) xs.length (fun i x H=>∃p v,x=.ref p/\H p=some (.tup [.int i,v])/\xs[i]? =some v) (fun H=>SqT K H a xs):=JV
def gW{a:List Int}(h:i<a.length):(a.map V.int)[i]? =some (.int (a.getD i 0)):=by rw[aC,ae h,af,ae h];rfl
structure Cps(H:Hp)(c:Addr)(ys:List V)(n:Nat)(ac:List (List Int)):Prop where
 ec:H c=some (.lst ys)
 len:ys.length<=40
 rl:ac.length=ys.length
 n60:n<=60
 at_:∀(i:Nat) y,ys[i]? =some y->∃b z r,y=.ref b/\H b=some (.tup [.str z,.ref r])/\H r=some (.tup ((ac.getD i []).map V.int))
 rd:∀zs∈ac,zs.length=n/\∀x∈zs,x=0\/x=1
def Cps.same(d:Cps H c ys n ac)(s:aA H H'):Cps H' c ys n ac:=
 {d with ec:=s _ _ d.ec,at_:=fun i y e=>let⟨b,z,r,h1,h2,h3⟩:=d.at_ i y e;⟨b,z,r,h1,s _ _ h2,s _ _ h3⟩}
def Cps.row(d:Cps H c ys n ac)(hi:i<ys.length):(ac.getD i []).length=n/\∀p,p<n->(ac.getD i []).getD p 0=0\/(ac.getD i []).getD p 0=1:=by
 have a:i<ac.length:=by rw[d.rl];exact hi
 have e:ac.getD i []=ac[i]:=by rw[af,ae a];rfl
 obtain⟨b,f⟩:=d.rd ac[i] (a6 a);rw[e];refine⟨b,fun p hp=>f _ ?_⟩;rw[af,ae (by lia)];exact a6 _
abbrev fr(ac:List (List Int))(p:Nat):Int:=(ac.getD 0 []).getD p 0
abbrev bt(ac:List (List Int))(p:Nat)(r:List Int):Bool:= !decide (r.getD p 0=fr ac p)
abbrev grp(ac:List (List Int))(p:Nat):Nat:=M3.num (ac.map (bt ac p)) 0
def zc:Sp:=fun vs H Q _=>∃(c:Addr)(p:Nat)(ys:List V)(n:Nat)(ac:List (List Int)),vs=[.ref c,.int p]/\Cps H c ys n ac/\ys≠[]/\p<n/\∀H',aA H H'->Q (.int (grp ac p)) H'
def Jc{G:Gam}:Sat G K zc wW vW:=by
 rintro Z H Q E ⟨c,p,e,n,a,rfl,d,O,hp,q⟩;unfold wW;change wpB G K _ _ _ [some (.ref c),some (.int p),none,none,none,none] H;ext;have g:0<e.length:=iu.mpr O;obtain⟨b,z,r,x,A,B⟩:=d.at_ 0 e[0] (ae g);obtain⟨X,S⟩:=d.row g;have L:e[0]? =some (.ref b):=by rw[ae g,x]
 refine .inl ⟨c,e,0,_,rfl,rfl,SqL.of d.ec,cC (j:=0) L,?_⟩;refine .inr (.inl ⟨b,_,1,_,rfl,rfl,SqT.of A,rfl,?_⟩);refine .inr (.inl ⟨r,_,p,_,rfl,rfl,SqT.of B,cC (gW (by lia)),?_⟩);unfold si;ext;unfold sg;ext;refine iJ (dc rfl (SqL.of d.ec) (gX eE (fun k f m=>aA H m/\∃u v,f=[some (.ref c),some (.int p),some (.int (fr a p)),some (.int (M3.num ((a.take k).map (bt a p)) 0:Nat)),u,v])
  ⟨aA.refl _,none,none,rfl⟩ (fun k f m _ s=>s.1.seq (SqL.of d.ec)) ?_ ?_))
 ·rintro k y f o W V t ⟨i,u,v,rfl⟩ P T M _;obtain⟨w,z',R,rfl,I,J⟩:=d.at_ k y P;have l:=i.trans T;obtain⟨Y,U⟩:=d.row t;have N:k<a.length:=by rw[d.rl];exact t
  refine⟨w,_,rfl,SqT.of (l _ _ I),rfl,_,_,rfl,_,_,rfl,rfl,?_⟩;ext;refine⟨yx (by decide) (by decide),.inr (.inl ⟨R,_,p,_,rfl,rfl,SqT.of (l _ _ J),cC (gW (by lia)),?_⟩)⟩;refine xor_ii.mpr (wY.mpr ?_);rw[show kL ((a.getD k []).getD p 0) (fr a p)=if(a.getD k []).getD p 0=(a.getD 0 []).getD p 0 then 0 else 1 from xor_bit (U p hp) (S p hp)];have F:a.take (k+1)=a.take k++[a.getD k []]:=by rw[dI,af,ae N];rfl
  have D:(if(a.getD k []).getD p 0=(a.getD 0 []).getD p 0 then(0:Int)else 1)=((bt a p (a.getD k [])).toNat:Int):=by
   unfold bt fr;by_cases h:(a.getD k []).getD p 0=(a.getD 0 []).getD p 0;·rw[if_pos h,decide_eq_true h];rfl
   ·rw[if_neg h,decide_eq_false h];rfl
  have C:((M3.num ((a.take k).map (bt a p)) 0:Nat):Int)*2+((bt a p (a.getD k [])).toNat:Int)=((M3.num ((a.take (k+1)).map (bt a p)) 0:Nat):Int):=by rw[F,cH,a8,hJ,BB];push_cast;rfl
  rw[D,C];exact M _ _ ⟨l,_,_,rfl⟩
 ·rintro f o ⟨i,u,v,rfl⟩;unfold sf;ext;rw[<-d.rl,fK];exact q o i
def nK(K:ah):Sp:=fun vs H Q _=>∃(r b:Addr)(zs a:List Int),vs=[.ref r,.ref b]/\SqT K H r (zs.map V.int)/\SqL K H b (a.map V.int)/\zs.length<=60/\
 ∀(H':Hp)(p:Addr),aA H H'->H p=none->H' p=some (.tup ((trn zs a).map V.int))->Q (.ref p) H'
def GS{G:Gam}:Sat G K (nK K) Cv BJ:=by
 rintro d H Q E ⟨r,b,f,a,rfl,j,w,A,q⟩;unfold Cv;change wpB G K _ _ _ [some (.ref r),some (.ref b)] H;ext;refine dF ⟨_,rfl,r,rfl,⟨_,j⟩,?_⟩;refine d7 x9 (eU (by rw[ai];lia)) (fun s c=>c.tup j) (fun i v _=>v=.int (if(i:Int)∈a then 1-f.getD i 0 else f.getD i 0)) (fun _ _ _ _ _ h=>h) (fun o=>∃u v,o=[u,v,some (.ref b)]) ⟨none,none,rfl⟩ ?_ ?_
 ·rintro i x o s R hi ⟨u,v,rfl⟩ c ⟨p,v,rfl,hp,m⟩ k;rw[ai]at hi;rw[gW hi]at m;cases m;refine⟨p,_,rfl,SqT.of hp,rfl,_,_,rfl,_,_,rfl,rfl,?_⟩;ext;refine .inr ⟨b,_,rfl,.inl (c.seq w),rfl,tE a,_,rfl,?_⟩;show if inV (V.int (i:Int)) (a.map V.int)=true then _ else _
  rw[F7];by_cases h:(i:Int)∈a;·rw[decide_eq_true h,if_pos rfl];exact k _ _ _ ⟨_,_,rfl⟩ (aA.refl _) (by rw[if_pos h])
  ·rw[decide_eq_false h,if_neg ao];exact k _ _ _ ⟨_,_,rfl⟩ (aA.refl _) (by rw[if_neg h])
 ·intro d z l y t n g;rw[ai]at y;have e:d=(trn f a).map V.int:=by
   unfold trn;apply jf;intro i;rw[aC,aC];by_cases hi:i<d.length;·rw[ae hi,cn (by lia),t i _ (ae hi)];rfl
   ·rw[bX (by lia),bX (by rw[aY];lia)];rfl
  rw[e];exact⟨l,_,rfl,.inl ⟨SqL.of aq,fun p hp=>q _ p (n.trans ((au g).trans (au hp))) ((n.trans (au g)).free hp) aq⟩⟩
def B7{J:It}{l:Nat->V->Hp->Prop}{k:Hp->Prop}{g:TG}{tb:TS}{D:Ends}(S:tL J n l k)(e:Nat->L2.St->Hp->Prop)(h0:e 0 σ H)(o:∀i σ H,i<=n->e i σ H->k H)
  (p:∀i x σ H H' (j:Ends),i<n->e i σ H->l i x H'->aA H H'->(∀f H2,e (i+1) f H2->j.nx f H2)->(∀f H2,e (i+1) f H2->j.ct f H2)->g x σ H' fun f H2=>tb j f H2)(m:∀σ H,e n σ H->D.nx σ H):ForB J g tb D σ H:=
 Gd S e h0 o (fun i x σ H H' a b c d=>p i x σ H H' _ a b c d (fun _ _ h=>h) (fun _ _ h=>h)) m
def Bd:tL (Itr 0 n) (nats n).length (fun i x _=>(nats n)[i]? =some x) (fun _=>True) where
 go:=fun i H h hi=>dN.go i H h (by simpa[nats]using hi)
 stop:=fun i H h hi=>dN.stop i H h (by simpa[nats]using hi)
 yld:=fun i H x b h hi y=>by
  have a:i<n:=by simpa[nats]using hi
  obtain⟨e,s⟩:=dN.yld i H x b h a y;refine⟨?_,s⟩;subst e;unfold nats;rw[aC,cn a,fX];rfl
def Hy{t:V->Bool}{P:Nat->Bool}(h:∀p,p<n->t (.int p)=P p):((nats n).filter t).map id=(plc n P).map V.int:=by unfold nats plc;rw[xQ,kC,cD];rw[show(aE n).filter (t∘fun i:Nat=>V.int (i:Int))=(aE n).filter P from List.filter_congr fun p hp=>h p (bp.mp hp)];rfl
def Paired.snoc{c d:Type}{F:c->d->Prop}{a:c}{b:d}(h:F a b){l:List c}{m:List d}(p:Paired F l m):Paired F (l++[a]) (m++[b]):=by
 induction p with
 |nil=>exact .cons h .nil
 |cons x r ih=>exact .cons x ih
def Tk(H H':Hp):Prop:=∀a xs,H a=some (.tup xs)->H' a=some (.tup xs)
def Tk.of(s:aA H H'):Tk H H':=fun a _ e=>s a _ e
def sQ(h:H a=some (.lst xs)):Tk H (upd H a (.lst ys)):=fun b _ e=>by rw[aW (fun z=>by rw[z,h]at e;cases e)];exact e
def dY(t:Tk H H'){ps:List (List Int)}(h:_root_.Q.IntKeys H ys ps):_root_.Q.IntKeys H' ys ps:=Paired.rG h fun v k z=>by obtain⟨a,e,f⟩:=z;exact⟨a,e,t _ _ f⟩
def BrOf(f:Nat->Int)(n:Nat)(g:Nat->Nat)(H:Hp)(v:V)(q:Int):Prop:=∃a x y z,v=V.ref a/\H a=some (.tup [.ref x,.ref y,.ref z])/\H x=some (.tup ((lo (nA f n g q) (nB f n g q)).map V.int))/\H y=some (.tup ((hi (nA f n g q) (nB f n g q)).map V.int))/\H z=some (.tup ((plc n (own g q.toNat)).map V.int))
def mO(f:Nat->Int)(n:Nat)(g:Nat->Nat)(H:Hp)(bs:List V)(qs:List Int):Prop:=Paired (BrOf f n g H) bs qs
def mO.tk{f:Nat->Int}{g:Nat->Nat}(t:Tk H H'){bs:List V}(h:mO f n g H bs qs):mO f n g H' bs qs:=Paired.rG h fun v k w=>by obtain⟨a,x,y,z,e,b,c,d,i⟩:=w;exact⟨a,x,y,z,e,t _ _ b,t _ _ c,t _ _ d,t _ _ i⟩
def mO.two{f:Nat->Int}{g:Nat->Nat}{bs:List V}(h:mO f n g H bs qs):_root_.Q.jl H bs (brK f n g qs):=by
 unfold mO at h
 induction h with
 |nil=>exact .nil
 |cons x r ih=>obtain⟨a,x,y,z,e,b,c,d,_⟩:=x;exact .cons ⟨a,x,y,_,e,b,c,d⟩ ih
def eX{a b:Type}{F:a->b->Prop}{l:List a}{m:List b}(h:Paired F l m):m.length=l.length:=by
 induction h with
 |nil=>rfl
 |cons _ _ ih=>simp[ih]
abbrev gsI(ac:List (List Int))(n:Nat):List Int:=(aE n).map fun p:Nat=>(grp ac p:Int)
def z8:(gsI ac n).length=n:=by simp[gsI]
def LW{p:Nat}(h:p<n):(gsI ac n).getD p 0=(grp ac p:Int):=by unfold gsI;rw[af,aC,cn h];rfl
abbrev dn(qs:List Int)(k:Nat):List Int:=(qs.take k).filter fun q=> !decide (q=0)
def dn_zero(h:qs[k]? =some 0):dn qs (k+1)=dn qs k:=by unfold dn;rw[dI,h,lH];simp
def Gj{q:Int}(h:qs[k]? =some q)(a:q≠0):dn qs (k+1)=dn qs k++[q]:=by unfold dn;rw[dI,h,lH];simp[a]
def Mf{g:Nat->Nat}(h:Grs n g qs):Grs n g (dn qs k):=by have s:(dn qs k).Sublist qs:=sM.trans (ve k qs);exact⟨h.1.sublist s,fun q hq=>h.2 q (s.subset hq)⟩
def Me{g:Nat->Nat}(h:Grs n g qs):(dn qs k).length<=n:=F9 (Mf h)
structure Fx(H:Hp)(gl nd br so:Addr):Prop where
 fnd:H nd=none
 fbr:H br=none
 n1:nd≠br
 n2:nd≠gl
 n3:nd≠so
 n4:br≠gl
 n5:br≠so
structure Gx(ac:List (List Int))(n:Nat)(qs:List Int)(H:Hp)(gl nd br so:Addr)(ds:List Int)(ks bs:List V)(H':Hp):Prop where
 s:aA H H'
 eg:H' gl=some (.lst ((gsI ac n).map V.int))
 eo:H' so=some (.lst (qs.map V.int))
 en:H' nd=some (.lst ks)
 eb:H' br=some (.lst bs)
 nk:_root_.Q.IntKeys H' ks (jg (fr ac) n (grp ac) ds)
 bk:mO (fr ac) n (grp ac) H' bs ds
section
variable {gl nd br so c r0:Addr}{ds:List Int}{ks bs:List V}{G:Gam}{E:XS}{D:Ends}
def Gx.same{a:Hp}(g:Gx ac n qs H gl nd br so ds ks bs H')(s:aA H' a):Gx ac n qs H gl nd br so ds ks bs a:=
 ⟨g.s.trans s,s _ _ g.eg,s _ _ g.eo,s _ _ g.en,s _ _ g.eb,dY (Tk.of s) g.nk,g.bk.tk (Tk.of s)⟩
def Gx.ksl(g:Gx ac n qs H gl nd br so ds ks bs H'):ks.length=ds.length+1:=by have :=eX g.nk;simpa[jg]using this.symm
def Gx.bsl(g:Gx ac n qs H gl nd br so ds ks bs H'):bs.length=ds.length:=(eX g.bk).symm
def Gv(ac:List (List Int))(n:Nat)(qs:List Int)(H:Hp)(c r0 gl nd br so:Addr)(k:Nat)(σ:L2.St)(H':Hp):Prop:=
 (∃ks bs,Gx ac n qs H gl nd br so (dn qs k) ks bs H')/\∃u v w x y,σ=[some (.ref c),some (.ref r0),some (.ref gl),some (.ref nd),some (.ref br),u,v,w,x,y]
def D1{f:Nat->Int}{g:Nat->Nat}{q:Int}:jg f n g (ds++[q])=jg f n g ds++[nB f n g q]:=by simp[jg]
def pick{p:Prop}[Decidable p]{x y:Addr}{A B:List Int}(a:H x=some (.tup (A.map V.int)))(b:H y=some (.tup (B.map V.int))):∃z,(if p then V.ref y else V.ref x)=V.ref z/\H z=some (.tup ((if p then B else A).map V.int)):=by
 split;·exact⟨y,rfl,b⟩
 ·exact⟨x,rfl,a⟩
def yU(F:Fx H gl nd br so)(T:n<=60)(hq:Grs n (grp ac) qs){q:Int}(L:qs[k]? =some q)(h0:q≠0)(J:∀u H2,Gv ac n qs H c r0 gl nd br so (k+1) u H2->D.nx u H2)
  (s:aA H H')(v:H' gl=some (.lst ((gsI ac n).map V.int)))(A:H' so=some (.lst (qs.map V.int)))(w:H' nd=some (.lst ks))(m:H' br=some (.lst bs))(P:_root_.Q.IntKeys H' ks (jg (fr ac) n (grp ac) (dn qs (k+1))))(bk:mO (fr ac) n (grp ac) H' bs (dn qs k))
  (B:H' pl=some (.lst ((plc n (own (grp ac) q.toNat)).map V.int)))(g:H' be=some (.tup ((nB (fr ac) n (grp ac) q).map V.int)))(f:H' ab=some (.tup ((nA (fr ac) n (grp ac) q).map V.int))):
  wpB G K E oN D [some (.ref c),some (.ref r0),some (.ref gl),some (.ref nd),some (.ref br),some (.int q),some (.ref pl),some (.ref ar),some (.ref be),some (.ref ab)] H':=by
 have S:(dn qs k).length<=n:=Me hq;have R:=eX bk;unfold oN;ext;have t:(nA (fr ac) n (grp ac) q).length=(nB (fr ac) n (grp ac) q).length:=(kz _ _ _).trans (kz _ _ _).symm;obtain⟨x,C,M⟩:=pick (p:=_root_.Q.llt (nB (fr ac) n (grp ac) q) (nA (fr ac) n (grp ac) q)=true) f g;obtain⟨y,I,N⟩:=pick (p:=_root_.Q.llt (nA (fr ac) n (grp ac) q) (nB (fr ac) n (grp ac) q)=true) f g;refine⟨.inl ⟨rfl,_,SqL.of m⟩,ab,be,_,_,rfl,SqT.of f,SqT.of g,t,ab,be,_,_,rfl,SqT.of f,SqT.of g,t,?_⟩;rw[C,I];refine⟨pl,_,rfl,.inl ⟨SqL.of B,fun z O=>⟨short (by simp),fun a r=>?_⟩⟩⟩;have d:aA H' (upd (upd H' z (.tup ((plc n (own (grp ac) q.toNat)).map V.int))) a (.tup [.ref x,.ref y,.ref z])):=(au O).trans (au r);have j:upd (upd H' z (.tup ((plc n (own (grp ac) q.toNat)).map V.int))) a (.tup [.ref x,.ref y,.ref z]) a=some (.tup [.ref x,.ref y,.ref z]):=aq;have l:upd (upd H' z (.tup ((plc n (own (grp ac) q.toNat)).map V.int))) a (.tup [.ref x,.ref y,.ref z]) z=some (.tup ((plc n (own (grp ac) q.toNat)).map V.int)):=au r _ _ aq;generalize upd (upd H' z (.tup ((plc n (own (grp ac) q.toNat)).map V.int))) a (.tup [.ref x,.ref y,.ref z])=H1 at d j l⊢;have o:=d _ _ m;refine⟨br,bs,_,rfl,rfl,o,xE (by lia),J _ _ ⟨⟨ks,bs++[.ref a],?_⟩,_,_,_,_,_,rfl⟩⟩;have i:Tk H1 (upd H1 br (.lst (bs++[V.ref a]))):=sQ o;have h:Tk H' (upd H1 br (.lst (bs++[V.ref a]))):=fun b Q e=>i b Q (d _ _ e);refine⟨dj (s.trans d) F.fbr,?_,?_,?_,aq,dY h P,?_⟩;·rw[aW (bE F.n4)];exact d _ _ v
 ·rw[aW (bE F.n5)];exact d _ _ A
 ·rw[aW F.n1];exact d _ _ w
 ·rw[Gj L h0];exact Paired.snoc ⟨a,x,y,z,rfl,i _ _ j,h _ _ M,h _ _ N,i _ _ l⟩ (bk.tk h)
def yV(F:Fx H gl nd br so)(j:n<=60)(hq:Grs n (grp ac) qs){q:Int}(d:qs[k]? =some q)(h0:q≠0)(i:∀e H2,Gv ac n qs H c r0 gl nd br so (k+1) e H2->D.nx e H2)
  (g:Gx ac n qs H gl nd br so (dn qs k) ks bs H')(l:pl≠nd)(h:H' pl=some (.lst ((plc n (own (grp ac) q.toNat)).map V.int)))(b:H' be=some (.tup ((nB (fr ac) n (grp ac) q).map V.int)))(f:H' ab=some (.tup ((nA (fr ac) n (grp ac) q).map V.int))):
  wpB G K E oO D [some (.ref c),some (.ref r0),some (.ref gl),some (.ref nd),some (.ref br),some (.int q),some (.ref pl),some (.ref ar),some (.ref be),some (.ref ab)] H':=by
 have m:(dn qs k).length<=n:=Me hq;have o:=g.ksl;unfold oO;ext;refine⟨.inl ⟨rfl,_,SqL.of g.en⟩,nd,ks,_,rfl,rfl,g.en,xE (by lia),?_⟩;have a:Tk H' (upd H' nd (.lst (ks++[V.ref be]))):=sQ g.en;refine yU F j hq d h0 i (dj g.s F.fnd) ?_ ?_ aq ?_ ?_ (g.bk.tk a) ?_ (a _ _ b) (a _ _ f);·rw[aW (bE F.n2)];exact g.eg
 ·rw[aW (bE F.n3)];exact g.eo
 ·rw[aW (bE F.n1)];exact g.eb
 ·rw[Gj d h0,D1];exact Paired.snoc ⟨be,rfl,a _ _ b⟩ (dY a g.nk)
 ·rw[aW l];exact h
def Bg{P:Nat->Bool}{Q:VK}{c:TT}{τs:List (Option V)}(r:n<=60)
  (step:∀(p:Nat)(u:Option V)(a:Hp)(R:Bool->Hp->Prop),p<n->aA H1 a->R (P p) a->c (some (.int p)::τs) a R)
  (f:∀H2 l,aA H1 H2->H2 l=none->Q (.ref l) (upd H2 l (.lst ((plc n P).map V.int)))):
  C0 (Itr 0 n) (iV 0) c (pK 0) (none::τs) H1 Q:=by
 refine tI (xs:=nats n) Bd (eU (by unfold nats;simp;lia)) (fun _ _=>trivial) (fun v=>match v with |.int i=>P i.toNat|_=>false) id (fun d=>∃u,d=u::τs) ⟨none,rfl⟩ ?_ ?_
 ·rintro x d a q o b ⟨u,rfl⟩ m j kf;unfold nats at b;obtain⟨p,hp,rfl⟩:=aJ.mp b;have hp:=bp.mp hp;refine step p u a _ hp m ?_;have e:P ((p:Int)).toNat=P p:=by rw[aQ]
  cases h:P p with
  |true=>rw[if_pos rfl];exact⟨_,rfl,j _ _ ⟨_,rfl⟩ (aA.refl _) (e.trans h)⟩
  |false=>rw[if_neg ao];exact kf _ _ ⟨_,rfl⟩ (aA.refl _) (e.trans h)
 ·intro H2 l k g;rw[Hy (P:=P) fun p hp=>by show P ((p:Int)).toNat=P p;rw[aQ]];exact f H2 l k g
def yW(h:G.fn "turned" 2=some (nK K,[]))(F:Fx H gl nd br so)(i:n<=60)(u:(ac.getD 0 []).length=n)(v:H r0=some (.tup ((ac.getD 0 []).map V.int)))(hq:Grs n (grp ac) qs){q:Int}(t:qs[k]? =some q)(h0:q≠0)(s:∀j H2,Gv ac n qs H c r0 gl nd br so (k+1) j H2->D.nx j H2){x y:Option V}
  (g:Gx ac n qs H gl nd br so (dn qs k) ks bs H')(w:pl≠nd)(f:H' pl=some (.lst ((plc n (own (grp ac) q.toNat)).map V.int)))(r:H' ar=some (.lst ((plc n (M4.sub (grp ac) q.toNat)).map V.int))):
  wpB G K E oP D [some (.ref c),some (.ref r0),some (.ref gl),some (.ref nd),some (.ref br),some (.int q),some (.ref pl),some (.ref ar),x,y] H':=by
 unfold oP;ext;refine⟨_,_,h,r0,ar,_,_,rfl,SqT.of (g.s _ _ v),SqL.of r,by lia,fun z l b _ a=>?_⟩;have m:trn (ac.getD 0 []) (plc n (M4.sub (grp ac) q.toNat))=nB (fr ac) n (grp ac) q:=by rw[<-u];exact G0
 rw[m]at a;unfold uo;ext;refine⟨_,_,h,l,pl,_,_,rfl,SqT.of a,SqL.of (b _ _ f),by unfold nB;rw[kz];exact i,fun H2 A d _ e=>?_⟩;have o:trn (nB (fr ac) n (grp ac) q) (plc n (own (grp ac) q.toNat))=nA (fr ac) n (grp ac) q:=by unfold nB nA;rw[trn_bl fun p=>own_sub,MK]
 rw[o]at e;exact yV F i hq t h0 s (g.same (b.trans d)) w (d _ _ (b _ _ f)) (d _ _ a) e
def yX(J:G.fn "turned" 2=some (nK K,[]))(F:Fx H gl nd br so)(h:n<=60)(s:(ac.getD 0 []).length=n)(j:H r0=some (.tup ((ac.getD 0 []).map V.int)))(hq:Grs n (grp ac) qs){q:Int}(r:qs[k]? =some q)(h0:q≠0)(L:∀C H2,Gv ac n qs H c r0 gl nd br so (k+1) C H2->D.nx C H2){v w x y:Option V}
  (g:Gx ac n qs H gl nd br so (dn qs k) ks bs H'):
  wpB G K E oQ D [some (.ref c),some (.ref r0),some (.ref gl),some (.ref nd),some (.ref br),some (.int q),v,w,x,y] H':=by
 obtain⟨S,Q,I⟩:=hq.2 q (aI r);have t:q=(q.toNat:Int):=by rw[I,aQ]
 have A:((ac.getD 0 []).map V.int).length=n:=by rw[ai];exact s
 unfold oQ;ext;refine dF ?_;ext;refine Or.inl ⟨r0,_,rfl,.inr (SqT.of (g.s _ _ j)),_,rfl,by lia,by lia,?_⟩;rw[A,aQ];refine Bg (P:=own (grp ac) q.toNat) (τs:=[some (.int q),some (.ref gl)]) h ?_ ?_
 ·intro p u l R hp a f;ext;refine .inl ⟨gl,_,p,_,rfl,rfl,SqL.of (a _ _ g.eg),cC (gW (by rw[z8];exact hp)),?_⟩;rw[LW hp];refine jD.mpr ?_;refine⟨_,rfl,?_⟩;have e:decide ((grp ac p:Int)=q)=own (grp ac) q.toNat p:=by unfold M5.own;rw[t,aQ];exact decide_eq_decide.mpr (by lia)
  rw[e];exact f
 intro d b B i;have N:aA H' (upd d b (.lst ((plc n (own (grp ac) q.toNat)).map V.int))):=B.trans (au i);have m:upd d b (.lst ((plc n (own (grp ac) q.toNat)).map V.int)) b=some (.lst ((plc n (own (grp ac) q.toNat)).map V.int)):=aq;have M:b≠nd:=fun z=>by rw[z,B _ _ g.en]at i;cases i
 have g:=g.same N;generalize upd d b (.lst ((plc n (own (grp ac) q.toNat)).map V.int))=H2 at m g⊢;unfold ur;ext;refine dF ?_;ext;refine Or.inl ⟨r0,_,rfl,.inr (SqT.of (g.s _ _ j)),_,rfl,by lia,by lia,?_⟩;rw[A,aQ];refine Bg (P:=M4.sub (grp ac) q.toNat) (τs:=[some (.int q),some (.ref gl)]) h ?_ ?_
 ·intro p u l R hp a f;ext;refine .inl ⟨gl,_,p,_,rfl,rfl,SqL.of (a _ _ g.eg),cC (gW (by rw[z8];exact hp)),?_⟩;rw[LW hp];refine and_ii.mpr (jD.mpr ⟨_,rfl,?_⟩);have e:decide (iU (grp ac p:Int) q=q)=M4.sub (grp ac) q.toNat p:=by unfold M4.sub;rw[t,and_nat,aQ];exact decide_eq_decide.mpr (by lia)
  rw[e];exact f
 intro l O a o;exact yW J F h s j hq r h0 L (g.same (a.trans (au o))) M ((a.trans (au o)) _ _ m) aq
end
def wZ(ac:List (List Int))(n:Nat)(H:Hp)(H':Hp)(p:Addr):Prop:=∃(nl bl:Addr)(ks bs:List V)(qs:List Int),H' p=some (.tup [.ref nl,.ref bl])/\H nl=none/\H bl=none/\nl≠bl/\Grs n (grp ac) qs/\0∉qs/\(∀p,p<n->grp ac p≠0->(grp ac p:Int)∈qs)/\
 _root_.Q.IntKeys H' ks (jg (fr ac) n (grp ac) qs)/\mO (fr ac) n (grp ac) H' bs qs/\H' nl=some (.lst (_root_.Q.dJ .non (jg (fr ac) n (grp ac) qs) ks))/\H' bl=some (.lst (_root_.Q.dJ .non ((brK (fr ac) n (grp ac) qs).map _root_.Q.lS) bs))
def vy:Sp:=fun vs H Q _=>∃(c:Addr)(ys:List V)(n:Nat)(ac:List (List Int)),vs=[.ref c]/\Cps H c ys n ac/\ys≠[]/\∀H' p,aA H H'->H p=none->wZ ac n H H' p->Q (.ref p) H'
def GW{G:Gam}(g1:G.fn "group_at" 2=some (zc,[]))(F:G.fn "turned" 2=some (nK K,[])):Sat G K vy GA FJ:=by
 rintro vs H b3 b2 ⟨c,N,n,a,rfl,d,hy,q⟩;unfold GA;change wpB G K _ _ _ [some (.ref c),none,none,none,none,none,none,none,none,none] H;ext;have m:0<N.length:=iu.mpr hy;obtain⟨a0,z,r,e1,e2,R⟩:=d.at_ 0 N[0] (ae m);obtain⟨W,hf⟩:=d.row m;have hf:∀p,p<n->fr a p=0\/fr a p=1:=hf;have hn:=d.n60;have a8:((a.getD 0 []).map V.int).length=n:=by rw[ai];exact W
 have g0:N[0]? =some (.ref a0):=by rw[ae m,e1]
 refine .inl ⟨c,N,0,_,rfl,rfl,SqL.of d.ec,cC (j:=0) g0,?_⟩;refine .inr (.inl ⟨a0,_,1,_,rfl,rfl,SqT.of e2,rfl,?_⟩);unfold yF;ext;refine dF ?_;ext;refine Or.inl ⟨r,_,rfl,.inr (SqT.of R),_,rfl,by lia,by lia,?_⟩;rw[a8,aQ];refine d7 dN (eU (by lia)) (fun _ _=>trivial) (fun i v _=>v=.int (grp a i)) (fun _ _ _ _ _ h=>h) (fun τ=>∃u,τ=[u,some (.ref c)]) ⟨none,rfl⟩ ?_ ?_;·rintro i b0 τ C b4 hi ⟨u,rfl⟩ w rfl k;ext;simp only[fX];exact⟨_,_,g1,c,i,N,n,a,rfl,d.same w,hy,by lia,fun D M=>k _ _ _ ⟨_,rfl⟩ M rfl⟩
 intro vs H1 gl b9 hF s1 a7;have ev:vs=(gsI a n).map V.int:=by
  unfold gsI;apply jf;intro i;rw[aC,aC];by_cases hi:i<vs.length;·rw[ae hi,cn (by lia),hF i _ (ae hi)];rfl
  ·rw[bX (by lia),bX (by rw[aY];lia)];rfl
 rw[ev];generalize hX:upd H1 gl _=H2;obtain⟨L,s⟩:=eF hX a7;clear hX
 replace L:=s1.trans (L)
 unfold yE;ext;refine⟨short (by simp),fun nd Q=>?_⟩;have w:aA H2 (upd H2 nd (.lst [.ref r])):=au Q;have t:upd H2 nd (.lst [.ref r]) nd=some (.lst [.ref r]):=aq;have n2:nd≠gl:=fun z=>by rw[z,s]at Q;cases Q
 have fnd:H nd=none:=L.free Q;generalize upd H2 nd (.lst [.ref r])=C at w t⊢;unfold yD;ext;refine⟨short (by simp),fun e y=>?_⟩;have M:aA C (upd C e (.lst [])):=au y;have S:upd C e (.lst []) e=some (.lst []):=aq;have n1:nd≠e:=fun z=>by rw[<-z,t]at y;cases y
 have n4:e≠gl:=fun z=>by rw[z,w _ _ s]at y;cases y
 have a6:H e=none:=(L.trans w).free y;have t:=M _ _ t;have s:=M _ _ (w _ _ s);have Y:=L.trans (w.trans M);generalize upd C e (.lst [])=D at Y S t s⊢;unfold yC;ext;refine iJ ?_;ext;refine⟨_,rfl,gl,gsI a n,rfl,SqL.of s,Few.of (by rw[z8];lia),fun ms f a3 mem J=>?_⟩;obtain⟨b,eq,X⟩:=_root_.Q.G5 a3;have hq:Grs n (grp a) b:=⟨X.nodup_iff.mpr a3,fun q hq=>by have h:=(mem q).mp (X.mem_iff.mp hq);unfold gsI at h;obtain⟨p,hp,a5⟩:=aJ.mp h;exact⟨p,bp.mp hp,a5.symm⟩⟩
 rw[eq];have B:aA D (upd D f (.lst (b.map V.int))):=au J;have U:upd D f (.lst (b.map V.int)) f=some (.lst (b.map V.int)):=aq;have n3:nd≠f:=fun z=>by rw[<-z,t]at J;cases J
 have n5:e≠f:=fun z=>by rw[<-z,S]at J;cases J
 have a4:Fx H gl nd e f:=⟨fnd,a6,n1,n2,n3,n4,n5⟩;generalize upd D f (.lst (b.map V.int))=H5 at B U⊢;have gx:Gx a n b H gl nd e f (dn b 0) [.ref r] [] H5:=by
  refine⟨Y.trans B,B _ _ s,U,B _ _ t,B _ _ S,?_,.nil⟩;refine .cons ⟨r,rfl,?_⟩ .nil;have ef:bl (fr a) n (fun _=>false)=a.getD 0 []:=by rw[<-W];exact L6 _
  rw[ef];exact(Y.trans B) _ _ R
 refine⟨f,rfl,⟨_,SqL.of U⟩,B7 (eE (xs:=b.map V.int)) (Gv a n b H c r gl nd e f) ⟨⟨_,_,gx⟩,_,_,_,_,_,rfl⟩ (fun k σ H' _ g=>?_) ?_ ?_⟩;·obtain⟨⟨l,bs,g⟩,_⟩:=g;exact SqL.of g.eo
 ·rintro k b0 σ E H7 D2 hk ⟨⟨l,bs,g⟩,u,v,a9,x',b1,rfl⟩ hx s7 hD hC;have g:=g.same s7;rw[ai]at hk;have P:b[k]? =some b[k]:=ae hk;rw[aC,P]at hx;cases hx;generalize b[k]=q at P;ext;by_cases m:q=0;·rw[decide_eq_true m,if_pos rfl];refine hC _ _ ⟨⟨l,bs,?_⟩,_,_,_,_,_,rfl⟩;rw[dn_zero (by rw[P,m])];exact g
  ·rw[decide_eq_false m,if_neg ao];exact yX F a4 hn W R hq P m hD g
 ·rintro σ E ⟨⟨l,bs,g⟩,u,v,a9,x',b1,rfl⟩;rw[ai]at g;have I:Grs n (grp a) (dn b b.length):=Mf hq;have a1:dn b b.length=b.filter fun q=> !decide (q=0):=by unfold dn;rw[fK]
  have z0:(0:Int)∉dn b b.length:=fun z=>by rw[a1]at z;simpa using(iM.mp z).2
  have all:∀p,p<n->grp a p≠0->(grp a p:Int)∈dn b b.length:=fun p hp h=>by
   rw[a1];refine iM.mpr ⟨X.mem_iff.mpr ((mem _).mpr ?_),?_⟩;·unfold gsI;exact aJ.mpr ⟨p,bp.mpr hp,rfl⟩
   ·have :¬((grp a p:Int)=0):=by lia
    rw[decide_eq_false this];rfl
  generalize dn b b.length=ds at g I z0 all;have b7:ds.length<=n:=F9 I;have b8:=g.ksl;have b6:=g.bsl;have c0:=eX g.nk;have b5:=eX g.bk.two;unfold yB;ext;refine⟨nd,l,_,n,rfl,SqL.of g.en,by lia,BF hf I,yh,g.nk,fun A a2=>?_⟩;have t1:aA E (upd E A (.lst (_root_.Q.dJ .non (jg (fr a) n (grp a) ds) l))):=au a2;have T:upd E A (.lst (_root_.Q.dJ .non (jg (fr a) n (grp a) ds) l)) A=some (.lst (_root_.Q.dJ .non (jg (fr a) n (grp a) ds) l)):=aq;have x:=g.same t1;generalize upd E A (.lst (_root_.Q.dJ .non (jg (fr a) n (grp a) ds) l))=H7 at t1 T x⊢;refine⟨e,bs,_,n,rfl,SqL.of x.eb,by lia,ME hf I,brK_len,x.bk.two,fun bl O=>⟨short (by simp),fun p hp=>?_⟩⟩;have Z:=au (o:=.lst (_root_.Q.dJ .non ((brK (fr a) n (grp a) ds).map _root_.Q.lS) bs)) O;have t3:=au (o:=.tup [.ref A,.ref bl]) hp;have F:=x.same (Z.trans t3);refine q _ p F.s (((x.s).trans Z).free hp) ⟨A,bl,l,bs,ds,aq,g.s.free a2,x.s.free O,fun z=>by(rw[<-z,T]at O;cases O),I,z0,all,F.nk,F.bk,(Z.trans t3) _ _ T,t3 _ _ aq⟩
end K32
namespace K32
open PySem R
abbrev mV:List Str:=["self","one","other","names"]
abbrev ju:List Str:=["self","one","other","names"]
abbrev kU:CB:=
  (.cons (.fldX (.var 0) "names" (.var 3))
  .nil)
abbrev kW:CB:=
  (.cons (.fldX (.var 0) "other" (.var 2))
  kU)
abbrev kX:CB:=
  (.cons (.fldX (.var 0) "one" (.var 1))
  kW)
abbrev jz:CB:=
  (.cons (.expr (.base "KinError" (.cons (.var 0) (.cons (.var 1) (.cons (.var 2) (.cons (.var 3) .nil))))))
  kX)
abbrev vJ:List Str:=["table"]
abbrev nR:List Str:=["table","found"]
abbrev lU:CB:=
  (.cons (.iff (.cmp .IsNot (.var 1) (.con .none))
  (.cons (.raisX "Clash" (.cons (.idx (.var 1) (.con (.int 0))) (.cons (.idx (.var 1) (.con (.int 1))) (.cons (.idx (.var 1) (.con (.int 2))) .nil))))
  .nil)
  .nil)
  .nil)
abbrev oi:CB:=
  (.cons (.asg (.name 1) (.call "clash" (.cons (.var 0) .nil)))
  lU)
abbrev p_tree:List Str:=["table"]
abbrev Lb:List Str:=["table","copies"]
abbrev Cw:CB:=
  (.cons (.ret (.call "grown" (.cons (.var 1) .nil)))
  .nil)
abbrev Cy:CB:=
  (.cons (.iff (.cmp .Eq (.bfn .len (.cons (.var 1) .nil)) (.con (.int 0)))
  (.cons (.ret (.tup (.cons (.lst .nil) (.cons (.lst .nil) .nil))))
  .nil)
  .nil)
  Cw)
abbrev CA:CB:=
  (.cons (.expr (.call "refuse_clash" (.cons (.var 1) .nil)))
  Cy)
abbrev MC:CB:=
  (.cons (.asg (.name 1) (.call "table_list" (.cons (.var 0) .nil)))
  CA)
end K32
namespace K32
open PySem PySem.Spec PyProof.Rows L2 R Cp Lt Kc K21 K22 Lm M5
def put2:mF (aP "other") y [(aP "one",x)]=[(aP "one",x),(aP "other",y)]:=by unfold mF mF;rw[if_neg (by decide+kernel)]
def put3{z:V}:mF (aP "names") z [(aP "one",x),(aP "other",y)]=[(aP "one",x),(aP "other",y),(aP "names",z)]:=by unfold mF mF mF;rw[if_neg (by decide+kernel),if_neg (by decide+kernel)]
structure Cl(K:ah)(B C:Addr):Prop where
 bs:BsX K B
 s1:StX K C "one"
 s2:StX K C "other"
 s3:StX K C "names"
 ex:∃f,tF K C f bmV "ValueError.__new__"=true
abbrev wz(x y z:V):List (Str×V):=[("one",x),("other",y),("names",z)]
def zb(C:Addr):Sp:=fun vs H Q _=>∃a x y z,vs=[.ref a,x,y,z]/\H a=some (exO a C none)/\∀dd H',dd≠a->H dd=none->H' a=some (exO a C (some dd))->H' dd=some (xdO dd (wz x y z))->(∀b,b≠a->b≠dd->H' b=H b)->Q .non H'
def Jb{G:Gam}{B:Addr}(v1:G.val "KinError"=some (.ref B))(n:Cl K B C):
  Sat G K (zb C) jz ju:=by
 rintro j H Q E ⟨a,x,y,z,rfl,g,q⟩;unfold jz;change wpB G K _ _ _ [some (.ref a),some x,some y,some z] H;ext;obtain⟨f,hf⟩:=n.ex;refine⟨B,v1,n.bs,?_⟩;refine⟨_,rfl,_,rfl,_,rfl,_,rfl,a,C,f,[x,y,z],rfl,g,short (by show 3<=40;decide),hf,?_⟩;unfold kX;refine⟨_,rfl,_,rfl,a,C,rfl,n.s1,.inl ⟨g,fun c h=>?_⟩⟩;have ne:c≠a:=fun e=>by rw[e,g]at h;cases h
 unfold kW;refine⟨_,rfl,_,rfl,a,C,rfl,n.s2,.inr ⟨c,_,aq,by rw[aW ne];exact aq,by simp,?_⟩⟩;unfold kU;rw[put2];refine⟨_,rfl,_,rfl,a,C,rfl,n.s3,.inr ⟨c,_,by rw[aW (bE ne)];exact aq,aq,by simp,?_⟩⟩;rw[put3];refine q c _ ne h ?_ aq fun b i d=>?_;·rw[aW (bE ne),aW (bE ne)];exact aq
 ·rw[aW d,aW d,aW i,aW d]
def vt(C CC:Addr)(T:Tb):Sp:=fun vs H Q E=>∃x,vs=[x]/\Kn4 H x/\Tab T H/\(bN H x=false->∀H',aA H H'->E (.ref C) none H')/\
 (bN H x=true->(NoC (rowsOf H x) (count H x)->∀H',Gr T H H'->Q .non H')/\
  ∀H' (i j:Nat)(l dd:Addr),Gr T H H'->oZ (rowsOf H x) (count H x) i j->H' l=some (.tup ((KP.map (nQ (rowsOf H x) i j)).map V.str))->H' dd=some (xdO dd (wz (.int i) (.int j) (.ref l)))->E (.ref CC) (some dd) H')
def GU{G:Gam}{T:Tb}(w:G.fn "clash" 1=some (ze C T,[]))(y:G.ini "Clash" 3=some (CC,zb CC,[])):
  Sat G K (vt C CC T) oi nR:=by
 rintro N H Q E ⟨x,rfl,B,tb,F,I⟩;unfold oi;change wpB G K _ _ _ [some x,none] H;ext;refine⟨_,_,w,x,rfl,B,tb,fun e d v gr M=>?_,F⟩;obtain⟨L,J⟩:=I e;unfold lU;ext;rcases M with⟨rfl,z⟩ |⟨i,j,a,l,rfl,t,f,s⟩;·rw[if_neg (by simp)];exact L z d gr
 ·rw[if_pos (by simp)];refine⟨CC,_,_,y,?_⟩;refine⟨_,rfl,.inr (.inl ⟨a,_,0,_,rfl,rfl,SqT.of f,rfl,?_⟩)⟩;refine⟨_,rfl,.inr (.inl ⟨a,_,1,_,rfl,rfl,SqT.of f,rfl,?_⟩)⟩;refine⟨_,rfl,.inr (.inl ⟨a,_,2,_,rfl,rfl,SqT.of f,rfl,?_⟩)⟩;refine⟨short (by show 3<=40;decide),fun p hp=>⟨p,_,_,_,rfl,aq,fun c n ne k o q r=>⟨rfl,some c,o,?_⟩⟩⟩;have A:d c=none:=by rw[aW ne]at k;exact k
  have m:aA d (del n p):=fun b u g=>by have h:b≠p:=bI g hp;have D:b≠c:=bI g A;rw[fG h,r b h D,aW h];exact g
  exact J _ i j l c (gr.trans (Gr.of m)) t (m _ _ s) (by rw[fG ne];exact q)
def Bc(e:bN H x=true)(m:H' l=some (.lst zs))(h:zs.map (cd H')=rowsOf H x)(t:bN H' (.ref l)=true):rowsOf H' (.ref l)=rowsOf H x/\srt H' (.ref l)=zs:=by
 have i:cN (H' l)=some zs:=by rw[m];rfl
 obtain⟨y,C,o,j,z,A,b,B⟩:=dD t;cases o;rw[i]at j;cases j;obtain⟨a,ys,rfl,p,u,v,g,w⟩:=dD e;have c:∀l:List V,l.filter (fun _=>true)=l:=fun l=>M2.mpr fun _ _=>rfl;have r:(_root_.Q.sortBy V.non (ys.map (aR H)) ys).map (aR H)=_root_.Q.sortBy ("":Str) (ys.map (aR H)) (ys.map (aR H)):=by
  have :=_root_.Q.tW V.non (aR H) (fun _=>true) g
  rwa [c,c]at this
 have s:(_root_.Q.sortBy V.non (zs.map (aR H')) zs).map (aR H')=_root_.Q.sortBy ("":Str) (zs.map (aR H')) (zs.map (aR H')):=by
  have :=_root_.Q.tW V.non (aR H') (fun _=>true) b
  rwa [c,c]at this
 have n:zs.map (aR H')=_root_.Q.sortBy ("":Str) (ys.map (aR H)) (ys.map (aR H)):=by rw[<-r,<-mB p];have :=congrArg (List.map Prod.fst) h;unfold rowsOf at this;rw[cD,cD]at this;exact this
 have q:=_root_.Q.fB V.non b (ys:=zs) (by simp);have k:_root_.Q.sortBy V.non (zs.map (aR H')) zs=zs:=by refine vZ (Hx b) (fun a d=>q.mem_iff.mp d) (fun a d=>d) ?_;rw[s];refine _root_.Q.k7 (_root_.Q.fB ("":Str) b rfl) (_root_.Q.i8 b) ?_;rw[n];exact _root_.Q.i8 g
 have f:srt H' (.ref l)=zs:=by rw[mB i,k]
 refine⟨?_,f⟩;show(srt H' (.ref l)).map (cd H')=_;rw[f];exact h
abbrev intOf:V->Int
 |.int i=>i
 |_=>0
def tw(h:∀z∈zs,bJ z=true):(zs.map intOf).map V.int=zs/\∀x∈zs.map intOf,x=0\/x=1:=by
 constructor
 ·rw[cD]
  conv =>rhs;rw[<-xQ zs]
  refine cJ fun z a=>?_;rcases i9 (h z a)with e|e<;>rw[e]<;>rfl
 ·intro x b;obtain⟨z,a,rfl⟩:=aJ.mp b;rcases i9 (h z a)with e|e<;>rw[e];·exact .inl rfl
  ·exact .inr rfl
abbrev rI(R:List (Str×List V)):List (List Int):=R.map fun p=>p.2.map intOf
def cps_of(d:H l=some (.lst zs))(v:bN H (.ref l)=true):Cps H l zs (count H (.ref l)) (rI (zs.map (cd H))):=by
 have g:cN (H l)=some zs:=by rw[d];rfl
 obtain⟨x,A,q,m,w,c,z,n⟩:=dD v;cases q;rw[g]at m;cases m;refine⟨d,w,by simp[rI],?_,fun i y e=>?_,fun r u=>?_⟩
 ·cases zs with
  |nil=>show(match cN (H l)with |some (y::_)=>bB H y|_=>0)<=60;rw[g];exact aM _
  |cons y r=>rw[<-n y (.head _)];obtain⟨_,_,_,_,_,_,_,_,s,_,_,t⟩:=hV (c y (.head _));rw[t];exact s
 ·obtain⟨b,r,rfl,h,j,k,a⟩:=jJ (c y (aI e));refine⟨b,_,r,rfl,h,?_⟩;have o:(rI (zs.map (cd H))).getD i []=(sW H (.ref b)).map intOf:=by unfold rI;rw[af,aC,aC,e];rfl
  rw[o,(tw a).1];exact j
 ·obtain⟨p,hp,rfl⟩:=aJ.mp u;obtain⟨y,f,rfl⟩:=aJ.mp hp;obtain⟨b,r,rfl,h,j,k,a⟩:=jJ (c y f);refine⟨?_,(tw a).2⟩;rw[ai,<-n _ f];exact k
def gr_free{T:Tb}(g:Gr T H H')(t:Tab T H')(h:H' p=none):H p=none:=by
 cases e:H p with
 |none=>rfl
 |some o=>
  have hp:p≠T.P:=fun z=>by rw[z]at h;rcases t with t|⟨_,_,_,_,_,t,_⟩<;>(rw[h]at t;cases t)
  rw[g.keep p o hp e]at h;cases h
def Cps.gr{T:Tb}(d:Cps H c ys n ac)(g:Gr T H H')(a:Tab T H):Cps H' c ys n ac:=
 {d with ec:=g.lst a d.ec,at_:=fun i y e=>let⟨b,z,r,h1,h2,h3⟩:=d.at_ i y e;⟨b,z,r,h1,g.uE a h2,g.uE a h3⟩}
def wZ.old{a:Hp}(g:wZ ac n H H' p)(f:∀p,H p=none->a p=none):wZ ac n a H' p:=by obtain⟨i,bl,h,bs,j,b,c,d,e⟩:=g;exact⟨i,bl,h,bs,j,b,f _ c,f _ d,e⟩
def TreeK(R:List (Str×List V))(n:Nat)(H H':Hp)(p:Addr):Prop:=
 (R=[]/\∃a b,H' p=some (.tup [.ref a,.ref b])/\H a=none/\H b=none/\a≠b/\H' a=some (.lst [])/\H' b=some (.lst []))\/(R≠[]/\wZ (rI R) n H H' p)
def sS(C CC:Addr)(T:Tb):Sp:=fun vs H Q E=>∃x,vs=[x]/\Kn4 H x/\Tab T H/\(bN H x=false->∀H',aA H H'->E (.ref C) none H')/\
 (bN H x=true->(NoC (rowsOf H x) (count H x)->∀H' p,Gr T H H'->H p=none->TreeK (rowsOf H x) (count H x) H H' p->Q (.ref p) H')/\
  ∀H' (i j:Nat)(l dd:Addr),Gr T H H'->oZ (rowsOf H x) (count H x) i j->H' l=some (.tup ((KP.map (nQ (rowsOf H x) i j)).map V.str))->H' dd=some (xdO dd (wz (.int i) (.int j) (.ref l)))->E (.ref CC) (some dd) H')
def wp_tree{G:Gam}{T:Tb}(P:G.fn "table_list" 1=some (za C T,[]))(Q:G.fn "refuse_clash" 1=some (vt C CC T,[]))(S:G.fn "grown" 1=some (vy,[])):
  Sat G K (sS C CC T) MC Lb:=by
 rintro vs H a2 a1 ⟨x,rfl,W,tb,Y,Z⟩;unfold MC;change wpB G K _ _ _ [some x,none] H;ext;refine⟨_,_,P,x,rfl,W,tb,fun e H1 l r gr hl t M=>?_,Y⟩;obtain⟨m,w⟩:=Z e;obtain⟨kn,E,h,y⟩:=wI e t M;obtain⟨q,_⟩:=Bc e t y E;have c:=cps_of t E;rw[h,y]at c;have u:r.length=(rowsOf H x).length:=by rw[<-y,ai]
 have D:=gr.tab tb;generalize rowsOf H x=R at m w q c u;generalize count H x=n at m w h c;unfold CA;ext;refine⟨_,_,Q,.ref l,rfl,kn,D,fun z=>by(rw[E]at z;cases z),fun _=>⟨fun v s d=>?_,fun s i j X N d I F O=>?_⟩⟩
 ·rw[q,h]at v;have c:=c.gr d D;have a0:=d.tab D;have f:∀p,s p=none->H p=none:=fun p=>gr_free (gr.trans d) a0;unfold Cy;ext;refine Or.inl ⟨l,r,rfl,.inl (SqL.of c.ec),?_⟩;refine jD.mpr ⟨_,rfl,?_⟩;by_cases hz:r=[];·have V:R=[]:=bA.mp (by rw[<-u,hz];rfl);rw[hz,if_pos (by simp)];refine⟨short (by simp),fun a J=>⟨short (by simp),fun b k=>⟨short (by simp),fun p hp=>?_⟩⟩⟩;have A:=au (o:=.lst []) J;have B:=au (o:=.lst []) k;have g:=au (o:=.tup [.ref a,.ref b]) hp;refine m v _ p ((gr.trans d).trans (Gr.of (A.trans (B.trans g)))) (f _ ((A.trans B).free hp)) (.inl ⟨V,a,b,aq,f _ J,f _ (A.free k),fun z=>?_,(B.trans g) _ _ aq,g _ _ aq⟩);rw[<-z,aq]at k;cases k
  ·rw[if_neg (fun z=>hz (bA.mp (by have :=of_decide_eq_true z;lia)))];unfold Cw;ext;refine⟨_,_,S,l,r,n,rI R,rfl,c,hz,fun L p g hp U=>?_⟩;exact m v L p ((gr.trans d).trans (Gr.of g)) (f _ hp) (.inr ⟨fun z=>hz (bA.mp (by rw[u,z];rfl)),U.old f⟩)
 ·rw[q,h]at I;rw[q]at F;exact w s i j X N (gr.trans d) I F O
def hasN(H:Hp)(x y:V):Prop:=∃(a:Addr)(ys:List V)(z:Str)(c:V),x=.ref a/\cN (H a)=some ys/\y=.str z/\c∈ys/\aR H c=z
end K32
namespace R
open PySem PySem.Spec PyProof.Rows L2
def Mk(G:Gam)(K:ah)(E:XS)(σ:L2.St)(H:Hp)(e:CE)(b:V->Hp->Prop):Prop:=∀H',aA H H'->∀Q:VK,(∀v a,aA H' a->b v a->Q v a)->wpE G K E e σ H' Q
def MkL(G:Gam)(K:ah)(E:XS)(σ:L2.St)(H:Hp)(es:CL)(b:List V->Hp->Prop):Prop:=∀H',aA H H'->∀Q:List V->Hp->Prop,(∀v a,aA H' a->b v a->Q v a)->wpL G K E es σ H' Q
def eH{α:Type}(a:α->Hp->Prop):Prop:=∀v H H',aA H H'->a v H->a v H'
def xM(n:Nat)(a:V->Hp->Prop)(v:V)(H:Hp):Prop:=∃p vs,v=.ref p/\H p=some (.lst vs)/\vs.length=n/\∀x∈vs,a x H
def Lst(a:List V->Hp->Prop)(v:V)(H:Hp):Prop:=∃p vs,v=.ref p/\H p=some (.lst vs)/\a vs H
def Tup(a:List V->Hp->Prop)(v:V)(H:Hp):Prop:=∃p vs,v=.ref p/\H p=some (.tup vs)/\a vs H
def Two(Ra Rb:V->Hp->Prop)(vs:List V)(H:Hp):Prop:=∃a b,vs=[a,b]/\Ra a H/\Rb b H
def One(Ra:V->Hp->Prop)(vs:List V)(H:Hp):Prop:=∃a,vs=[a]/\Ra a H
def Is(v:V):V->Hp->Prop:=fun x _=>x=v
def iH:eH (Is v):=fun _ _ _ _ h=>h
def gQ{a:List V->Hp->Prop}(h:eH a):eH (Lst a):=fun v H f s ⟨p,e,b,c,d⟩=>⟨p,e,b,s _ _ c,h _ _ _ s d⟩
def nH{a:List V->Hp->Prop}(h:eH a):eH (Tup a):=fun v H f s ⟨p,e,b,c,d⟩=>⟨p,e,b,s _ _ c,h _ _ _ s d⟩
def xX{a:V->Hp->Prop}(h:eH a):eH (xM n a):=fun v H i s ⟨p,g,b,c,d,e⟩=>⟨p,g,b,s _ _ c,d,fun x f=>h _ _ _ s (e x f)⟩
def nI{Ra:V->Hp->Prop}(h:eH Ra):eH (One Ra):=fun v H b s ⟨a,e,r⟩=>⟨a,e,h _ _ _ s r⟩
def jY{Ra Rb:V->Hp->Prop}(h:eH Ra)(h':eH Rb):eH (Two Ra Rb):=fun v H d s ⟨a,b,e,r,c⟩=>⟨a,b,e,h _ _ _ s r,h' _ _ _ s c⟩
def A7:eH (fun(vs:List V)(_:Hp)=>vs=[]):=fun _ _ _ _ h=>h
section
variable {G:Gam}{E:XS}
def Mk.imp{e:CE}{b c:V->Hp->Prop}(h:Mk G K E σ H e b)(f:∀v H',aA H H'->b v H'->c v H'):Mk G K E σ H e c:=fun H' s Q q=>h H' s Q fun v a d r=>q v a d (f v a (s.trans d) r)
def bZ{c:Const}:Mk G K E σ H (.con c) (Is (cv c)):=fun a s Q q=>q _ a (aA.refl _) rfl
def vX(h:σ[i]? =some (some v)):Mk G K E σ H (.var i) (Is v):=fun a s Q q=>⟨v,h,q _ a (aA.refl _) rfl⟩
def dE:MkL G K E σ H .nil (fun vs _=>vs=[]):=fun a s Q q=>q _ a (aA.refl _) rfl
def jh{e:CE}{b:CL}{Ra:V->Hp->Prop}{a:List V->Hp->Prop}(h:Mk G K E σ H e Ra)(l:eH Ra)(i:MkL G K E σ H b a):MkL G K E σ H (.cons e b) (fun vs H'=>∃v r,vs=v::r/\Ra v H'/\a r H'):=fun H' s Q q=>
 h H' s _ fun v f c j=>i f (s.trans c) _ fun vs g d k=>q _ g (c.trans d) ⟨v,vs,rfl,l _ _ _ d j,k⟩
def rF{e:CE}{Ra:V->Hp->Prop}(g:Mk G K E σ H e Ra)(h:eH Ra):MkL G K E σ H (.cons e .nil) (One Ra):=fun a s Q q=>
 jh g h dE a s Q fun i b t ⟨v,r,c,d,f⟩=>q _ b t ⟨v,by rw[c,f],d⟩
def ph{e a:CE}{Ra Rb:V->Hp->Prop}(i:Mk G K E σ H e Ra)(k:eH Ra)(j:Mk G K E σ H a Rb)(l:eH Rb):MkL G K E σ H (.cons e (.cons a .nil)) (Two Ra Rb):=fun b s Q q=>
 jh i k (rF j l) b s Q fun m c t ⟨v,r,d,f,w,g,h⟩=>q _ c t ⟨v,w,by rw[d,g],f,h⟩
def mH{b:CL}{a:List V->Hp->Prop}(h:MkL G K E σ H b a)(d:eH a)(c:∀vs H',a vs H'->vs.length<=1000):Mk G K E σ H (.lst b) (Lst a):=fun H' s Q q=>
 h H' s _ fun vs e t r=>⟨aF (c _ _ r) (by decide),fun p hp=>q _ _ (t.trans (au hp)) ⟨p,vs,rfl,aq,d _ _ _ (au hp) r⟩⟩
def tf{b:CL}{a:List V->Hp->Prop}(h:MkL G K E σ H b a)(d:eH a)(c:∀vs H',a vs H'->vs.length<=1000):Mk G K E σ H (.tup b) (Tup a):=fun H' s Q q=>
 h H' s _ fun vs e t r=>⟨aF (c _ _ r) (by decide),fun p hp=>q _ _ (t.trans (au hp)) ⟨p,vs,rfl,aq,d _ _ _ (au hp) r⟩⟩
def len_one{Ra:V->Hp->Prop}:∀vs H',One Ra vs H'->vs.length<=1000:=fun vs H' ⟨a,e,_⟩=>by rw[e];exact(by decide:1<=1000)
def pk{Ra Rb:V->Hp->Prop}:∀vs H',Two Ra Rb vs H'->vs.length<=1000:=fun vs H' ⟨a,b,e,_⟩=>by rw[e];exact(by decide:2<=1000)
def len_nil:∀(vs:List V)(H':Hp),vs=[]->vs.length<=1000:=fun vs H' e=>by rw[e];exact(by decide:0<=1000)
abbrev IA(P:CE->Prop):CL->Prop
 |.nil=>True
 |.cons e es=>P e/\IA P es
theorem FN{a:V->Hp->Prop}(c:eH a):∀{es:CL},IA (fun e=>Mk G K E σ H e a) es->MkL G K E σ H es (fun vs H'=>vs.length=es.len/\∀v∈vs,a v H')
 |.nil,_=>fun H' s Q q=>q _ H' (aA.refl _) ⟨rfl,fun _ z=>nomatch z⟩
 |.cons e es,h=>fun H' s Q q=>jh h.1 c (FN c h.2) H' s Q fun vs d t ⟨v,r,b,f,g,i⟩=>q _ d t ⟨by rw[b,ba,g];rfl,fun x hx=>by
   rw[b]at hx;rcases aG.mp hx with rfl|hx;·exact f
   ·exact i x hx⟩
def zU{c:V->Hp->Prop}{d:CL}(i:eH c)(g:d.len=n)(q:n<=1000)(h:IA (fun e=>Mk G K E σ H e c) d):Mk G K E σ H (.lst d) (xM n c):=
 (mH (FN i h) (fun f u w s ⟨a,b⟩=>⟨a,fun v t=>i _ _ _ s (b v t)⟩) fun f j r=>by rw[r.1,g];exact q).imp fun v j _ ⟨p,f,k,l,m,o⟩=>⟨p,f,k,l,by rw[m,g],o⟩
def FP{a b:CE}{c:V->Hp->Prop}(f:eH c)(C:Mk G K E σ H a (xM m c))(D:Mk G K E σ H b (xM n c))(d:m+n<=1000):Mk G K E σ H (.bin .Add a b) (xM (m+n) c):=fun j s Q q=>
 C j s _ fun v k g ⟨p,h,y,z,A,B⟩=>D k (s.trans g) _ fun w I e ⟨F,i,o,r,t,u⟩=>.inr (.inr (.inl ⟨p,F,h,i,y,o,e _ _ z,r,aF (by lia:_<=1000) (by decide),fun l d=>by
  refine q _ _ (g.trans (e.trans (au d))) ⟨l,h++i,rfl,aq,by rw[aU,A,t],fun x hx=>?_⟩;rcases cV.mp hx with hx|hx;·exact f _ _ _ (e.trans (au d)) (B x hx)
  ·exact f _ _ _ (au d) (u x hx)⟩))
def mk_cat{a b:CE}{Ra Rb:List V->Hp->Prop}(A:eH Ra)(B:eH Rb)(t:∀vs H',Ra vs H'->vs.length<=100)(u:∀vs H',Rb vs H'->vs.length<=100)(o:Mk G K E σ H a (Lst Ra))(r:Mk G K E σ H b (Lst Rb)):
  Mk G K E σ H (.bin .Add a b) (Lst fun vs H'=>∃x y,vs=x++y/\Ra x H'/\Rb y H'):=fun H' s Q q=>
 o H' s _ fun v i h ⟨p,vs,m,n,g⟩=>r i (s.trans h) _ fun w C d ⟨z,e,j,k,f⟩=>.inr (.inr (.inl ⟨p,z,vs,e,m,j,d _ _ n,k,aF (by have :=t _ _ g;have :=u _ _ f;lia:_<=1000) (by decide),fun l c=>
  q _ _ (h.trans (d.trans (au c))) ⟨l,vs++e,rfl,aq,vs,e,rfl,A _ _ _ (d.trans (au c)) g,B _ _ _ (au c) f⟩⟩))
end
end R
variable {G:R.Gam}
namespace K02
open PySem PySem.Spec PyProof.Rows L2 R Cp Lt Lm
def pq(h:Known H (.ref p)):Kn1 H (.ref p):=⟨h,fun z e=>nomatch e⟩
def kn2_tup(h:H p=some (.tup xs))(b:xs.length<=20000)(c:∀y∈xs,Kn1 H y):Kn2 H (.ref p):=⟨pq (qu h),fun a d e g=>by injection e with e;subst e;rw[h]at g;cases g;exact⟨b,c⟩⟩
def FY(h:H p=some (.tup xs))(b:xs.length<=20000)(c:∀y∈xs,Kn2 H y):Kn3 H (.ref p):=⟨pq (qu h),fun a d e g=>by injection e with e;subst e;rw[h]at g;cases g;exact⟨b,c⟩⟩
def kn2_lst(h:H p=some (.lst xs)):Kn2 H (.ref p):=⟨pq (we h),fun a b e g=>by injection e with e;subst e;rw[h]at g;cases g⟩
def FX(h:H p=some (.lst xs))(b:xs.length<=20000)(c:∀y∈xs,Kn3 H y):Kn4 H (.ref p):=⟨pq (we h),fun a d e g=>by injection e with e;subst e;rw[h]at g;cases g;exact⟨b,c⟩⟩
abbrev Atom:V->Prop
 |.int _=>True|.bl _=>True|.non=>True|.str z=>z.length<=20000 |_=>False
def wk(h:Atom v):Kn1 H v:=by
 cases v with
 |int i=>exact⟨zY,fun z e=>nomatch e⟩
 |bl i=>exact⟨kn_bl,fun z e=>nomatch e⟩
 |non=>exact⟨Eg,fun z e=>nomatch e⟩
 |str z=>exact⟨Ef,fun y e=>by injection e with e;subst e;exact h⟩
 |_=>exact h.elim
def CU(h:Atom v)(e:v=.ref a):False:=by subst e;exact h
def wj(h:Atom v):Kn2 H v:=⟨wk h,fun a b e=>(CU h e).elim⟩
def LA(h:Atom v):Kn4 H v:=⟨wk h,fun a b e=>(CU h e).elim⟩
def Bad(v:V)(H:Hp):Prop:=Kn4 H v/\bN H v=false
def NoC(v:V)(H:Hp):Prop:=Kn3 H v/\cF H v=false
def JG:eH Bad:=fun v H c s ⟨a,b⟩=>⟨a.same s,by rw[iX a s];exact b⟩
def JF:eH NoC:=fun v H c s ⟨a,b⟩=>⟨a.same s,by rw[pv a s];exact b⟩
def MG(h:Atom v):Bad v H:=⟨LA h,by cases v<;>first |rfl|exact h.elim⟩
def bad_tup(h:H p=some (.tup xs)):Bad (.ref p) H:=by
 refine⟨⟨pq (qu h),fun a b e g=>?_⟩,?_⟩;·injection e with e;subst e;rw[h]at g;cases g
 ·show(match cN (H p)with |some xs=>_|none=>_)=false;rw[h];rfl
def bad_dic{xs:List (Key×V)}(h:H p=some (.dK xs)):Bad (.ref p) H:=by
 refine⟨⟨pq (kn_dK h),fun a b e g=>?_⟩,?_⟩;·injection e with e;subst e;rw[h]at g;cases g
 ·show(match cN (H p)with |some xs=>_|none=>_)=false;rw[h];rfl
def Au(h:H p=some (.lst xs))(k:xs.length<=20000)(c:∀y∈xs,Kn3 H y)(n:xs.length<=40->(∀y∈xs,cF H y=true)->(xs.map (aR H)).Nodup->(∀y∈xs,∀z∈xs,bB H y=bB H z)->False):Bad (.ref p) H:=by
 refine⟨FX h k c,?_⟩;cases e:bN H (.ref p)with
 |false=>rfl
 |true=>
  obtain⟨a,m,b,d,g,i,j,f⟩:=dD e;injection b with b
  subst b;rw[h]at d;cases d;exact(n g i j fun y c z l=>by rw[f y c,f z l]).elim
def bad_one(h:Lst (One NoC) v H):Bad v H:=by obtain⟨p,b,rfl,e,x,rfl,k,n⟩:=h;refine Au e (by simp) (fun y a=>by rw[aS.mp a];exact k) fun _ c _ _=>?_;rw[c x (by simp)]at n;cases n
def FG(h:H p=some (.tup xs))(c:xs.length<=20000)(d:∀y∈xs,Kn2 H y)(n:∀a b,xs=[a,b]->isName a=false\/bT H b=false):NoC (.ref p) H:=by
 refine⟨FY h c d,?_⟩;show(match cA (H p)with |some [n,r]=>isName n&&bT H r|_=>false)=false;rw[h];show(match some xs with |some [n,r]=>isName n&&bT H r|_=>false)=false
 match xs,n with
 | [],_=>rfl
 | [_],_=>rfl
 | [a,b],n=>
  rcases n a b rfl with z|z;·show(isName a&&bT H b)=false;rw[z];rfl
  ·show(isName a&&bT H b)=false;rw[z,dh]
 |_::_::_::_,_=>rfl
def are_lst(h:H p=some (.lst xs)):bT H (.ref p)=false:=by show(match cA (H p)with |some xs=>decide (xs.length<=60)&&xs.all bJ|none=>false)=false;rw[h];rfl
def are_tup(h:H p=some (.tup xs))(n:xs.all bJ=false):bT H (.ref p)=false:=by show(match cA (H p)with |some xs=>decide (xs.length<=60)&&xs.all bJ|none=>false)=false;rw[h];show(decide (xs.length<=60)&&xs.all bJ)=false;rw[n,dh]
section
variable {G:Gam}{E:XS}
def zS{a:V->Hp->Prop}(c:eH a)(h:σ[i]? =some (some v))(r:a v H):Mk G K E σ H (.var i) a:=fun b s Q q=>⟨v,h,q _ b (aA.refl _) (c _ _ _ s r)⟩
end
def eT:eH (fun(vs:List V)(_:Hp)=>vs=xs):=fun _ _ _ _ h=>h
def rj{r:V}(h:H p=some (.tup [.str z,r])):aR H (.ref p)=z:=by show(match cA (H p)with |some (.str z::_)=>z|_=>("":Str))=z;rw[h];rfl
def Ak{z:V}(h:H p=some (.tup [z,.ref r]))(h':H r=some (.tup xs)):bB H (.ref p)=xs.length:=by show(match cA (H p)with |some [_,.ref b]=>(cA (H b)).elim 0 eL|_=>0)=xs.length;rw[h];show(cA (H r)).elim 0 eL=xs.length;rw[h'];rfl
section
variable {G:Gam}{E:XS}{t r:Addr}{c:Int}{z:Str}
def mk_tab(h0:σ[0]? =some (some (.ref t)))(a:H t=some (.lst ys)):Mk G K E σ H (.var 0) (Lst fun vs _=>vs=ys):=zS (gQ eT) h0 ⟨t,ys,rfl,a,rfl⟩
def len_ys(a:ys.length<=40):∀(vs:List V)(H':Hp),vs=ys->vs.length<=100:=fun vs H' e=>by rw[e];lia
def Lx{Ra:V->Hp->Prop}:∀vs H',One Ra vs H'->vs.length<=100:=fun vs H' ⟨a,e,_⟩=>by rw[e];exact(by decide:1<=100)
def HE{e:CE}{a:V->Hp->Prop}(h0:σ[0]? =some (some (.ref t)))(l:H t=some (.lst ys))(k:ys.length<=40)(b:eH a)(h:Mk G K E σ H e a):Mk G K E σ H (.bin .Add (.var 0) (.lst (.cons e .nil))) (Lst fun vs H'=>∃x,vs=ys++[x]/\a x H'):=
 (mk_cat eT (nI b) (len_ys k) Lx (mk_tab h0 l) (mH (rF h b) (nI b) len_one)).imp fun v H' _ ⟨p,vs,c,d,x,y,f,g,w,i,j⟩=>⟨p,vs,c,d,w,by rw[f,g,i],j⟩
def kn2_rds(h:H r=some (.tup rs))(c:rs.length<=61)(a:∀y∈rs,∃i,y=V.int i):Kn2 H (.ref r):=kn2_tup h (by lia) fun y b=>let⟨i,e⟩:=a y b;by rw[e];exact wk trivial
def LC{b:V}(h:H p=some (.tup [.str z,b]))(hz:z.length<=20000)(c:Kn2 H b):Kn3 H (.ref p):=FY h (by simp) fun y a=>by
 simp only[aG,cu,or_false]at a;rcases a with rfl|rfl;·exact wj hz
 ·exact c
end
end K02
namespace K23
open PySem PySem.Spec PyProof.Rows L2 R Cp Lt Kc K21 K02
def jk{P:CE->Prop}{a:CE}{r:CL}(h:P a)(k:IA P r):IA P (.cons a r):=⟨h,k⟩
def alln{P:CE->Prop}:IA P .nil:=trivial
end K23
namespace K32
open PySem PySem.Spec PyProof.Rows L2 R Cp Lt Kc K21 K22 K02 Lm M5
def Dk(H:Hp)(d:Option Addr):Prop:=∀dd,d=some dd->∃fs,H dd=some (xdO dd fs)
def Dk.same(h:Dk H d)(s:aA H H'):Dk H' d:=fun a e=>let⟨fs,f⟩:=h a e;⟨fs,s _ _ f⟩
def HM{D:Addr}{b:Bool}{Q:VK}(e:H a=some (pS a (.ref C) d))(c:Dk H d)(o:mX K C=true)(k:cE K (.ref C) (.ref D)=some b)(q:Q (.bl b) H):rBf K .isx [.ref a,.ref D] H Q:=
 ⟨a,C,d,_,_,b,rfl,e,c,o,.inr ⟨D,rfl,rfl⟩,k,q⟩
def isxV{b:Bool}{Q:VK}(e:H a=some (pS a (.ref C) d))(c:Dk H d)(o:mX K C=true)(k:cE K (.ref C) (.type "ValueError")=some b)(q:Q (.bl b) H):rBf K .isx [.ref a,.ty "ValueError"] H Q:=
 ⟨a,C,d,_,_,b,rfl,e,c,o,.inl ⟨_,rfl,rfl⟩,k,q⟩
section
variable {G:Gam}{CE C CN CC CP CR:Addr}{T:Tb}
def lk2{z:V}:(wz x y z).lookup (aP "other")=some y:=by unfold wz;rw[aV,show((aP "other")==(aP "one"))=false by decide+kernel,aV,beq_self_eq_true]
def lk3{z:V}:(wz x y z).lookup (aP "names")=some z:=by unfold wz;rw[aV,show((aP "names")==(aP "one"))=false by decide+kernel,aV,show((aP "names")==(aP "other"))=false by decide+kernel,aV,beq_self_eq_true]
def A1(e:bN H x=true)(s:aA H H1):rowsOf H1 x=rowsOf H x/\∀y,hasN H1 x y↔hasN H x y:=by
 obtain⟨a,h,rfl,f,A,u,v,B⟩:=dD e;have m:cN (H1 a)=some h:=by
  cases eh:H a with
  |none=>rw[eh]at f;cases f
  |some o=>rw[s _ _ eh,<-eh];exact f
 have n:∀c∈h,cd H1 c=cd H c:=fun c d=>by obtain⟨b,r,rfl,p,q,_⟩:=jJ (u c d);exact(mE (s _ _ p) (s _ _ q)).trans (mE p q).symm
 have l:∀c∈h,aR H1 c=aR H c:=fun c d=>congrArg Prod.fst (n c d);refine⟨?_,fun y=>?_⟩;·unfold rowsOf;rw[mB f,mB m,cJ l];exact cJ fun c d=>n c ((_root_.Q.fB V.non v (by simp)).mem_iff.mp d)
 ·constructor;·rintro⟨t,w,z,c,i,g,j,d,k⟩;cases i;rw[m]at g;cases g;exact⟨a,h,z,c,rfl,f,j,d,by rw[<-l c d];exact k⟩
  ·rintro⟨t,w,z,c,i,g,j,d,k⟩;cases i;rw[f]at g;cases g;exact⟨a,h,z,c,rfl,m,j,d,by rw[l c d];exact k⟩
end
end K32
namespace M6
def Ok(n:Nat)(v:List Int):Prop:=v.length=n/\∀x∈v,x=0\/x=1
def Ok.at{v:List Int}(h:Ok n v)(i:Nat):v.getD i 0=0\/v.getD i 0=1:=by
 rw[af];cases e:v[i]? with
 |none=>exact .inl rfl
 |some x=>exact h.2 x (aI e)
def Mis(vs:List (List Int))(i j:Nat):Prop:=∃a b:Int,(a=0\/a=1)/\(b=0\/b=1)/\∀v∈vs,¬(v.getD i 0=a/\v.getD j 0=b)
end M6
namespace K24
open PySem PySem.Spec PyProof.Rows L2 R Cp Lt Kc K21 K22 Lm
def wy{d:List (Str×List V)}{i j:Int}:rK d i j=true↔∀u v:Int,(u=0\/u=1)->(v=0\/v=1)->∃r∈d,Hv i r=u/\Hv j r=v:=by
 unfold rK;rw[bg];constructor
 ·intro h u v a g;have f:(u,v)∈KP:=by unfold KP;rcases a with rfl|rfl<;>rcases g with rfl|rfl<;>simp
  obtain⟨r,c,e⟩:=cw.mp (h (u,v) f);exact⟨r,c,of_decide_eq_true e⟩
 ·intro h k b;have a:(k.1=0\/k.1=1)/\(k.2=0\/k.2=1):=by unfold KP at b;simp only[aG,cu,or_false]at b;rcases b with rfl|rfl|rfl|rfl<;>simp
  obtain⟨r,c,e⟩:=h k.1 k.2 a.1 a.2;exact cw.mpr ⟨r,c,decide_eq_true e⟩
end K24
namespace K83
open PySem PySem.Spec PyProof.Rows L2 R Cp Lt Kc Lm
def j6{a b:Type}{F:a->b->Prop}{l:List a}{m:List b}(p:Paired F l m):l.length=m.length:=by
 induction p with
 |nil=>rfl
 |cons _ _ ih=>rw[ba,ba,ih]
def pr_at{c d:Type}{F:c->d->Prop}{l:List c}{m:List d}(p:Paired F l m):∀{i:Nat}{a:c},l[i]? =some a->∃b,m[i]? =some b/\F a b:=by
 induction p with
 |nil=>intro i a h;cases h
 |cons h _ ih=>
  intro i a e;cases i with
  |zero=>cases e;exact⟨_,rfl,h⟩
  |succ i=>exact ih e
end K83
namespace K83
open PySem PySem.Spec PyProof.Rows L2 R Cp Lt Lm K02
def mC{a:Type}(d:a){ps:List (List Int)}{ys:List a}(nd:ps.Nodup)(b:ps.length=ys.length):(_root_.Q.dJ d ps ys).Perm ys:=by unfold _root_.Q.dJ;have h:=(_root_.Q.o7 nd).map fun i=>ys.getD i d;rw[b,_root_.Q.range_getD]at h;exact h
abbrev nd1(k:List Int):L2.D:=.tup (k.map .int)
end K83
namespace M8
open K32 K83
noncomputable abbrev Tri:=List Int×List Int×List Int
end M8
namespace K34
open PySem PySem.Spec PyProof.Rows L2 R Cp Lt Kc K21 K22 Lm M5 K32 K24
structure Tn(H:Hp)(t:Addr)(nf:Nat->Str)(n:Nat)(ys:List V)(ac:List (List Int)):Prop where
 et:H t=some (.lst ys)
 ln:ac.length=ys.length
 row:∀(i:Nat) y,ys[i]? =some y->∃b r,y=.ref b/\H b=some (.tup [.str (nf i),.ref r])/\H r=some (.tup ((ac.getD i []).map V.int))
 ok:∀i,eO (nf i)=true
 inj:∀i j,i<ys.length->j<ys.length->nf i=nf j->i=j
 len:ys.length<=40
 n10:n<=60
 rd:∀r∈ac,M6.Ok n r
 mis:∀i j,i<j->j<n->M6.Mis ac i j
section
variable {t:Addr}{nf:Nat->Str}{T:Tb}
def Tn.get(d:Tn H t nf n ys ac)(h:i<ys.length):ac.getD i []∈ac:=by rw[af,ae (by rw[d.ln];exact h)];exact a6 _
def Tn.gr(d:Tn H t nf n ys ac)(g:Gr T H H')(a:Tab T H):Tn H' t nf n ys ac:=
 {d with et:=g.lst a d.et,row:=fun i y e=>let⟨b,r,h1,h2,h3⟩:=d.row i y e;⟨b,r,h1,g.uE a h2,g.uE a h3⟩}
def Tn.same(d:Tn H t nf n ys ac)(s:aA H H'):Tn H' t nf n ys ac:=
 {d with et:=s _ _ d.et,row:=fun i y e=>let⟨b,r,h1,h2,h3⟩:=d.row i y e;⟨b,r,h1,s _ _ h2,s _ _ h3⟩}
def Tn.dr(d:Tn H t nf n ys ac):Dr H nf n ys:=fun i y e=>by obtain⟨b,r,a,c,f⟩:=d.row i y e;have o:=d.rd _ (d.get (aH.mp e).1);refine⟨b,r,_,a,c,f,by rw[ai];exact o.1,fun z h=>?_⟩;obtain⟨x,g,rfl⟩:=aJ.mp h;rcases o.2 x g with rfl|rfl<;>rfl
def Tn.tab(d:Tn H t nf n ys ac):Kn4 H (.ref t)/\bN H (.ref t)=true/\(∀y∈ys,cF H y=true)/\∀y∈ys,bB H y=n:=
 rO d.ok d.inj d.et d.dr (by have :=d.len;lia) (by have :=d.n10;lia)
theorem Tn.count(d:Tn H t nf n ys ac)(h:ys≠[]):Cp.count H (.ref t)=n:=by
 show(match cN (H t)with |some (y::_)=>bB H y|_=>0)=n;rw[d.et];cases ys with
 |nil=>exact absurd rfl h
 |cons y r=>exact d.tab.2.2.2 y (.head _)
def Tn.perm(d:Tn H t nf n ys ac):(rowsOf H (.ref t)).Perm (ys.map (cd H)):=by
 have nd:(ys.map (aR H)).Nodup:=by obtain⟨a,i,e,b,f,g,c,h⟩:=dD d.tab.2.1;cases e;rw[show cN (H t)=some ys by rw[d.et];rfl]at b;cases b;exact c
 unfold rowsOf;rw[mB (show cN (H t)=some ys by rw[d.et];rfl)];exact(_root_.Q.fB V.non nd (by simp)).map (cd H)
def Tn.cds(d:Tn H t nf n ys ac)(x:Str×List V):x∈ys.map (cd H)↔∃i,i<ys.length/\x=(nf i,(ac.getD i []).map V.int):=by
 constructor;·intro h;obtain⟨y,g,rfl⟩:=aJ.mp h;obtain⟨i,e⟩:=bK.mp g;obtain⟨b,r,rfl,a,c⟩:=d.row i y e;exact⟨i,(aH.mp e).1,mE a c⟩
 ·rintro⟨i,hi,rfl⟩;have e:=ae hi;obtain⟨b,r,f,a,c⟩:=d.row i _ e;refine aJ.mpr ⟨ys[i],a6 hi,?_⟩;rw[f];exact mE a c
def FF{r:Str×List V}{z:List Int}(e:r.2=z.map V.int)(i:Nat)(h:i<z.length):Hv i r=z.getD i 0:=by unfold Hv;rw[e,aQ,af,aC,af,ae h];rfl
def Tn.noc(d:Tn H t nf n ys ac):NoC (rowsOf H (.ref t)) (Cp.count H (.ref t)):=fun a b j h=>by
 rw[Bool.eq_false_iff];intro z;rw[K24.wy]at z;have mem:∀r∈rowsOf H (.ref t),∃q∈ac,r.2=q.map V.int:=fun r c=>by obtain⟨i,hi,rfl⟩:=(d.cds r).mp (d.perm.mem_iff.mp c);exact⟨_,d.get hi,rfl⟩
 have p:ys≠[]:=fun e=>by obtain⟨r,c,_⟩:=z 0 0 (.inl rfl) (.inl rfl);obtain⟨q,hq,_⟩:=mem r c;have :=d.ln;rw[e]at this;rw[bA.mp this]at hq;cases hq
 rw[d.count p]at h;obtain⟨u,v,l,m,k⟩:=d.mis a b j h;obtain⟨r,c,f,g⟩:=z u v l m;obtain⟨q,hq,e⟩:=mem r c;have o:=d.rd q hq;rw[FF e a (by rw[o.1];lia)]at f;rw[FF e b (by rw[o.1];lia)]at g;exact k q hq ⟨f,g⟩
end
end K34
namespace K75
open PySem R
abbrev zE:List Str:=["thing","count"]
abbrev rB:List Str:=["thing","count"]
abbrev oK:CB:=
  (.cons (.ret (.call "is_reading" (.cons (.idx (.var 0) (.con (.int 1))) .nil)))
  .nil)
abbrev oM:CB:=
  (.cons (.iff (.or (.not (.call "is_whole" (.cons (.idx (.var 0) (.con (.int 0))) .nil))) (.not (.chain .LtE .Lt (.con (.int 0)) (.idx (.var 0) (.con (.int 0))) (.var 1))))
  (.cons (.ret (.con (.bool false)))
  .nil)
  .nil)
  oK)
abbrev r9:CB:=
  (.cons (.iff (.or (.not (.bfn .isinstance (.cons (.var 0) (.cons (.ty .tuple) .nil)))) (.cmp .NotEq (.bfn .len (.cons (.var 0) .nil)) (.con (.int 2))))
  (.cons (.ret (.con (.bool false)))
  .nil)
  .nil)
  oM)
abbrev vL:List Str:=["thing","count"]
abbrev nT:List Str:=["thing","count"]
abbrev mh:CB:=
  (.cons (.ret (.cmp .Eq (.bfn .len (.cons (.bfn .set (.cons (.comp ["place","elder"] [] (.tup (.cons (.name 0) (.cons (.name 1) .nil))) (.seq (.var 0)) .no (.var 0)) .nil)) .nil)) (.bfn .len (.cons (.var 0) .nil))))
  .nil)
abbrev mi:CB:=
  (.cons (.iff (.not (.bfn .all (.cons (.comp ["part"] [1] (.name 0) (.seq (.var 0)) .no (.call "is_telling" (.cons (.var 0) (.cons (.var 1) .nil)))) .nil)))
  (.cons (.ret (.con (.bool false)))
  .nil)
  .nil)
  mh)
abbrev oW:CB:=
  (.cons (.iff (.not (.bfn .isinstance (.cons (.var 0) (.cons (.ty .list) .nil))))
  (.cons (.ret (.con (.bool false)))
  .nil)
  .nil)
  mi)
abbrev Bn:List Str:=["nodes","tellings"]
abbrev tX:List Str:=["nodes","tellings"]
abbrev uf:CB:=
  (.cons (.ret (.comp ["node"] [1] (.name 0) (.seq (.var 0)) (.yes (.bfn .all (.cons (.comp ["place","elder"] [0] (.tup (.cons (.name 0) (.cons (.name 1) .nil))) (.seq (.var 1)) .no (.cmp .Eq (.idx (.var 2) (.var 0)) (.var 1))) .nil))) (.var 0)))
  .nil)
abbrev zy:List Str:=["nodes","tellings"]
abbrev rm:List Str:=["nodes","tellings","found"]
abbrev og:CB:=
  (.cons (.ret (.var 2))
  .nil)
abbrev oh:CB:=
  (.cons (.iff (.cmp .Eq (.bfn .len (.cons (.var 2) .nil)) (.con (.int 0)))
  .hole
  .nil)
  og)
abbrev rS:CB:=
  (.cons (.asg (.name 2) (.call "that_read" (.cons (.var 0) (.cons (.var 1) .nil))))
  oh)
abbrev sX:List Str:=["branches","nodes","tellings"]
abbrev lL:List Str:=["branches","nodes","tellings","told","found","one","other","places"]
abbrev kg:CB:=
  (.cons (.ret (.var 4))
  .nil)
abbrev kh:CB:=
  (.cons (.forr (.tup (.cons (.name 5) (.cons (.name 6) (.cons (.name 7) .nil)))) (.seq (.var 0))
  (.cons (.iff (.or (.cmp .In (.var 5) (.var 1)) (.cmp .In (.var 6) (.var 1)))
  (.cons (.expr (.meth1 .extend (.var 4) (.comp ["place"] [3] (.name 0) (.seq (.var 7)) (.yes (.cmp .NotIn (.var 0) (.var 1))) (.var 0))))
  .nil)
  .nil)
  .nil))
  kg)
abbrev ki:CB:=
  (.cons (.asg (.name 4) (.lst .nil))
  kh)
abbrev lT:CB:=
  (.cons (.asgc 3 (.comp ["place","elder"] [] (.tup (.cons (.name 0) (.cons (.name 1) .nil))) (.seq (.var 2)) .no (.var 0)))
  ki)
abbrev zG:List Str:=["table","tellings"]
abbrev rD:List Str:=["table","tellings","whole","nodes","unknown"]
abbrev oR:CB:=
  (.cons (.ret (.bfn .tuple (.cons (.comp ["place","reading"] [4] (.tup (.cons (.name 0) (.cons (.name 1) .nil))) (.enumt (.idx (.var 3) (.con (.int 0)))) .no (.ite (.cmp .In (.var 0) (.var 2)) (.con .none) (.var 1))) .nil)))
  .nil)
abbrev oS:CB:=
  (.cons (.asg (.name 4) (.call "unknown_places" (.cons (.idx (.var 2) (.con (.int 1))) (.cons (.var 3) (.cons (.var 1) .nil)))))
  oR)
abbrev oU:CB:=
  (.cons (.asg (.name 3) (.call "told_nodes" (.cons (.idx (.var 2) (.con (.int 0))) (.cons (.var 1) .nil))))
  oS)
abbrev oV:CB:=
  (.cons (.asg (.name 2) (.call "tree" (.cons (.var 0) .nil)))
  oU)
abbrev sj:CB:=
  (.cons (.expr (.call "need_tellings" (.cons (.var 0) (.cons (.var 1) .nil))))
  oV)
end K75
namespace K75
open PySem PySem.Spec PyProof.Rows L2 R Cp Lt Kc K21 K22 Lm M5 K32 K34
def TgV(H:Hp)(z:V)(q:Nat×Int):Prop:=∃a,z=V.ref a/\H a=some (.tup [.int q.1,.int q.2])
structure Tls(H:Hp)(l:Addr)(zs:List V)(ts:List (Nat×Int)):Prop where
 hl:H l=some (.lst zs)
 pr:Paired (TgV H) zs ts
structure Vt(n:Nat)(ts:List (Nat×Int)):Prop where
 ok:∀q∈ts,q.1<n/\(q.2=0\/q.2=1)
 nd:(ts.map (·.1)).Nodup
def Vt.len(v:Vt n ts):ts.length<=n:=by
 have :=L2.rg v.nd (m:=aE n) fun x a=>by obtain⟨q,hq,rfl⟩:=aJ.mp a;exact bp.mpr (v.ok q hq).1
 rw[ai,aY]at this;exact this
def j7{a b:Type}{P:a->b->Prop}{xs:List a}{ys:List b}(h:Paired P xs ys){x:a}(e:xs[i]? =some x):∃y,ys[i]? =some y/\P x y:=K83.pr_at h e
def NdV(K:ah)(H:Hp)(v:V)(k:List Int):Prop:=∃b,v=V.ref b/\SqT K H b (k.map V.int)
def NdV.same{k:List Int}(h:NdV K H v k)(s:aA H H'):NdV K H' v k:=let⟨b,e,q⟩:=h;⟨b,e,s.tup q⟩
abbrev rdT(ts:List (Nat×Int))(v:List Int):Bool:=ts.all fun q=>decide (v.getD q.1 0=q.2)
theorem EZ{a:Type}{P:V->a->Prop}(t:a->Bool):∀{xs:List V}{ds:List a},Paired P xs ds->Paired P (((xs.zip ds).filter fun p=>t p.2).map fun p=>p.1) (ds.filter t)
 |_,_,.nil=>.nil
 |x::xs,d::ds,.cons h r=>by
  have b:=EZ t r;rw[uv,xr,xr];cases c:t d with
  |true=>exact .cons h b
  |false=>exact b
def JJ(K:ah):Sp:=fun vs H Q _=>∃(a l:Addr)(n:Nat)(us zs:List V)(ns:List (List Int))(ts:List (Nat×Int)),vs=[.ref a,.ref l]/\SqL K H a us/\Paired (NdV K H) us ns/\(∀v∈ns,v.length=n)/\ns.length<=61/\n<=60/\Tls H l zs ts/\(∀q∈ts,q.1<n/\(q.2=0\/q.2=1))/\ts.length<=60/\
 ∀H' b ws,aA H H'->H b=none->H' b=some (.lst ws)->Paired (NdV K H') ws (ns.filter (rdT ts))->Q (.ref b) H'
def wp_thr:Sat G K (JJ K) uf tX:=by
 rintro vs H a1 a0 ⟨a,l,a4,F,s,B,f,rfl,t,m,R,a5,a6,d,v,tl,q⟩;have ul:F.length=B.length:=K83.j6 m;have zl:s.length=f.length:=K83.j6 d.pr;unfold uf;change wpB G K _ _ _ [some (.ref a),some (.ref l)] H;ext;refine dF (dc rfl t (Aj ul eE (eU (by lia)) (fun I n=>n.seq t) (rdT f) (fun x _=>x) (fun j=>∃u,j=[u,some (.ref l)]) ⟨none,rfl⟩ ?_ ?_))
 ·rintro i x k j H3 Rt Rf S y ⟨u,rfl⟩ g X kf;obtain⟨k',z,b,rfl,N⟩:=j7 m S;rw[y]at z;cases z;have W:=R k (aI y);ext;refine dF (dc rfl (SqL.of (g _ _ d.hl)) (d7 eE (eU (by lia)) (fun I n=>SqL.of (n _ _ (g _ _ d.hl))) (fun i v _=>v=.bl (decide (k.getD (f.getD i (0,0)).1 0=(f.getD i (0,0)).2))) (fun _ _ _ _ _ h=>h) (fun j=>∃u w,j=[u,w,some (.ref b)]) ⟨none,none,rfl⟩ ?_ ?_));·rintro a3 a7 j J a2 hj ⟨u',w,rfl⟩ r T U;obtain⟨q',hq,c,rfl,P⟩:=j7 d.pr T;obtain⟨Z,o2⟩:=v q' (aI hq);have D:=g.trans r;refine⟨c,_,rfl,SqT.of (D _ _ P),rfl,_,_,rfl,_,_,rfl,rfl,?_⟩;ext;refine .inr (.inl ⟨b,_,_,_,rfl,rfl,D.tup N,cC (gW (by rw[W];exact Z)),jD.mpr (U _ _ _ ⟨_,_,rfl⟩ (aA.refl _) ?_)⟩);rw[getD_some hq]
  ·intro bs J Y O M r Q;have e:=bool_list O M;subst e;refine⟨Y,_,rfl,SqL.of aq,_,rfl,?_⟩;have L:(((aE s.length).map fun i=>decide (k.getD (f.getD i (0,0)).1 0=(f.getD i (0,0)).2)).all id)=rdT f k:=by unfold rdT;rw[zl,<-sy f (0,0) fun q:Nat×Int=>decide (k.getD q.1 0=q.2)]
   rw[L];have E:=r.trans (au (o:=.lst (((aE s.length).map fun i=>decide (k.getD (f.getD i (0,0)).1 0=(f.getD i (0,0)).2)).map V.bl)) Q);cases c:rdT f k with
   |true=>rw[if_pos rfl];exact X _ _ ⟨_,rfl⟩ E c
   |false=>rw[if_neg (by decide)];exact kf _ _ ⟨_,rfl⟩ E c
 ·intro H2 l2 C A;have g:=C.trans (au (o:=.lst (((F.zip B).filter fun p=>rdT f p.2).map fun p=>p.1)) A);exact q _ l2 _ g (C.free A) aq (EZ (rdT f) (Paired.rG m fun _ _ h=>h.same g))
def JI(K:ah):Sp:=fun vs H Q _=>∃(a l:Addr)(n:Nat)(us zs:List V)(ns:List (List Int))(ts:List (Nat×Int)),vs=[.ref a,.ref l]/\SqL K H a us/\Paired (NdV K H) us ns/\(∀v∈ns,v.length=n)/\ns.length<=61/\n<=60/\Tls H l zs ts/\Vt n ts/\ns.filter (rdT ts)≠[]/\
 ∀H' b ws,aA H H'->H b=none->H' b=some (.lst ws)->Paired (NdV K H') ws (ns.filter (rdT ts))->Q (.ref b) H'
def wp_tn(f:G.fn "that_read" 2=some (JJ K,[])):Sat G K (JI K) rS rm:=by rintro w H Q E ⟨a,l,n,r,t,k,p,rfl,g,m,h,j,c,d,v,ne,q⟩;unfold rS;change wpB G K _ _ _ [some (.ref a),some (.ref l),none] H;ext;refine⟨_,_,f,a,l,n,r,t,k,p,rfl,g,m,h,j,c,d,v.ok,aF v.len c,fun u l1 x o i b e=>?_⟩;unfold oh;ext;have s:=K83.j6 e;refine .inl ⟨l1,_,rfl,.inl (SqL.of b),jD.mpr ⟨_,rfl,?_⟩⟩;rw[if_neg (by rw[s];exact fun z=>ne (bA.mp (by have :=of_decide_eq_true z;lia)))];unfold og;ext;exact q _ _ _ o i b e
theorem yu:∀u v:List Int,n9 (u.map L2.D.int) (v.map .int)=decide (u=v)
 | [],[]=>rfl
 | [],_::_=>rfl
 |_::_,[]=>rfl
 |a::u,b::v=>by
  show(eqD (.int a) (.int b)&&n9 (u.map L2.D.int) (v.map .int))=_;rw[yu u v];have e:eqD (.int a) (.int b)=decide (a=b):=by show(a==b)=_;rw[eB,beq_iff_eq,decide_eq_true_eq]
  rw[e,eB,az,decide_eq_true_eq,decide_eq_true_eq,decide_eq_true_eq,IY]
def Mb(u v:List Int):eqD (K83.nd1 u) (K83.nd1 v)=decide (u=v):=yu u v
theorem FH:∀{us:List V}{ns:List (List Int)},Paired (NdV K H) us ns->d8 K H (ns.map K83.nd1) us
 |_,_,.nil=>rfl
 |_,_,.cons ⟨b,e,h⟩ r=>by subst e;exact⟨_,_,rfl,⟨b,_,rfl,h,d8.ints _⟩,FH r⟩
theorem B4:∀ns:List (List Int),gh (ns.map K83.nd1)<=1
 | []=>aM _
 |v::ns=>by
  have :=B4 ns;have a:hgt (K83.nd1 v)=1:=by show gh (v.map L2.D.int)+1=1;rw[tB]
  show max (hgt (K83.nd1 v)) (gh (ns.map K83.nd1))<=1;lia
def any_nd(a:List (List Int))(v:List Int):((a.map K83.nd1).any fun d=>eqD d (K83.nd1 v))=decide (v∈a):=by
 rw[GN,eB,cw,decide_eq_true_eq];constructor
 ·rintro⟨x,b,e⟩;have :x=v:=by have e:eqD (K83.nd1 x) (K83.nd1 v)=true:=e;rw[Mb]at e;exact of_decide_eq_true e
  exact this▸b
 ·intro h;refine⟨v,h,?_⟩;show eqD (K83.nd1 v) (K83.nd1 v)=true;rw[Mb,decide_eq_true rfl]
def LO{us:List V}{a:List (List Int)}{v:List Int}{Q:VK}(c:SqL K H p us)(d:Paired (NdV K H) us a)(e:NdV K H x v)(q:Q (.bl (decide (v∈a))) H):gR K .In x (.ref p) H Q:=by obtain⟨b,rfl,f⟩:=e;refine .inl (.inr ⟨p,us,_,K83.nd1 v,rfl,c,⟨b,_,rfl,f,d8.ints _⟩,FH d,aF (B4 a) (by decide),?_⟩);rw[if_neg ao,any_nd];exact q
def TrV(K:ah)(H:Hp)(v:V)(x:M8.Tri):Prop:=∃c p q r,v=V.ref c/\SqT K H c [.ref p,.ref q,.ref r]/\SqT K H p (x.1.map V.int)/\SqT K H q (x.2.1.map V.int)/\SqT K H r (x.2.2.map V.int)
def told_is{vs:List V}(d:vs.length=m)(zl:m=ts.length)(c:∀(i:Nat)(v:V),vs[i]? =some v->v=V.int (((ts.map (·.1)).getD i 0:Nat):Int)):vs=(ts.map fun q=>(q.1:Int)).map V.int:=by
 rw[cD];apply bR;·rw[d,ai,zl]
 ·intro i b a;rw[c i _ (ae b),bQ,af,aC,ae (by rw[ai]at a;exact a)];rfl
def HV(t:Int->Bool):(((qs.map V.int).zip qs).filter fun p=>t p.2).map (fun p=>V.int p.2)=(qs.filter t).map V.int:=by
 conv =>rhs;rw[<-nv (l₁:=qs.map V.int) (l₂:=qs) (by rw[ai];exact av _),kC,cD]
 rfl
abbrev unB(ns:List (List Int))(ts:List (Nat×Int))(x:M8.Tri):List Int:=if x.1∈ns\/x.2.1∈ns then x.2.2.filter fun p=>decide (p∉ts.map fun q=>(q.1:Int))else[]
def spUp(K:ah):Sp:=fun vs H Q _=>∃(b a l:Addr)(bs us zs:List V)(xs:List M8.Tri)(ns:List (List Int))(ts:List (Nat×Int)),vs=[.ref b,.ref a,.ref l]/\SqL K H b bs/\Paired (TrV K H) bs xs/\xs.length<=60/\(∀x∈xs,x.2.2.length<=60)/\SqL K H a us/\Paired (NdV K H) us ns/\Tls H l zs ts/\ts.length<=60/\
 ∀H' f,aA H H'->H f=none->H' f=some (.lst ((xs.flatMap (unB ns ts)).map V.int))->Q (.ref f) H'
theorem Cc{a:Type}{g:a->List Int}:∀{xs:List a},(∀x∈xs,(g x).length<=m)->(xs.flatMap g).length<=xs.length*m
 | [],_=>aM _
 |x::xs,h=>by have c:=h x aL;have d:=Cc (xs:=xs) fun y b=>h y (aD _ b);rw[mS,aU,ba,IP];lia
def E1(a:List (List Int))(b:List (Nat×Int))(x:M8.Tri):(unB a b x).length<=x.2.2.length:=by
 unfold unB;split;·exact gw _ _
 ·exact aM _
def wp_up:Sat G K (spUp K) lT lL:=by
 rintro vs H a9 a8 ⟨b,a,l,bs,us,zs,xs,e,j,rfl,W,pb,b6,a0,U,pn,d,b5,q⟩;have zl:zs.length=j.length:=K83.j6 d.pr;have bl:bs.length=xs.length:=K83.j6 pb;unfold lT;change wpB G K _ _ _ [some (.ref b),some (.ref a),some (.ref l),none,none,none,none,none] H;ext;refine dF (dc rfl (SqL.of d.hl) (d7 eE (eU (by lia)) (fun s F=>SqL.of (F _ _ d.hl)) (fun i v _=>v=.int (((j.map (·.1)).getD i 0:Nat):Int)) (fun _ _ _ _ _ h=>h) (fun I=>∃u w,I=[u,w]) ⟨none,none,rfl⟩ ?_ ?_));·rintro i x I J b0 hi ⟨u,w,rfl⟩ k N a6;obtain⟨E,hq,c,rfl,Q⟩:=j7 d.pr N;refine⟨c,_,rfl,SqT.of (k _ _ Q),rfl,_,_,rfl,_,_,rfl,rfl,_,rfl,a6 _ _ _ ⟨_,_,rfl⟩ (aA.refl _) ?_⟩;rw[af,aC,hq];rfl
 intro vs s A a5 hF F a4;have e4:=told_is a5 zl hF;subst e4;generalize hX:upd s A _=H2;obtain⟨t,et⟩:=eF hX a4;clear hX
 replace t:=F.trans (t)
 unfold ki;ext;refine⟨aM _,fun f hf=>?_⟩;have s3:=au (o:=.lst []) hf;have n0:H f=none:=t.free hf;unfold kh;ext;refine iJ (dc rfl ((t.trans s3).seq W) (gX eE (fun i O P=>aA H2 P/\P f=some (.lst (((xs.take i).flatMap (unB e j)).map V.int))/\∃u v w,O=[some (.ref b),some (.ref a),some (.ref l),some (.ref A),some (.ref f),u,v,w])
  ⟨s3,aq,_,_,_,rfl⟩ (fun i O P _ a7=>(t.trans a7.1).seq W) ?_ ?_))
 ·rintro i y O H3 J R hi ⟨k,L,u,v,w,rfl⟩ B C T _;obtain⟨x,N,c,p,E,r,rfl,Q,hp,hq,Y⟩:=j7 pb B;have b3:=a0 x (aI N);have n:=t.trans (k.trans C);have M:=C _ _ L;have S:xs.take (i+1)=xs.take i++[x]:=by rw[dI,N];rfl
  refine⟨c,_,rfl,n.tup Q,rfl,_,_,rfl,_,_,rfl,_,_,rfl,rfl,?_⟩;have a1:=Paired.rG pn fun _ _ h=>h.same n;have no:¬(x.1∈e\/x.2.1∈e)->R.nx [some (.ref b),some (.ref a),some (.ref l),some (.ref A),some (.ref f),some (.ref p),some (.ref E),some (.ref r)] J:=fun z=>by refine T _ _ ⟨k.trans C,?_,_,_,_,rfl⟩;rw[S,kK,mS,xq,ff,show unB e j x=[]from if_neg z,ff];exact M
  have a2:x.1∈e\/x.2.1∈e->tyV K "list" (V.ref f) J/\vn (Ep K (pK 7)) (iV 0) (tV (tOp (gR K .NotIn) (pK 0) (pK 1))) (pK 0) (mD ["place"] [3]) [some (.ref b),some (.ref a),some (.ref l),some (.ref A),some (.ref f),some (.ref p),some (.ref E),some (.ref r)] J fun x s=>rMm .extend (.ref f) [x] s fun x s=>R.nx [some (.ref b),some (.ref a),some (.ref l),some (.ref A),some (.ref f),some (.ref p),some (.ref E),some (.ref r)] s:=fun z=>by
   refine⟨.inl ⟨rfl,_,SqL.of M⟩,?_⟩;refine dF (uu rfl (n.tup Y) (Aj (ds:=x.2.2) (by rw[ai]) zm (eU (by rw[ai];lia)) (fun s F=>F.tup (n.tup Y)) (fun m=>decide (m∉j.map fun q=>(q.1:Int))) (fun _ m=>.int m) (fun I=>∃u,I=[u,some (.ref A)]) ⟨none,rfl⟩ ?_ ?_))
   ·rintro b4 y m I H5 Rt Rf B hm ⟨u',rfl⟩ D kt kf;rw[aC,hm]at B;cases B;ext;refine .inr ⟨A,_,rfl,.inl (SqL.of (D _ _ ((k.trans C) _ _ et))),rfl,tE _,_,rfl,?_⟩;rw[if_pos rfl,F7];by_cases c:m∈j.map fun q=>(q.1:Int);·rw[if_neg (by rw[decide_eq_true c];decide)];exact kf _ _ ⟨_,rfl⟩ (aA.refl _) (by simpa using c)
    ·rw[if_pos (by rw[decide_eq_false c];rfl)];exact kt _ _ ⟨_,rfl⟩ (aA.refl _) (by simpa using c)
   ·intro H5 Z D X;have e5:(((x.2.2.map V.int).zip x.2.2).filter fun p=>decide (p.2∉j.map fun q=>(q.1:Int))).map (fun p=>V.int p.2)=(unB e j x).map V.int:=by unfold unB;rw[if_pos z];exact HV fun p=>decide (p∉j.map fun q=>(q.1:Int))
    have a3:f≠Z:=bI (D _ _ M) X;have b1:((xs.take i).flatMap (unB e j)).length<=3600:=by have :=Cc (m:=60) (g:=unB e j) (xs:=xs.take i) fun y B=>aF (E1 e j y) (a0 y (IX B));rw[cY]at this;have :min i xs.length*60<=60*60:=Nat.mul_le_mul (by lia) (av _);lia
    have b2:=E1 e j x;rw[e5];refine⟨f,Z,_,_,rfl,rfl,by rw[aW a3];exact D _ _ M,aq,?_,?_⟩;·rw[ai,ai];exact aF (by lia:_<=4000) (by decide)
    ·refine T _ _ ⟨dj (dj ((k.trans C).trans D) (((k.trans C).trans D).free X)) hf,?_,_,_,_,rfl⟩;rw[aq,S,kK,mS,xq,ff,cH]
  ext;refine LO (n.seq U) a1 ⟨p,rfl,n.tup hp⟩ ⟨_,rfl,?_⟩;by_cases c1:x.1∈e;·rw[if_pos (decide_eq_true c1),if_pos trivial];exact a2 (.inl c1)
  ·rw[if_neg (by simpa using c1)];refine LO (n.seq U) a1 ⟨E,rfl,n.tup hq⟩ ⟨_,rfl,?_⟩;by_cases c2:x.2.1∈e;·rw[if_pos (decide_eq_true c2)];exact a2 (.inr c2)
   ·rw[if_neg (by simpa using c2)];exact no fun z=>z.elim c1 c2
 ·rintro O H3 ⟨k,L,u,v,w,rfl⟩;unfold kg;ext;rw[bl,fK]at L;exact q _ _ (t.trans k) n0 L
def plc_len(n:Nat)(P:Nat->Bool):(M5.plc n P).length<=n:=by unfold M5.plc;rw[ai];exact aF (gw _ _) (by rw[aY];exact av _)
end K75
namespace K63
open PySem R
abbrev uG:List Str:=["table","tellings"]
abbrev mW:List Str:=["table","tellings","count"]
abbrev kQ:CB:=
  (.cons (.iff (.not (.call "are_tellings" (.cons (.var 1) (.cons (.var 2) .nil))))
  (.cons (.rais "NoTelling" (.cons (.con (.str "these are no tellings of the table")) .nil))
  .nil)
  .nil)
  .nil)
abbrev kR:CB:=
  (.cons (.iff (.cmp .Eq (.bfn .len (.cons (.var 0) .nil)) (.con (.int 0)))
  (.cons (.rais "NoTable" (.cons (.con (.str "a table without copies has no node")) .nil))
  .nil)
  .nil)
  kQ)
abbrev mZ:CB:=
  (.cons (.asg (.name 2) (.call "place_count" (.cons (.var 0) .nil)))
  kR)
abbrev qX:List Str:=["_law_count","_law_drawn"]
abbrev kM:List Str:=["_law_count","_law_drawn","_law_some"]
abbrev gJ:CB:=
  (.cons (.ret (.idx (.var 2) (.bin .Mod (.var 1) (.bfn .len (.cons (.var 2) .nil)))))
  .nil)
abbrev jE:CB:=
  (.cons (.iff (.cmp .Gt (.var 0) (.con (.int 0)))
  (.cons (.asg (.name 2) (.bin .Add (.var 2) (.lst (.cons (.lst (.cons (.tup (.cons (.con (.int 0)) (.cons (.con (.int 2)) .nil))) .nil)) (.cons (.lst (.cons (.tup (.cons (.con (.int 0)) (.cons (.con (.bool true)) .nil))) .nil)) (.cons (.lst (.cons (.tup (.cons (.con (.int 0)) (.cons (.con .none) .nil))) .nil)) (.cons (.lst (.cons (.tup (.cons (.con (.int 0)) (.cons (.con (.int 1)) .nil))) (.cons (.tup (.cons (.con (.int 0)) (.cons (.con (.int 1)) .nil))) .nil))) (.cons (.lst (.cons (.tup (.cons (.con (.int 0)) (.cons (.con (.int 0)) .nil))) (.cons (.tup (.cons (.con (.int 0)) (.cons (.con (.int 1)) .nil))) .nil))) (.cons (.lst (.cons (.tup (.cons (.con (.int 0)) (.cons (.un .USub (.con (.int 1))) .nil))) .nil)) .nil)))))))))
  .nil)
  .nil)
  gJ)
abbrev kT:CB:=
  (.cons (.asg (.name 2) (.lst (.cons (.con .none) (.cons (.tup .nil) (.cons (.dic .nil) (.cons (.lst (.cons (.con .none) .nil)) (.cons (.lst (.cons (.tup (.cons (.con (.int 0)) .nil)) .nil)) (.cons (.lst (.cons (.tup (.cons (.con (.int 0)) (.cons (.con (.int 0)) (.cons (.con (.int 0)) .nil)))) .nil)) (.cons (.lst (.cons (.tup (.cons (.un .USub (.con (.int 1))) (.cons (.con (.int 0)) .nil))) .nil)) (.cons (.lst (.cons (.tup (.cons (.var 0) (.cons (.con (.int 1)) .nil))) .nil)) (.cons (.lst (.cons (.tup (.cons (.con (.bool true)) (.cons (.con (.int 0)) .nil))) .nil)) (.cons (.lst (.cons (.tup (.cons (.con (.str "0")) (.cons (.con (.int 1)) .nil))) .nil)) (.cons (.lst (.cons (.lst (.cons (.con (.int 0)) (.cons (.con (.int 1)) .nil))) .nil)) .nil)))))))))))))
  jE)
end K63
namespace K63
open PySem PySem.Spec PyProof.Rows L2 R Cp Lt Kc K21 K22 Lm K23 K02 K32 K34 K75
inductive Th where
 |at(v:V)
 |tp (vs:List V)
 |ls (vs:List V)
abbrev ThV(H:Hp)(x:V):Th->Prop
 |.at v=>x=v
 |.tp vs=>∃a,x=.ref a/\H a=some (.tup vs)
 |.ls vs=>∃a,x=.ref a/\H a=some (.lst vs)
def Atm(v:V):Prop:=v=.non\/(∃b,v=.bl b)\/(∃i,v=.int i)\/∃z,v=.str z
abbrev Th.ok:Th->Prop
 |.at v=>Atm v
 |.tp vs=>∀v∈vs,Atm v
 |.ls vs=>∀v∈vs,Atm v
def i7{t:Th}:eH (fun v H=>ThV H v t):=fun v H b s h=>by
 cases t with
 |«at» w=>exact h
 |tp vs=>exact let⟨a,e,q⟩:=h;⟨a,e,s _ _ q⟩
 |ls vs=>exact let⟨a,e,q⟩:=h;⟨a,e,s _ _ q⟩
def Atm.kn(h:Atm v):Known H v:=by
 rcases h with rfl|⟨b,rfl⟩ |⟨i,rfl⟩ |⟨z,rfl⟩;·exact Eg
 ·exact kn_bl
 ·exact zY
 ·exact Ef
def th_kn{t:Th}(h:ThV H x t)(o:t.ok):Known H x:=by
 cases t with
 |«at» v=>rw[show x=v from h];exact Atm.kn o
 |tp vs=>obtain⟨a,rfl,e⟩:=h;exact qu e
 |ls vs=>obtain⟨a,rfl,e⟩:=h;exact we e
abbrev whV:V->Int
 |.int i=>i
 |_=>0
abbrev tgT(n:Nat):Th->Bool
 |.tp [p,e]=>isWhole p&&(decide (0<=whV p/\whV p<n)&&bJ e)
 |_=>false
def JK:Sp:=fun vs H Q _=>∃(x:V)(n:Nat)(t:Th),vs=[x,.int n]/\ThV H x t/\t.ok/\∀H',aA H H'->Q (.bl (tgT n t)) H'
def wp_tgA(k:G.fn "is_whole" 1=some (spB isWhole,[]))(l:G.fn "is_reading" 1=some (spB bJ,[])):
  Sat G K JK r9 rB:=by
 rintro h H Q E ⟨x,n,t,rfl,g,o,q⟩;unfold r9;change wpB G K _ _ _ [some x,some (.int n)] H;ext;refine isi (th_kn g o) .tuple ⟨_,rfl,?_⟩;cases t with
 |«at» v=>
  rw[show jC (tyName H x) (Ty.t .tuple)=false by rw[show x=v from g];rcases o with rfl|⟨b,rfl⟩ |⟨i,rfl⟩ |⟨z,rfl⟩<;>rfl,if_pos (by rfl)]
  exact q _ (aA.refl _)
 |ls h=>obtain⟨a,rfl,c⟩:=g;rw[show tyName H (.ref a)="list" by show iS (H a)=_;rw[c];rfl,if_pos (by decide)];exact q _ (aA.refl _)
 |tp h=>
  obtain⟨a,rfl,c⟩:=g;rw[show tyName H (.ref a)="tuple" by show iS (H a)=_;rw[c];rfl,if_neg (by decide)];refine .inl ⟨a,_,rfl,.inr (SqT.of c),K8.mpr ⟨_,rfl,?_⟩⟩
  match h,c,o,q with
  | [],_,_,q=>exact q _ (aA.refl _)
  | [_],_,_,q=>exact q _ (aA.refl _)
  |_::_::_::r,_,_,q=>rw[if_pos (by simp;lia)];exact q _ (aA.refl _)
  | [p,e],c,o,q=>
   rw[if_neg (by simp)];have s:Atm p:=o p (by simp);have m:Atm e:=o e (by simp);have d:∀j,aA H j->Q (.bl (isWhole p&&(decide (0<=whV p/\whV p<n)&&bJ e))) j:=q;unfold oM;ext;refine⟨_,_,k,.inr (.inl ⟨a,_,0,_,rfl,rfl,SqT.of c,rfl,p,rfl,s.kn,fun w f=>⟨_,rfl,?_⟩⟩)⟩;cases p with
   |int i=>
    rw[show(!isWhole (.int i))=false from rfl,if_neg (by decide)];refine .inr (.inl ⟨a,_,0,_,rfl,rfl,SqT.of (f _ _ c),rfl,?_⟩);ext;by_cases c0:0<=i
    ·rw[if_pos (decide_eq_true c0)];by_cases c1:i<n;·rw[decide_eq_true c1,if_neg (by decide)];rw[show(isWhole (.int i)&&(decide (0<=whV (.int i)/\whV (.int i)<n)&&bJ e))=bJ e by rw[decide_eq_true (show 0<=whV (.int i)/\whV (.int i)<n from⟨c0,c1⟩)];rfl]at d;unfold oK;ext;exact⟨_,_,l,.inr (.inl ⟨a,_,1,_,rfl,rfl,SqT.of (f _ _ c),rfl,e,rfl,m.kn,fun y u=>d _ (f.trans u)⟩)⟩
     ·rw[decide_eq_false c1,if_pos (by decide)];rw[decide_eq_false (show ¬(0<=whV (.int i)/\whV (.int i)<n)from fun z=>c1 z.2)]at d;exact d _ f
    ·rw[if_neg (fun z=>c0 (of_decide_eq_true z)),if_pos (by decide)];rw[decide_eq_false (show ¬(0<=whV (.int i)/\whV (.int i)<n)from fun z=>c0 z.1)]at d;exact d _ f
   |_=>exact d _ f
abbrev plK:Th->Key
 |.tp (p::_)=>.inl (whV p)
 |_=>.inl 0
abbrev atT(n:Nat)(ts:List Th):Bool:=ts.all (tgT n)&&decide ((_root_.Q.met (ts.map plK)).length=ts.length)
abbrev TlX(H:Hp)(y:V):Option (List Th)->Prop
 |some ts=>∃l zs,y=.ref l/\H l=some (.lst zs)/\Paired (ThV H) zs ts/\ts.length<=2/\∀t∈ts,t.ok
 |none=>y=.non\/∃a,y=.ref a/\(H a=some (.dK [])\/H a=some (.tup []))
def TlX.same{o:Option (List Th)}(h:TlX H y o)(s:aA H H'):TlX H' y o:=by
 cases o with
 |some ts=>exact let⟨l,zs,e,h1,h2,h3,h4⟩:=h;⟨l,zs,e,s _ _ h1,Paired.rG h2 fun _ _ h=>i7 _ _ _ s h,h3,h4⟩
 |none=>exact h.imp id fun⟨a,e,h⟩=>⟨a,e,h.imp (s _ _) (s _ _)⟩
abbrev atX(n:Nat):Option (List Th)->Bool
 |some ts=>atT n ts
 |none=>false
def JN:Sp:=fun vs H Q _=>∃(y:V)(n:Nat)(o:Option (List Th)),vs=[y,.int n]/\TlX H y o/\∀H',aA H H'->Q (.bl (atX n o)) H'
def Jr{t:Th}(h:tgT n t=true):∃p e,t=.tp [.int p,e]/\plK t=.inl p:=by
 cases t with
 |«at» v=>cases h
 |ls vs=>cases h
 |tp vs=>
  match vs,h with
  | [],h=>cases h
  | [_],h=>cases h
  |_::_::_::_,h=>cases h
  | [p,e],h=>
   cases p with
   |int i=>exact⟨i,e,rfl,rfl⟩
   |_=>cases h
def wp_atA(T:G.fn "is_telling" 2=some (JK,[])):Sat G K JN oW nT:=by
 rintro r H Q a3 ⟨y,n,o,rfl,d,q⟩;unfold oW;change wpB G K _ _ _ [some y,some (.int n)] H;ext;cases o with
 |none=>
  have kn:Known H y/\jC (tyName H y) (Ty.t .list)=false:=by
   rcases d with rfl|⟨a,rfl,h|h⟩;·exact⟨Eg,rfl⟩
   ·exact⟨kn_dK h,by rw[show tyName H (.ref a)="dict" by show iS (H a)=_;rw[h];rfl];rfl⟩
   ·exact⟨qu h,by rw[show tyName H (.ref a)="tuple" by show iS (H a)=_;rw[h];rfl];rfl⟩
  refine isi kn.1 .list ⟨_,rfl,?_⟩;rw[kn.2,if_pos (by rfl)];exact q _ (aA.refl _)
 |some ts=>
  obtain⟨l,m,rfl,f,A,t2,ok⟩:=d;have zl:m.length=ts.length:=K83.j6 A;have q:∀D,aA H D->Q (.bl (atT n ts)) D:=q;refine isi (we f) .list ⟨_,rfl,?_⟩;rw[show tyName H (.ref l)="list" by show iS (H l)=_;rw[f];rfl,if_neg (by decide)];unfold mi;ext;refine dF (dc rfl (SqL.of f) (d7 eE (eU (by lia)) (fun M B=>SqL.of (B _ _ f)) (fun i v _=>v=.bl (tgT n (ts.getD i (.at .non)))) (fun _ _ _ _ _ h=>h) (fun p=>∃u,p=[u,some (.int n)]) ⟨none,rfl⟩ ?_ ?_));·rintro i x p O R hi ⟨u,rfl⟩ b z k;obtain⟨t,g,C⟩:=j7 A z;ext;exact⟨_,_,T,x,n,t,rfl,i7 _ _ _ b C,ok t (aI g),fun s j=>k _ _ _ ⟨_,rfl⟩ j (by rw[af,g];rfl)⟩
  intro r N l2 a1 W s2 Z;have e:r=((aE m.length).map fun i=>tgT n (ts.getD i (.at .non))).map V.bl:=by rw[<-a1];exact bool_list rfl W
  subst e;refine⟨l2,_,rfl,SqL.of aq,_,rfl,?_⟩;have P:(((aE m.length).map fun i=>tgT n (ts.getD i (.at .non))).all id)=ts.all (tgT n):=by
   rw[zl,GO];apply eB.mpr;rw[bg,bg];constructor;·intro h t g;obtain⟨i,hi⟩:=bK.mp g;have :=h i (bp.mpr (aH.mp hi).1);simp only[yT,af,hi]at this;exact this
   ·intro h i hi;have hi:=bp.mp hi;simp only[yT,af,ae hi];exact h _ (a6 hi)
  rw[P];have b:=s2.trans (au (o:=.lst (((aE m.length).map fun i=>tgT n (ts.getD i (.at .non))).map V.bl)) Z);generalize upd N l2 (.lst (((aE m.length).map fun i=>tgT n (ts.getD i (.at .non))).map V.bl))=O at b;unfold atT at q;cases ea:ts.all (tgT n)with
  |false=>rw[ea,cT]at q;rw[if_pos (by rfl)];exact q _ b
  |true=>
   rw[ea,eM]at q;rw[if_neg (by decide)];rw[bg]at ea;unfold mh;ext;refine dF (dc rfl (SqL.of (b _ _ f)) (d7 eE (eU (by lia)) (fun M B=>SqL.of (B _ _ (b _ _ f))) (fun i v _=>v=kV (plK (ts.getD i (.at .non)))) (fun _ _ _ _ _ h=>h) (fun p=>∃u w,p=[u,w]) ⟨none,none,rfl⟩ ?_ ?_));·rintro i x p s R hi ⟨u,w,rfl⟩ j z k;obtain⟨t,g,C⟩:=j7 A z;obtain⟨a4,e,rfl,ep⟩:=Jr (ea t (aI g));obtain⟨a,rfl,Y⟩:=C;refine⟨a,_,rfl,SqT.of ((b.trans j) _ _ Y),rfl,_,_,rfl,_,_,rfl,rfl,_,rfl,k _ _ _ ⟨_,_,rfl⟩ (aA.refl _) ?_⟩;rw[af,g];rfl
   intro r s I a2 X j a0;have S:r=(ts.map plK).map kV:=by
    rw[cD];apply bR;·rw[a2,ai,zl]
    ·intro i U E;rw[X i _ (ae U),bQ,af,ae (by rw[ai]at E;exact E)];rfl
   subst S;refine⟨I,_,rfl,SqL.of aq,by rw[ai];lia,fun c F=>?_⟩;have J:=b.trans (j.trans (au (o:=.lst ((ts.map plK).map kV)) a0));generalize upd s I (.lst ((ts.map plK).map kV))=H5 at J F;refine .inr (.inr ⟨c,_,rfl,aq,?_⟩);have L:=J.trans (au (o:=_root_.Q.DH c (_root_.Q.met (ts.map plK)).length) F);refine .inl ⟨l,_,rfl,.inl (SqL.of (L _ _ f)),jD.mpr ?_⟩;rw[zl,show decide (((_root_.Q.met (ts.map plK)).length:Int)=(ts.length:Int))=decide ((_root_.Q.met (ts.map plK)).length=ts.length)from decide_eq_decide.mpr ⟨fun h=>by lia,fun h=>by lia⟩];exact q _ L
def Ba(C CO:Addr):Sp:=fun vs H Q E=>∃(x y:V)(o:Option (List Th)),vs=[x,y]/\Kn4 H x/\TlX H y o/\
 (((bN H x=false\/∃t,x=.ref t/\H t=some (.lst []))/\∀H',aA H H'->E (.ref C) none H')\/
  (bN H x=true/\(∃t c cs,x=.ref t/\H t=some (.lst (c::cs)))/\((atX (count H x) o=false/\∀H',aA H H'->E (.ref CO) none H')\/(atX (count H x) o=true/\∀H',aA H H'->Q .non H'))))
def wp_ntA{CO:Addr}(j:G.fn "place_count" 1=some (uS C,[]))(k:G.fn "are_tellings" 2=some (JN,[]))(v1:G.val "NoTable"=some (.ref C))(f:XC K C)(n:G.val "NoTelling"=some (.ref CO))(g:XC K CO):
  Sat G K (Ba C CO) mZ mW:=by
 rintro s H Q E ⟨x,y,o,rfl,l,m,h⟩;unfold mZ;change wpB G K _ _ _ [some x,some y,none] H;ext;refine⟨_,_,j,x,rfl,l,fun e i a=>?_,fun e i a=>?_⟩
 ·unfold kR;ext;rcases h with⟨z|⟨t,rfl,b⟩,q⟩ |⟨_,⟨t,c,r,rfl,b⟩,h⟩;·rw[e]at z;cases z
  ·refine .inl ⟨t,_,rfl,.inl (SqL.of (a _ _ b)),jD.mpr ⟨_,rfl,?_⟩⟩;rw[if_pos (by rfl)];exact⟨C,v1,f.1,f.2,vP,q _ a⟩
  ·refine .inl ⟨t,_,rfl,.inl (SqL.of (a _ _ b)),jD.mpr ⟨_,rfl,?_⟩⟩;rw[if_neg (by simp;lia)];unfold kQ;ext;refine⟨_,_,k,y,_,o,rfl,m.same a,fun p d=>⟨_,rfl,?_⟩⟩;rcases h with⟨z,q⟩ |⟨z,q⟩;·rw[z,if_pos (by rfl)];exact⟨CO,n,g.1,g.2,vP,q _ (a.trans d)⟩
   ·rw[z,if_neg (by decide)];exact q _ (a.trans d)
 ·rcases h with⟨_,q⟩ |⟨z,_⟩;·exact q _ a
  ·rw[e]at z;cases z
section
variable {dl p:Addr}{bs vs:List V}
def nN(s:aA H H'):aA (del H dl) (del H' dl):=fun b o e=>by
 by_cases c:b=dl;·rw[c,fk]at e;cases e
 ·rw[fG c]at e⊢;exact s _ _ e
def j8:aA (del H dl) H:=fun b o e=>by
 by_cases c:b=dl;·rw[c,fk]at e;cases e
 ·rw[fG c]at e;exact e
def di{a:Type}{P:a->Hp->Prop}(h:eH P):eH (fun v H=>P v (del H dl)):=fun _ _ _ s r=>h _ _ _ (nN s) r
def vw_t(a:H dl=some (.lst bs))(h:H p=some (.tup vs)):del H dl p=some (.tup vs):=by rw[fG (fun z=>by rw[z,a]at h;cases h)];exact h
def Jh(a:H dl=some (.lst (.bl true::bs)))(h:H p=some (.lst vs))(n:∀r,vs≠.bl true::r):del H dl p=some (.lst vs):=by rw[fG (fun z=>by rw[z,a]at h;cases h;exact n _ rfl)];exact h
end
section
variable {G:Gam}{E:XS}{dl:Addr}{bs:List V}
def NoT(n:Nat)(y:V)(H:Hp):Prop:=∃o,TlX H y o/\atX n o=false
def nJ:eH (NoT n):=fun _ _ _ s ⟨o,h,e⟩=>⟨o,h.same s,e⟩
def bq{e:CE}{a:CL}{vs:List V}(h:Mk G K E σ H e (Is v))(i:MkL G K E σ H a (fun ws _=>ws=vs)):MkL G K E σ H (.cons e a) (fun ws _=>ws=v::vs):=fun b s Q q=>
 jh h iH i b s Q fun ws c t ⟨j,r,d,f,g⟩=>q _ c t (by rw[d,show j=v from f,g])
def Lh{i:Int}:Mk G K E σ H (.un .USub (.con (.int i))) (Is (.int (-i))):=fun a s Q q=>⟨i,rfl,q _ a (aA.refl _) rfl⟩
def mt_at{c:Const}:Mk G K E σ H (.con c) (fun x H=>ThV (del H dl) x (.at (cv c))):=bZ
def kb(f:H dl=some (.lst (.bl true::bs))){a:CL}{vs:List V}(h:MkL G K E σ H a (fun ws _=>ws=vs))(l:vs.length<=1000):Mk G K E σ H (.tup a) (fun x H=>ThV (del H dl) x (.tp vs)):=
 (tf h eT (fun ws _ e=>by rw[e];exact l)).imp fun v g s ⟨p,ws,b,c,d⟩=>⟨p,b,by rw[<-d];exact vw_t (s _ _ f) c⟩
def mt_ls(f:H dl=some (.lst (.bl true::bs))){b:CL}{vs:List V}(h:MkL G K E σ H b (fun ws _=>ws=vs))(l:vs.length<=1000)(n:∀r,vs≠.bl true::r):Mk G K E σ H (.lst b) (fun x H=>ThV (del H dl) x (.ls vs)):=
 (mH h eT (fun ws _ e=>by rw[e];exact l)).imp fun v g s ⟨p,ws,c,d,a⟩=>⟨p,c,by rw[<-a];exact Jh (s _ _ f) d (by rw[a];exact n)⟩
def mo_non:Mk G K E σ H (.con .none) (fun x H=>NoT n x (del H dl)):=bZ.imp fun v a _ e=>⟨none,.inl e,rfl⟩
def mo_tup0(d:H dl=some (.lst (.bl true::bs))):Mk G K E σ H (.tup .nil) (fun x H=>NoT n x (del H dl)):=(tf dE A7 len_nil).imp fun v e s ⟨p,f,a,b,c⟩=>⟨none,.inr ⟨p,a,.inr (by rw[<-c];exact vw_t (s _ _ d) b)⟩,rfl⟩
def mo_dic(a:H dl=some (.lst (.bl true::bs))):Mk G K E σ H (.dic .nil) (fun x H=>NoT n x (del H dl)):=fun b s Q q=>.inl ⟨rfl,fun p hp=>q _ _ (au hp) ⟨none,.inr ⟨p,rfl,.inl (by rw[fG (fun z=>by rw[z,s _ _ a]at hp;cases hp)];exact aq)⟩,rfl⟩⟩
def th_nb{t:Th}(h:ThV H (.bl true) t)(n:t≠.at (.bl true)):False:=by
 cases t with
 |«at» v=>exact n (by rw[show V.bl true=v from h])
 |tp vs=>obtain⟨a,e,_⟩:=h;cases e
 |ls vs=>obtain⟨a,e,_⟩:=h;cases e
def jv(f:H dl=some (.lst (.bl true::bs))){e:CE}{t:Th}(h:Mk G K E σ H e (fun x H=>ThV (del H dl) x t))(o:t.ok)(z:tgT n t=false)(nb:t≠.at (.bl true)):Mk G K E σ H (.lst (.cons e .nil)) (fun x H=>NoT n x (del H dl)):=
 (mH (rF h (di i7)) (nI (di i7)) len_one).imp fun v i s ⟨p,k,c,d,x,a,b⟩=>⟨some [t],⟨p,[x],c,by rw[<-a];exact Jh (s _ _ f) d (fun r e=>by rw[a]at e;cases e;exact th_nb b nb),.cons b .nil,by simp,fun j g=>by rw[aS.mp g];exact o⟩,by show((tgT n t&&true)&&_)=false;rw[z];rfl⟩
def Lf(j:H dl=some (.lst (.bl true::bs))){e b:CE}{vs a:List V}(h:Mk G K E σ H e (fun x H=>ThV (del H dl) x (.tp vs)))(h':Mk G K E σ H b (fun x H=>ThV (del H dl) x (.tp a)))(o:∀v∈vs,Atm v)(k:∀v∈a,Atm v)(z:atT n [.tp vs,.tp a]=false):Mk G K E σ H (.lst (.cons e (.cons b .nil))) (fun x H=>NoT n x (del H dl)):=
 (mH (ph h (di i7) h' (di i7)) (jY (di i7) (di i7)) pk).imp fun v l s ⟨p,q,f,g,x,y,c,d,i⟩=>⟨some [.tp vs,.tp a],⟨p,[x,y],f,by rw[<-c];exact Jh (s _ _ j) g (fun r e=>by rw[c]at e;cases e;exact th_nb d (fun z=>by cases z)),.cons d (.cons i .nil),by simp,fun m ht=>by
  rcases aG.mp ht with rfl|ht;·exact o
  ·rw[aS.mp ht];exact k⟩,z⟩
def qE{a:V}(h:Atm a):∀v∈[a],Atm v:=fun v b=>by rw[aS.mp b];exact h
def qD{a:V}{r:List V}(h:Atm a)(k:∀v∈r,Atm v):∀v∈a::r,Atm v:=fun v hv=>by
 rcases aG.mp hv with rfl|hv;·exact h
 ·exact k v hv
def fm{i:Int}:Atm (.int i):=.inr (.inr (.inl ⟨i,rfl⟩))
def atm_b{b:Bool}:Atm (.bl b):=.inr (.inl ⟨b,rfl⟩)
def atm_s:Atm (.str z):=.inr (.inr (.inr ⟨z,rfl⟩))
def atm_n:Atm .non:=.inl rfl
end
def JL:Sp:=fun vs H Q _=>∃(n:Nat)(k:Int)(dl:Addr)(bs:List V),vs=[.int n,.int k]/\H dl=some (.lst (.bl true::bs))/\∀H' x,aA H H'->NoT n x (del H' dl)->Q x H'
def wp_noT:Sat G K JL kT kM:=by
 rintro f H Q E ⟨n,k,o,bs,rfl,a,q⟩;have s:eH fun x H=>NoT n x (del H o):=di nJ;unfold kT;change wpB G K _ _ _ [some (.int n),some (.int k),none] H;have w:∀{g:Hp}{v:V}{m:Nat},aA H g->xM m (fun x H=>NoT n x (del H o)) v g->0<m->m<=100->wpB G K (fun _=>E) gJ {nx:=fun _ A=>Q .non A,rt:=Q} [some (.int n),some (.int k),some v] g:=fun{g v m} j b N O=>by
  obtain⟨p,f,rfl,u,M,C⟩:=b;unfold gJ;ext;refine Or.inl ⟨p,f,rfl,.inl (SqL.of u),iZ.mpr ⟨by lia,?_⟩⟩;obtain⟨i,hi⟩:=cP (dw k (b:=(f.length:Int)) (by lia));have D:=cW k (b:=(f.length:Int)) (by lia);rw[hi]at D⊢;have y:i<f.length:=by lia
  exact .inl ⟨p,f,i,_,rfl,rfl,SqL.of u,cC (ae y),q _ _ j (C _ (a6 y))⟩
 unfold wpB R.wpS mz qm wpG iV;have F:tgT n (.tp [.int n,.int 1])=false:=by show(true&&(decide (0<=(n:Int)/\(n:Int)<n)&&true))=false;rw[decide_eq_false (fun z=>Int.lt_irrefl _ z.2)];rfl
 have J:Mk G K (fun _=>E) [some (.int n),some (.int k),none] H (.var 0) (Is (.int n)):=vX rfl;have d:∀{f:List V},Th.tp f≠.at (.bl true):=fun z=>by cases z
 refine(?h:Mk G K (fun _=>E) _ H _ (xM 11 fun x H=>NoT n x (del H o))) H (aA.refl _) _ fun P g j t=>?_
 case h=>
  exact zU (n:=11) s rfl (by decide) (jk mo_non (jk (mo_tup0 a) (jk (mo_dic a) (jk (jv a mt_at atm_n rfl (fun z=>by cases z))
  (jk (jv a (kb a (bq bZ dE) (by decide)) (qE fm) rfl d) (jk (jv a (kb a (bq bZ (bq bZ (bq bZ dE))) (by decide)) (qD fm (qD fm (qE fm))) rfl d)
  (jk (jv a (kb a (bq Lh (bq bZ dE)) (by decide)) (qD fm (qE fm)) rfl d) (jk (jv a (kb a (bq J (bq bZ dE)) (by simp)) (qD fm (qE fm)) F d)
  (jk (jv a (kb a (bq bZ (bq bZ dE)) (by decide)) (qD atm_b (qE fm)) rfl d) (jk (jv a (kb a (bq bZ (bq bZ dE)) (by decide)) (qD atm_s (qE fm)) rfl d)
  (jk (jv a (mt_ls a (bq bZ (bq bZ dE)) (by decide) (fun r z=>by cases z)) (qD fm (qE fm)) rfl (fun z=>by cases z)) alln)))))))))))
 simp only[eR,eS];unfold jE wpB R.wpS mz;simp only[wpT,Jw,tV,tOp,wpE,pK,tC,cv,ny,fR,exists_eq_left'];refine F8.mpr ⟨_,rfl,?_⟩;by_cases c:(0:Int)<n
 ·rw[if_pos (decide_eq_true c)];have a:=j _ _ a;have two:∀e:Int,atT n [.tp [.int 0,.int e],.tp [.int 0,.int 1]]=false:=fun e=>by unfold atT;rw[IS];exact .inr rfl
  unfold wpB R.wpS mz qm wpG iV;have l:∀e:V,bJ e=false->tgT n (.tp [.int 0,e])=false:=fun e h=>by show(true&&(_&&bJ e))=false;rw[h,dh];rfl
  refine(?h:Mk G K (fun _=>E) _ g _ (xM 17 fun x H=>NoT n x (del H o))) g (aA.refl _) _ fun S L I B=>?_
  case h=>
   exact FP (m:=11) (n:=6) s (zS (xX s) rfl t) (zU s rfl (by decide)
   (jk (jv a (kb a (bq bZ (bq bZ dE)) (by decide)) (qD fm (qE fm)) (l _ rfl) d) (jk (jv a (kb a (bq bZ (bq bZ dE)) (by decide)) (qD fm (qE atm_b)) (l _ rfl) d)
   (jk (jv a (kb a (bq bZ (bq bZ dE)) (by decide)) (qD fm (qE atm_n)) (l _ rfl) d)
   (jk (Lf a (kb a (bq bZ (bq bZ dE)) (by decide)) (kb a (bq bZ (bq bZ dE)) (by decide)) (qD fm (qE fm)) (qD fm (qE fm)) (two 1))
   (jk (Lf a (kb a (bq bZ (bq bZ dE)) (by decide)) (kb a (bq bZ (bq bZ dE)) (by decide)) (qD fm (qE fm)) (qD fm (qE fm)) (two 0))
   (jk (jv a (kb a (bq bZ (bq Lh dE)) (by decide)) (qD fm (qE fm)) (l _ rfl) d) alln))))))) (by decide)
  simp only[eR,eS];exact w (j.trans I) B (by decide) (by decide)
 ·rw[if_neg (fun z=>c (of_decide_eq_true z))];exact w j t (by decide) (by decide)
end K63
namespace K63
open PySem R
abbrev K0:List Str:=["table","tellings"]
abbrev BK:List Str:=["table","tellings"]
abbrev wQ:CB:=
  (.cons (.ret (.call "told_nodes" (.cons (.idx (.call "tree" (.cons (.var 0) .nil)) (.con (.int 0))) (.cons (.var 1) .nil))))
  .nil)
abbrev CD:CB:=
  (.cons (.expr (.call "need_tellings" (.cons (.var 0) (.cons (.var 1) .nil))))
  wQ)
abbrev zB:List Str:=["_law_way","_law_table","_law_tellings"]
abbrev rp:List Str:=["_law_way","_law_table","_law_tellings","_law_truths_here","e"]
abbrev da:CB:=
  (.cons (.ret (.var 3))
  .nil)
abbrev su3:CB:=
  (.cons (.iff (.bfn .isx (.cons (.var 4) (.cons (.glo "Clash") .nil)))
  (.cons (.expr (.meth1 .append (.var 3) (.tup (.cons (.fld (.var 4) "one") (.cons (.fld (.var 4) "other") (.cons (.fld (.var 4) "names") .nil))))))
  .nil)
  .nil)
  .nil)
abbrev su1:CB:=
  (.cons (.asg (.name 3) (.lst (.cons (.bfn .isx (.cons (.var 4) (.cons (.ty .valueError) .nil))) (.cons (.bfn .isx (.cons (.var 4) (.cons (.glo "NoTable") .nil))) (.cons (.bfn .isx (.cons (.var 4) (.cons (.glo "NoTelling") .nil))) .nil)))))
  (.cons (.asg (.name 3) (.bin .Add (.var 3) (.lst (.cons (.bfn .isx (.cons (.var 4) (.cons (.glo "Clash") .nil))) (.cons (.bfn .isx (.cons (.var 4) (.cons (.glo "Torn") .nil))) .nil)))))
  su3))
abbrev oj:CB:=
  (.cons (.tryc "KinError" 4
  (.cons (.iff (.cmp .Eq (.var 0) (.con (.int 0)))
  (.cons (.expr (.call "stands" (.cons (.var 1) (.cons (.var 2) .nil))))
  .nil)
  (.cons (.expr (.call "first_read" (.cons (.var 1) (.cons (.var 2) .nil))))
  .nil))
  .nil)
  su1)
  da)
abbrev rV:CB:=
  (.cons (.asg (.name 3) (.lst .nil))
  oj)
end K63
namespace K63
open PySem PySem.Spec PyProof.Rows L2 R Cp Lt Kc K21 K22 Lm K23 K02 K32 K34 K75
section
variable {G:Gam}{T:Tb}{CE C CO CC CT:Addr}
def Oc(T:Tb)(C CO CC:Addr)(H:Hp)(x y:V)(E:XK)(P:Hp->Prop):Prop:=
 (Kn4 H x/\(bN H x=false\/∃t,x=.ref t/\H t=some (.lst []))/\(∃o,TlX H y o)/\∀H',aA H H'->E (.ref C) none H')\/
 (Kn4 H x/\bN H x=true/\(∃t c cs,x=.ref t/\H t=some (.lst (c::cs)))/\((NoT (count H x) y H/\∀H',aA H H'->E (.ref CO) none H')\/
  ((∃l,y=.ref l/\H l=some (.lst []))/\¬NoC (rowsOf H x) (count H x)/\∀H' (i j:Nat)(l dd:Addr),Gr T H H'->oZ (rowsOf H x) (count H x) i j->H' l=some (.tup ((KP.map (nQ (rowsOf H x) i j)).map V.str))->H' dd=some (xdO dd (wz (.int i) (.int j) (.ref l)))->E (.ref CC) (some dd) H')))\/
 ∃t l nf n cs ac,x=.ref t/\y=.ref l/\Tn H t nf n cs ac/\cs≠[]/\H l=some (.lst [])/\∀H',Gr T H H'->P H'
def G3(T:Tb)(C CO CC:Addr):Sp:=fun vs H Q E=>∃x y,vs=[x,y]/\Tab T H/\Oc T C CO CC H x y E fun H'=>∀v,Q v H'
def yY(h:H l=some (.lst [])):TlX H (.ref l) (some []):=⟨l,[],rfl,h,.nil,by simp,fun _ z=>nomatch z⟩
def E5{t:Addr}(d:Tn H t nf n cs ac)(ne:cs≠[]):∃t' c a,V.ref t=.ref t'/\H t'=some (.lst (c::a)):=by
 cases cs with
 |nil=>exact absurd rfl ne
 |cons c a=>exact⟨t,c,a,rfl,d.et⟩
def Oc.go{E:XK}{P:Hp->Prop}(h:Oc T C CO CC H x y E P){Q:VK}
  (q:(Kn4 H x/\bN H x=true/\¬NoC (rowsOf H x) (count H x)/\∀H' (i j:Nat)(l dd:Addr),Gr T H H'->oZ (rowsOf H x) (count H x) i j->H' l=some (.tup ((KP.map (nQ (rowsOf H x) i j)).map V.str))->H' dd=some (xdO dd (wz (.int i) (.int j) (.ref l)))->E (.ref CC) (some dd) H')\/(∃t l nf n cs ac,x=.ref t/\y=.ref l/\Tn H t nf n cs ac/\cs≠[]/\H l=some (.lst [])/\∀H',Gr T H H'->P H')->∀H',aA H H'->Q .non H'):Ba C CO [x,y] H Q E:=by
 rcases h with⟨a,e,⟨o,c⟩,r⟩ |⟨a,e,ne,⟨⟨o,c,z⟩,r⟩ |⟨⟨l,rfl,b⟩,f,r⟩⟩ |h;·exact⟨x,y,o,rfl,a,c,.inl ⟨e,r⟩⟩
 ·exact⟨x,y,o,rfl,a,c,.inr ⟨e,ne,.inl ⟨z,r⟩⟩⟩
 ·exact⟨x,_,_,rfl,a,yY b,.inr ⟨e,ne,.inr ⟨rfl,q (.inl ⟨a,e,f,r⟩)⟩⟩⟩
 ·obtain⟨t,l,nf,n,cs,ac,rfl,rfl,d,ne,b,p⟩:=id h;exact⟨_,_,_,rfl,d.tab.1,yY b,.inr ⟨d.tab.2.1,E5 d ne,.inr ⟨rfl,q (.inr h)⟩⟩⟩
def ji(k:Kn4 H x)(e:bN H x=true)(s:aA H H1):bN H1 x=true/\count H1 x=count H x:=by
 have i:bN H1 x=true:=by rw[iX k s];exact e
 refine⟨i,?_⟩;obtain⟨a,d,rfl,c,l,j,m,n⟩:=dD e;have f:cN (H1 a)=some d:=by
  cases eh:H a with
  |none=>rw[eh]at c;cases c
  |some o=>rw[s _ _ eh,<-eh];exact c
 cases d with
 |nil=>show(match cN (H1 a)with |some (y::_)=>bB H1 y|_=>0)=(match cN (H a)with |some (y::_)=>bB H y|_=>0);rw[c,f]
 |cons y d=>show(match cN (H1 a)with |some (y::_)=>bB H1 y|_=>0)=(match cN (H a)with |some (y::_)=>bB H y|_=>0);rw[c,f];obtain⟨b,r,rfl,g,h,_⟩:=jJ (j y (by simp));show bB H1 (.ref b)=bB H (.ref b);rw[Ak (s _ _ g) (s _ _ h),Ak g h]
def E3{E:XK}{Q:VK}(d:Kn4 H x)(e:bN H x=true)(m:¬NoC (rowsOf H x) (count H x))(r:∀H' (i j:Nat)(l dd:Addr),Gr T H H'->oZ (rowsOf H x) (count H x) i j->H' l=some (.tup ((KP.map (nQ (rowsOf H x) i j)).map V.str))->H' dd=some (xdO dd (wz (.int i) (.int j) (.ref l)))->E (.ref CC) (some dd) H')(s:aA H H1)(tb:Tab T H1):K32.sS C CC T [x] H1 Q E:=by obtain⟨h,b⟩:=ji d e s;have a:=(A1 e s).1;refine⟨x,rfl,d.same s,tb,fun z=>by(rw[h]at z;cases z),fun _=>⟨fun n=>absurd (by rw[a,b]at n;exact n) m,fun H' i j l dd g f c k=>?_⟩⟩;rw[a,b]at f;rw[a]at c;exact r H' i j l dd ((Gr.of s).trans g) f c k
theorem Kv{a c:Type}{P:a->c->Prop}:∀{xs:List a},(∀x∈xs,∃y,P x y)->∃ys,Paired P xs ys
 | [],_=>⟨[],.nil⟩
 |x::xs,h=>
  let⟨y,hy⟩:=h x (by simp)
  let⟨ys,hs⟩:=Kv (xs:=xs) fun z b=>h z (aD _ b)
  ⟨y::ys,.cons hy hs⟩
theorem DP{a b:Type}{P:a->b->Prop}:∀{xs:List a}{ys:List b},Paired P xs ys->∀y∈ys,∃x,P x y
 |_,_,.nil,_,h=>nomatch h
 |_,_,.cons h t,y,hy=>by
  rcases aG.mp hy with rfl|hy;·exact⟨_,h⟩
  ·exact DP t y hy
structure Tr(K:ah)(H:Hp)(nl bl:Addr)(nys bys:List V)(ns:List (List Int))(xs:List M8.Tri)(n:Nat):Prop where
 en:H nl=some (.lst nys)
 pn:Paired (NdV K H) nys ns
 ne:ns≠[]
 ln:∀v∈ns,v.length=n
 l61:ns.length<=61
 eb:H bl=some (.lst bys)
 pb:Paired (TrV K H) bys xs
 l60:xs.length<=60
 lp:∀x∈xs,x.2.2.length<=60
def tree_go{t:Addr}(d:Tn H t nf n cs ac)(ne:cs≠[])(tk:K32.TreeK (rowsOf H (.ref t)) (count H (.ref t)) H H' p):∃nl bl U D ns xs,H' p=some (.tup [.ref nl,.ref bl])/\Tr K H' nl bl U D ns xs n:=by
 have S:=d.n10;rcases tk with⟨h,_⟩ |⟨h,g⟩;·have :=d.perm.length_eq;rw[h,ai]at this;exact absurd (bA.mp this.symm) ne
 ·rw[d.count ne]at g;have hf:∀q,q<n->K32.fr (K32.rI (rowsOf H (.ref t))) q=0\/K32.fr (K32.rI (rowsOf H (.ref t))) q=1:=fun q hq=>by
   cases e:rowsOf H (.ref t)with
   |nil=>exact absurd e h
   |cons l R=>
    obtain⟨i,hi,rfl⟩:=(d.cds l).mp (d.perm.mem_iff.mp (by rw[e];exact aL));have o:=d.rd _ (d.get hi);have b:∀y∈(ac.getD i []).map V.int,bJ y=true:=fun y Q=>by obtain⟨x,r,rfl⟩:=aJ.mp Q;rcases o.2 x r with rfl|rfl<;>rfl
    exact M6.Ok.at (n:=(((ac.getD i []).map V.int).map K32.intOf).length) ⟨rfl,(K32.tw b).2⟩ q
  obtain⟨nl,bl,s,bs,f,M,_,_,_,hq,_,_,u,bk,L,J⟩:=g;have nd1:=M5.BF hf hq;have T:=M5.ME hf hq;have w:=_root_.Q.kP u;have C:bs.length=f.length:=K83.j6 bk;have Y:f.length<=n:=by
   have :=L2.rg hq.1 (m:=(aE n).map fun p=>(K32.grp (K32.rI (rowsOf H (.ref t))) p:Int)) fun q h=>by obtain⟨p,hp,rfl⟩:=hq.2 q h;exact aJ.mpr ⟨p,bp.mpr hp,rfl⟩
   rwa [ai,aY]at this
  have A:=K83.mC V.non nd1 w;have B:=K83.mC V.non T (ys:=bs) (by rw[ai];unfold M5.brK;rw[ai,C]);obtain⟨ns,j⟩:=Kv (P:=fun v k=>NdV K H' v k/\k.length=n) (xs:=_root_.Q.dJ V.non (M5.jg (K32.fr (K32.rI (rowsOf H (.ref t)))) n (K32.grp (K32.rI (rowsOf H (.ref t)))) f) s) fun v c=>by obtain⟨i,hi⟩:=bK.mp (A.mem_iff.mp c);obtain⟨k,O,a,e,N⟩:=j7 u hi;exact⟨k,⟨a,e,SqT.of N⟩,M5.yh k (aI O)⟩
  obtain⟨xs,b⟩:=Kv (P:=fun v x=>TrV K H' v x/\x.2.2.length<=60) (xs:=_root_.Q.dJ V.non ((M5.brK (K32.fr (K32.rI (rowsOf H (.ref t)))) n (K32.grp (K32.rI (rowsOf H (.ref t)))) f).map _root_.Q.lS) bs) fun v c=>by obtain⟨i,hi⟩:=bK.mp (B.mem_iff.mp c);obtain⟨q,W,a,x,y,z,e,E,F,G,I⟩:=j7 bk hi;exact⟨(_,_,_),⟨a,x,y,z,e,SqT.of E,SqT.of F,SqT.of G,SqT.of I⟩,aF (K75.plc_len _ _) S⟩
  have l1:ns.length=s.length:=by rw[<-K83.j6 j,A.length_eq]
  have l2:xs.length=bs.length:=by rw[<-K83.j6 b,B.length_eq]
  have X:s.length=f.length+1:=by rw[<-w];unfold M5.jg;rw[ba,ai]
  exact⟨nl,bl,_,_,ns,xs,M,L,Paired.rG j fun _ _ h=>h.1,(fun z=>by rw[z]at l1;simp at l1;lia),(fun v c=>let⟨_,h⟩:=DP j v c;h.2),by lia,J,Paired.rG b fun _ _ h=>h.1,by lia,fun x r=>let⟨_,h⟩:=DP b x r;h.2⟩
def AZ{t:Addr}{Q:VK}{E:XK}(d:Tn H t nf n cs ac)(ne:cs≠[])(tb:Tab T H)(q:∀H2 p nl bl b a ns xs,Gr T H H2->H2 p=some (.tup [.ref nl,.ref bl])->Tr K H2 nl bl b a ns xs n->Q (.ref p) H2):K32.sS C CC T [.ref t] H Q E:=by
 refine⟨_,rfl,d.tab.1,tb,fun z=>by(rw[d.tab.2.1]at z;cases z),fun _=>⟨fun _ H2 p g _ tk=>?_,fun h i j l k g f m o=>?_⟩⟩;·obtain⟨nl,bl,b,a,ns,xs,c,e⟩:=tree_go d ne tk;exact q H2 p nl bl b a ns xs g c e
 ·have :=d.noc i j f.ij f.jn;rw[f.four]at this;cases this
def CW(a:List (List Int)):a.filter (rdT [])=a:=M2.mpr fun _ _=>rfl
def E4{bl:Addr}{d e:List V}{c:List (List Int)}{xs:List M8.Tri}{Q:VK}{E:XK}(a:Tr K H nl bl d e c xs n)(g:n<=60)(f:H l=some (.lst []))(q:∀H' b ws,aA H H'->H' b=some (.lst ws)->Paired (NdV K H') ws c->Q (.ref b) H'):JI K [.ref nl,.ref l] H Q E:=
 ⟨nl,l,n,d,[],c,[],rfl,SqL.of a.en,a.pn,a.ln,a.l61,g,⟨f,.nil⟩,⟨fun _ z=>(cu z).elim,jd⟩,by rw[CW];exact a.ne,fun H' b ws s _ h p=>by rw[CW]at p;exact q H' b ws s h p⟩
def wp_stA(g:G.fn "need_tellings" 2=some (Ba C CO,[]))(c:G.fn "tree" 1=some (K32.sS C CC T,[]))(f:G.fn "told_nodes" 2=some (JI K,[])):
  Sat G K (G3 T C CO CC) CD BK:=by
 rintro L H Q E ⟨x,y,rfl,tb,h⟩;unfold CD;change wpB G K _ _ _ [some x,some y] H;ext;refine⟨_,_,g,h.go fun h s a=>?_⟩;have b:=(Gr.of (T:=T) a).tab tb;unfold wQ;ext;rcases h with⟨i,e,k,r⟩ |⟨t,l,B,n,z,J,rfl,rfl,d,ne,j,p⟩;·exact⟨_,_,f,_,_,c,E3 i e k r a b⟩
 ·exact⟨_,_,f,_,_,c,AZ (K:=K) (d.same a) ne b fun u q D bl I w F N gr hp o=>.inr (.inl ⟨q,_,0,_,rfl,rfl,SqT.of hp,rfl,E4 o d.n10 (gr.lst b (a _ _ j)) fun v A M m _ _=>p _ ((Gr.of a).trans (gr.trans (Gr.of m))) _⟩)⟩
def wp_frA(R:G.fn "need_tellings" 2=some (Ba C CO,[]))(B:G.fn "tree" 1=some (K32.sS C CC T,[]))(S:G.fn "told_nodes" 2=some (JI K,[]))(U:G.fn "unknown_places" 3=some (spUp K,[])):
  Sat G K (G3 T C CO CC) sj rD:=by
 rintro vs H a7 a6 ⟨x,y,rfl,tb,h⟩;unfold sj;change wpB G K _ _ _ [some x,some y,none,none,none] H;ext;refine⟨_,_,R,h.go fun h H1 i=>?_⟩;have v:=(Gr.of (T:=T) i).tab tb;unfold oV;ext;rcases h with⟨hk,e,nc,r⟩ |⟨t,a3,nf,a4,cs,b3,rfl,rfl,d,ne,hl,q⟩;·exact⟨_,_,B,E3 hk e nc r i v⟩
 ·have a5:=d.n10;refine⟨_,_,B,AZ (K:=K) (d.same i) ne v fun H2 p nl bl b2 P I L gr hp g=>?_⟩;have E:=gr.lst v (i _ _ hl);unfold oU;ext;refine⟨_,_,S,.inr (.inl ⟨p,_,0,_,rfl,rfl,SqT.of hp,rfl,E4 g a5 E fun H3 l1 z a m s=>?_⟩)⟩;unfold oS;ext;refine⟨_,_,U,.inr (.inl ⟨p,_,1,_,rfl,rfl,SqT.of (a _ _ hp),rfl,bl,l1,a3,P,z,[],L,I,[],rfl,SqL.of (a _ _ g.eb),(Paired.rG g.pb fun _ _ ⟨c,p,q,r,e,m,X,Y,n⟩=>⟨c,p,q,r,e,a.tup m,a.tup X,a.tup Y,a.tup n⟩),g.l60,g.lp,SqL.of m,s,⟨a _ _ E,.nil⟩,by simp,fun N f o _ n=>?_⟩)⟩;generalize L.flatMap (unB I [])=us at n;have V:Gr T H N:=(Gr.of (T:=T) i).trans (gr.trans (Gr.of (a.trans o)));have W:=o _ _ m;have J:0<z.length:=by rw[K83.j6 s];exact iu.mpr g.ne
  obtain⟨v1,a2,O,Q,D⟩:=j7 s (ae J);have lv:v1.length=a4:=g.ln _ (aI a2);unfold oR;ext;refine dF ?_;simp only[Eo];ext;refine .inl ⟨l1,_,0,_,rfl,rfl,SqL.of W,(cC (j:=0) (by rw[ae J,Q]):atI z ((0:Nat):Int)=_),?_⟩;refine⟨O,rfl,⟨_,o.tup D⟩,?_⟩;refine d7 x9 (eU (by rw[ai];lia)) (fun A l=>l.tup (o.tup D)) (fun _ _ _=>True) (fun _ _ _ _ _ h=>h) (fun M=>∃u w,M=[u,w,some (.ref f)]) ⟨none,none,rfl⟩ ?_ ?_
  ·rintro b1 x M A a8 hi ⟨u,w,rfl⟩ l ⟨c,y,rfl,Z,F⟩ k;rw[ai]at hi;rw[gW hi]at F;cases F;refine⟨c,_,rfl,SqT.of Z,rfl,_,_,rfl,_,_,rfl,rfl,?_⟩;ext;refine .inr ⟨f,_,rfl,.inl (SqL.of (l _ _ n)),rfl,tE _,_,rfl,?_⟩;rw[if_neg ao];generalize inV _ _=b;cases b;·rw[if_neg ao];exact k _ _ _ ⟨_,_,rfl⟩ (aA.refl _) trivial
   ·rw[if_pos rfl];exact k _ _ _ ⟨_,_,rfl⟩ (aA.refl _) trivial
  ·intro us A l5 a9 hF l a0;exact⟨l5,_,rfl,.inl ⟨SqL.of aq,fun p5 a1=>q _ (V.trans (Gr.of ((l.trans (au a0)).trans (au a1)))) _⟩⟩
structure Xg(G:Gam)(CE C CO CC CT:Addr):Prop where
 v0:G.val "KinError"=some (.ref CE)
 v1:G.val "NoTable"=some (.ref C)
 v2:G.val "NoTelling"=some (.ref CO)
 v3:G.val "Clash"=some (.ref CC)
 v4:G.val "Torn"=some (.ref CT)
structure Rg(K:ah)(CE C CO CC CT Ci:Addr)(b1 b2 b3:Bool):Prop where
 o:mX K Ci=true
 m:PySem.W.exmOne K (.ref Ci) (.ref CE)=some true
 kv:cE K (.ref Ci) (.type "ValueError")=some true
 k1:cE K (.ref Ci) (.ref C)=some b1
 k2:cE K (.ref Ci) (.ref CO)=some b2
 k3:cE K (.ref Ci) (.ref CC)=some b3
 k4:cE K (.ref Ci) (.ref CT)=some false
def Gq(X:Xg G CE C CO CC CT){n o r:Bool}(F:Rg K CE C CO CC CT Ci n o r){D:Ends}{a b c e f:Option V}(g:Dk H' d)
  (q:∀i x l,aA H' i->H' l=none->i x=some (pS x (.ref Ci) d)->i l=some (.lst ([true,n,o,r,false].map V.bl))->wpB G K N0 su3 (D.drop 4) [a,b,c,some (.ref l),some (.ref x)] i):
  ll K CE 4 (wpB G K N0 su1) D [a,b,c,e,f] (.ref Ci) d H':=by
 refine⟨rfl,F.m,fun x w=>?_⟩;generalize hX:upd H' x _=H1;obtain⟨m,h⟩:=eF hX w;clear hX;have g:=g.same m;unfold su1;ext;refine isxV h g F.o F.kv ⟨_,X.v1,HM h g F.o F.k1 ⟨_,X.v2,HM h g F.o F.k2 ⟨short (by simp),fun l u=>?_⟩⟩⟩;generalize hX:upd H1 l _=H2;obtain⟨j,s⟩:=eF hX u;clear hX;have h:=j _ _ h;have g:=g.same j;refine⟨_,X.v3,HM h g F.o F.k3 ⟨_,X.v4,HM h g F.o F.k4 ⟨short (by simp),fun l2 v=>?_⟩⟩⟩;generalize hX:upd H2 l2 _=H3;obtain⟨k,t⟩:=eF hX v;clear hX;refine .inr (.inr (.inl ⟨l,l2,_,_,rfl,rfl,k _ _ s,t,short (by simp),fun p hp=>?_⟩));exact q _ x p (m.trans (j.trans (k.trans (au hp)))) ((m.trans (j.trans k)).free hp) (au hp _ _ (k _ _ h)) aq
def Cs(X:Xg G CE C CO CC CT){h i:Bool}(F:Rg K CE C CO CC CT Ci h i false){D:Ends}{E:XS}{Q:VK}(n:D.rt=Q){a b c e f:Option V}
  (q:∀d l,aA H' d->d l=some (.lst ([true,h,i,false,false].map V.bl))->Q (.ref l) d):
  ll K CE 4 (wpB G K N0 su1) {nx:=wpB G K E da D,rt:=D.rt,bk:=D.bk,ct:=D.ct} [a,b,c,e,f] (.ref Ci) none H':=by
 have j:∀{H:Hp},Dk H none:=fun p e=>by cases e
 refine Gq X F j fun g x l o _ m k=>?_;unfold su3;ext;refine⟨_,X.v3,HM m j F.o F.k3 ⟨_,rfl,?_⟩⟩;rw[if_neg ao];change wpB G K E da D [a,b,c,some (.ref l),none] g;unfold da;ext;rw[n];exact q g l o k
def My(X:Xg G CE C CO CC CT)(F:Rg K CE C CO CC CT CC false false true)(A:ke K CC "one"=true)(B:ke K CC "other"=true)(I:ke K CC "names"=true){D:Ends}{E:XS}{Q:VK}(L:D.rt=Q){z:V}{a b c e f:Option V}(d:H' dd=some (xdO dd (wz x y z)))
  (q:∀h l p,aA H' h->h l=some (.lst ([true,false,false,true,false].map V.bl++[.ref p]))->h p=some (.tup [x,y,z])->Q (.ref l) h):
  ll K CE 4 (wpB G K N0 su1) {nx:=wpB G K E da D,rt:=D.rt,bk:=D.bk,ct:=D.ct} [a,b,c,e,f] (.ref CC) (some dd) H':=by
 have r:∀{H:Hp},aA H' H->Dk H (some dd):=fun s M e=>by cases e;exact⟨_,s _ _ d⟩
 refine Gq X F (r (aA.refl _)) fun v w l k J i g=>?_;have d:=k _ _ d;unfold su3;ext;refine⟨_,X.v3,HM i (r k) F.o F.k3 ⟨_,rfl,?_⟩⟩;rw[if_pos rfl];refine⟨.inl ⟨rfl,_,SqL.of g⟩,?_⟩;refine⟨w,CC,dd,_,x,rfl,i,d,A,rfl,?_⟩;refine⟨w,CC,dd,_,y,rfl,i,d,B,lk2,?_⟩;refine⟨w,CC,dd,_,z,rfl,i,d,I,lk3,⟨short (by simp),fun p hp=>?_⟩⟩;generalize hX:upd v p _=H3;obtain⟨t,j⟩:=eF hX hp;clear hX;have g:=t _ _ g;refine⟨l,_,_,rfl,rfl,g,iT (show 5<=40 by decide) (by decide),?_⟩;have u:=dj (o:=.lst ([true,false,false,true,false].map V.bl++[.ref p])) (k.trans t) J;have m:upd H3 l (.lst ([true,false,false,true,false].map V.bl++[.ref p])) l=some (.lst ([true,false,false,true,false].map V.bl++[.ref p])):=aq;have n:upd H3 l (.lst ([true,false,false,true,false].map V.bl++[.ref p])) p=some (.tup [x,y,z]):=by rw[aW (fun e=>by rw[e,g]at j;cases j)];exact j
 change wpB G K E da D [a,b,c,some (.ref l),none] (upd H3 l (.lst ([true,false,false,true,false].map V.bl++[.ref p])));generalize upd H3 l (.lst ([true,false,false,true,false].map V.bl++[.ref p]))=H4 at u m n⊢;unfold da;ext;rw[L];exact q H4 l p u m n
def Tru(T:Tb)(H:Hp)(x y:V)(Q:VK):Prop:=
 (Kn4 H x/\(bN H x=false\/∃t,x=.ref t/\H t=some (.lst []))/\(∃o,TlX H y o)/\∀H' l,aA H H'->H' l=some (.lst ([true,true,false,false,false].map V.bl))->Q (.ref l) H')\/
 (Kn4 H x/\bN H x=true/\(∃t c cs,x=.ref t/\H t=some (.lst (c::cs)))/\((NoT (count H x) y H/\∀H' l,aA H H'->H' l=some (.lst ([true,false,true,false,false].map V.bl))->Q (.ref l) H')\/
  ((∃l,y=.ref l/\H l=some (.lst []))/\∃(i j:Nat),oZ (rowsOf H x) (count H x) i j/\∀H' l p r,Gr T H H'->H' l=some (.lst ([true,false,false,true,false].map V.bl++[.ref p]))->H' p=some (.tup [.int i,.int j,.ref r])->H' r=some (.tup ((KP.map (nQ (rowsOf H x) i j)).map V.str))->Q (.ref l) H')))\/
 ∃t l nf n cs ac,x=.ref t/\y=.ref l/\Tn H t nf n cs ac/\cs≠[]/\H l=some (.lst [])/\∀H' l,Gr T H H'->H' l=some (.lst [])->Q (.ref l) H'
def JH(T:Tb):Sp:=fun vs H Q _=>∃(w:Int)(x y:V),vs=[.int w,x,y]/\Tab T H/\Tru T H x y Q
def wp_trA(X:Xg G CE C CO CC CT)(R:Rg K CE C CO CC CT C true false false)(S:Rg K CE C CO CC CT CO false true false)(U:Rg K CE C CO CC CT CC false false true)(Y:ke K CC "one"=true)(Z:ke K CC "other"=true)(f3:ke K CC "names"=true)
  (g1:G.fn "stands" 2=some (G3 T C CO CC,[]))(g2:G.fn "first_read" 2=some (G3 T C CO CC,[])):
  Sat G K (JH T) rV rp:=by
 rintro vs H Q E ⟨w,x,y,rfl,tb,h⟩;unfold rV;change wpB G K _ _ _ [some (.int w),some x,some y,none,none] H;ext;refine⟨short (by simp),fun l hl=>?_⟩;generalize hX:upd H l _=H1;obtain⟨a,W⟩:=eF hX hl;clear hX;have I:=(Gr.of (T:=T) a).tab tb;have P:∀{D:Ends},D.rt=Q->Oc T C CO CC H1 x y (ll K CE 4 (wpB G K N0 su1) {nx:=wpB G K (fun _=>E) da D,rt:=D.rt,bk:=D.bk,ct:=D.ct} [some (.int w),some x,some y,some (.ref l),none]) (fun b=>∀_:V,wpB G K (fun _=>E) da D [some (.int w),some x,some y,some (.ref l),none] b):=fun{D} p=>by
  rcases h with⟨f,e,⟨o,A⟩,q⟩ |⟨f,e,⟨t,c,j,rfl,N⟩,⟨⟨o,A,z⟩,q⟩ |⟨⟨B,rfl,v⟩,a1,a2,m,q⟩⟩ |⟨t,B,nf,a4,j,a6,rfl,rfl,d,ne,v,q⟩;·refine .inl ⟨f.same a,e.imp (fun e=>by rw[iX f a];exact e) (fun⟨t,e,h⟩=>⟨t,e,a _ _ h⟩),⟨o,A.same a⟩,fun b F=>Cs X R p fun J i g u=>q _ i (a.trans (F.trans g)) u⟩
  ·obtain⟨r,k⟩:=ji f e a;exact .inr (.inl ⟨f.same a,r,⟨t,c,j,rfl,a _ _ N⟩,.inl ⟨⟨o,A.same a,by rw[k];exact z⟩,fun b F=>Cs X S p fun J i g u=>q _ i (a.trans (F.trans g)) u⟩⟩)
  ·obtain⟨r,k⟩:=ji f e a;have s:=(A1 e a).1;refine .inr (.inl ⟨f.same a,r,⟨t,c,j,rfl,a _ _ N⟩,.inr ⟨⟨B,rfl,a _ _ v⟩,fun O=>?_,fun b i' j' i dd n L M h2=>?_⟩⟩);·rw[s,k]at O;have :=O a1 a2 m.ij m.jn;rw[m.four]at this;cases this
   ·rw[s,k]at L;obtain⟨rfl,rfl⟩:=m.one L;rw[s]at M;exact My X U Y Z f3 p h2 fun J a3 a5 g a0 hp=>q _ a3 a5 i ((Gr.of a).trans (n.trans (Gr.of g))) a0 hp (g _ _ M)
  ·refine .inr (.inr ⟨t,B,nf,a4,j,a6,rfl,rfl,d.same a,ne,a _ _ v,fun b n _=>?_⟩);unfold da;ext;rw[p];exact q _ l ((Gr.of a).trans n) (n.lst I W)
 unfold oj;ext;refine⟨CE,X.v0,?_⟩;by_cases c:w=0;·rw[if_pos (decide_eq_true c)];exact⟨_,_,g1,x,y,rfl,I,P (D:={nx:=fun _ b=>Q .non b,rt:=Q}) rfl⟩
 ·rw[if_neg (fun z=>c (of_decide_eq_true z))];exact⟨_,_,g2,x,y,rfl,I,P (D:={nx:=fun _ b=>Q .non b,rt:=Q}) rfl⟩
end
end K63
namespace K63
open PySem R
abbrev vK:List Str:=["_law_table","_law_drawn"]
abbrev nS:List Str:=["_law_table","_law_drawn","_law_name_here","_law_readings","_law_some"]
abbrev lY:CB:=
  (.cons (.ret (.idx (.var 4) (.bin .Mod (.var 1) (.con (.int 9)))))
  .nil)
abbrev lZ:CB:=
  (.cons (.asg (.name 4) (.bin .Add (.var 4) (.lst (.cons (.bin .Add (.var 0) (.lst (.cons (.tup (.cons (.con (.str "zz")) (.cons (.bin .Add (.var 3) (.tup (.cons (.con (.int 0)) .nil))) .nil))) .nil))) (.cons (.lst (.cons (.tup (.cons (.var 2) (.cons (.bin .Add (.var 3) (.tup (.cons (.con (.int 2)) .nil))) .nil))) .nil)) (.cons (.lst (.cons (.tup (.cons (.var 2) .nil)) .nil)) .nil))))))
  lY)
abbrev l6:CB:=
  (.cons (.asg (.name 4) (.lst (.cons (.con .none) (.cons (.bfn .tuple (.cons (.var 0) .nil)) (.cons (.bin .Add (.var 0) (.cut (.var 0) .no (.yes (.con (.int 1))))) (.cons (.lst (.cons (.tup (.cons (.bin .Add (.con (.str "A")) (.cut (.var 2) (.yes (.con (.int 1))) .no)) (.cons (.var 3) .nil))) .nil)) (.cons (.lst (.cons (.tup (.cons (.var 2) (.cons (.bfn .list (.cons (.var 3) .nil)) .nil))) .nil)) (.cons (.dic .nil) .nil))))))))
  lZ)
abbrev oA:CB:=
  (.cons (.asg (.tup (.cons (.name 2) (.cons (.name 3) .nil))) (.idx (.var 0) (.con (.int 0))))
  l6)
end K63
namespace K63
open PySem PySem.Spec PyProof.Rows L2 R Cp Lt Kc K21 K22 Lm K23 K02 K32 K34 K75
def Re(K:ah)(v:V)(H:Hp):Prop:=∃d,Rep K H d v/\hgt d<=4
def E7:eH (Re K):=fun _ _ _ s ⟨d,h,l⟩=>⟨d,Rep.same s h,l⟩
def Li(H:Hp)(x:V)(xs:List V):Prop:=(xs=[]/\(x=.non\/∃a,x=.ref a/\(H a=some (.dK [])\/H a=some (.tup [])\/H a=some (.lst []))))\/∃a,x=.ref a/\xs≠[]/\(H a=some (.lst xs)\/H a=some (.tup xs))
def Li.same(h:Li H x xs)(s:aA H H'):Li H' x xs:=
 h.imp (fun⟨e,h⟩=>⟨e,h.imp id fun⟨a,e,h⟩=>⟨a,e,h.imp (s _ _) (Or.imp (s _ _) (s _ _))⟩⟩) fun⟨a,e,n,h⟩=>⟨a,e,n,h.imp (s _ _) (s _ _)⟩
def qt(h:H a=some (.lst xs)):Li H (.ref a) xs:=by
 by_cases c:xs=[];·exact .inl ⟨c,.inr ⟨a,rfl,.inr (.inr (by rw[h,c]))⟩⟩
 ·exact .inr ⟨a,rfl,c,.inl h⟩
def Od(K:ah)(x:V)(H:Hp):Prop:=∃xs,Li H x xs/\xs.length<=50/\∀v∈xs,Re K v H
def E8:eH (Od K):=fun _ _ _ s ⟨b,h,l,r⟩=>⟨b,h.same s,l,fun v a=>E7 _ _ _ s (r v a)⟩
def BO(K:ah)(x:V)(H:Hp):Prop:=Bad x H/\Od K x H
def stay_bo:eH (BO K):=fun _ _ _ s ⟨a,b⟩=>⟨JG _ _ _ s a,E8 _ _ _ s b⟩
abbrev dV:V->L2.D
 |.bl b=>.bl b
 |.int i=>.int i
 |.str z=>.str z
 |_=>.non
def zr(h:Atm v):Rep K H (dV v) v/\hgt (dV v)=0:=by rcases h with rfl|⟨b,rfl⟩ |⟨i,rfl⟩ |⟨z,rfl⟩<;>exact⟨rfl,rfl⟩
theorem nO:∀{xs:List V},(∀v∈xs,∃d,Rep K H d v/\hgt d<=m)->∃ds,d8 K H ds xs/\gh ds<=m
 | [],_=>⟨[],rfl,aM _⟩
 |x::xs,h=>by obtain⟨d,a,b⟩:=h x (by simp);obtain⟨ds,c,e⟩:=nO (xs:=xs) fun v f=>h v (aD _ f);exact⟨d::ds,⟨x,xs,rfl,a,c⟩,Nat.max_le.mpr ⟨b,e⟩⟩
def Kb(h:H a=some (.tup xs))(r:∀v∈xs,∃d,Rep K H d v/\hgt d<=3):Re K (.ref a) H:=
 let⟨ds,h1,h2⟩:=nO r
 ⟨.tup ds,⟨a,xs,rfl,SqT.of h,h1⟩,Nat.succ_le_succ h2⟩
def zu(h:H a=some (.tup xs)\/H a=some (.lst xs))(r:∀v∈xs,Atm v):∃d,Rep K H d (.ref a)/\hgt d<=3:=by
 obtain⟨b,c,f⟩:=nO (K:=K) (H:=H) (m:=0) fun v e=>⟨dV v,(zr (r v e)).1,xl (zr (K:=K) (H:=H) (r v e)).2⟩;rcases h with h|h;·exact⟨.tup b,⟨a,xs,rfl,SqT.of h,c⟩,by show gh b+1<=3;lia⟩
 ·exact⟨.lst b,⟨a,xs,rfl,SqL.of h,c⟩,by show gh b+1<=3;lia⟩
def uV(h:H a=some (.tup [.str z,.ref r]))(b:H r=some (.tup rs)\/H r=some (.lst rs))(o:∀v∈rs,Atm v):Re K (.ref a) H:=Kb h fun v hv=>by
 rcases aG.mp hv with rfl|hv;·exact⟨.str z,rfl,aM _⟩
 ·rw[aS.mp hv];exact zu b o
def TlX.od{o:Option (List Th)}(h:TlX H y o):Od K y H:=by
 cases o with
 |none=>refine⟨[],.inl ⟨rfl,h.imp id fun⟨a,e,h⟩=>⟨a,e,h.imp id .inl⟩⟩,aM _,fun _ z=>nomatch z⟩
 |some ts=>
  obtain⟨l,g,rfl,j,f,n,ok⟩:=h;have zl:g.length=ts.length:=K83.j6 f;refine⟨g,qt j,by lia,fun v m=>?_⟩;obtain⟨i,hi⟩:=bK.mp m;obtain⟨t,k,c⟩:=j7 f hi;have o:=ok t (aI k);cases t with
  |«at» w=>rw[show v=w from c];exact⟨dV w,(zr o).1,by rw[(zr (K:=K) (H:=H) o).2];exact aM _⟩
  |tp vs=>obtain⟨a,rfl,b⟩:=c;exact let⟨d,h1,h2⟩:=zu (.inl b) o;⟨d,h1,by lia⟩
  |ls vs=>obtain⟨a,rfl,b⟩:=c;exact let⟨d,h1,h2⟩:=zu (.inr b) o;⟨d,h1,by lia⟩
def mj(a:List Int):∀v∈a.map V.int,Atm v:=fun v b=>let⟨i,_,e⟩:=aJ.mp b;by rw[<-e];exact fm
def Jq{t:Addr}(d:Tn H t nf n ys ac):∀y∈ys,Kn3 H y:=(d.tab.1.2 t ys rfl (by rw[d.et];rfl)).2
def A0{t:Addr}(d:Tn H t nf n ys ac):∀y∈ys,Re K y H:=fun y e=>by obtain⟨i,hi⟩:=bK.mp e;obtain⟨b,r,rfl,a,c⟩:=d.row i y hi;exact uV a (.inl c) (mj _)
section
variable {G:Gam}{E:XS}{dl t r b:Addr}{z:Str}{nf:Nat->Str}
structure Cz(σ:L2.St)(H:Hp)(dl t r b:Addr)(nf:Nat->Str)(n:Nat)(ys:List V)(ac:List (List Int))(gs:List Int)(z:Str):Prop where
 s0:σ[0]? =some (some (.ref t))
 s2:σ[2]? =some (some (.str z))
 s3:σ[3]? =some (some (.ref r))
 hd:∃bs,H dl=some (.lst (.bl true::bs))
 d:Tn (del H dl) t nf n ys ac
 hy:.ref b∈ys
 hb:del H dl b=some (.tup [.str z,.ref r])
 hr:del H dl r=some (.tup (gs.map V.int))
 gl:gs.length=n
 nz:eO z=true
theorem Cz.same(X:Cz σ H dl t r b nf n ys ac gs z)(s:aA H H'):Cz σ H' dl t r b nf n ys ac gs z:={X with hd:=let⟨bs,e⟩:=X.hd;⟨bs,s _ _ e⟩,d:=X.d.same (nN s),hb:=nN s _ _ X.hb,hr:=nN s _ _ X.hr}
def Cz.zl(X:Cz σ H dl t r b nf n ys ac gs z):1<=z.length/\z.length<=8:=by have :=X.nz;unfold eO at this;rw[az,decide_eq_true_eq]at this;exact this.1
def Cz.tp(X:Cz σ H dl t r b nf n ys ac gs z)(s:aA H H'){vs:List V}(h:H' p=some (.tup vs)):del H' dl p=some (.tup vs):=let⟨_,e⟩:=X.hd;vw_t (s _ _ e) h
def Cz.ls(X:Cz σ H dl t r b nf n ys ac gs z)(s:aA H H'){vs:List V}(h:H' p=some (.lst vs))(n:∀r,vs≠.bl true::r):del H' dl p=some (.lst vs):=let⟨_,e⟩:=X.hd;Jh (s _ _ e) h n
def Cz.nb(X:Cz σ H dl t r b nf n ys ac gs z){us:List V}:∀r,ys++us≠.bl true::r:=fun r e=>by
 obtain⟨y,d,rfl⟩:∃y r,ys=y::r:=by
  have c:=X.hy;cases ys with
  |nil=>cases c
  |cons y r=>exact⟨y,r,rfl⟩
 obtain⟨_,_,a,_⟩:=X.d.row 0 y rfl;rw[nC,a]at e;cases e
noncomputable abbrev BW(K:ah)(dl:Addr)(x:V)(H:Hp):Prop:=BO K x (del H dl)
def mz_non:Mk G K E σ H (.con .none) (BW K dl):=bZ.imp fun v a _ e=>by rw[show v=_ from e];exact⟨MG trivial,[],.inl ⟨rfl,.inl rfl⟩,aM _,fun _ z=>nomatch z⟩
def mz_dic(X:Cz σ H dl t r b nf n ys ac gs z):Mk G K E σ H (.dic .nil) (BW K dl):=fun a s Q q=>.inl ⟨rfl,fun p hp=>by
 have e:del (upd a p (.dK [])) dl p=some (.dK []):=by rw[fG (fun z=>by obtain⟨_,e⟩:=X.hd;rw[z,s _ _ e]at hp;cases hp)];exact aq
 exact q _ _ (au hp) ⟨bad_dic e,[],.inl ⟨rfl,.inr ⟨p,rfl,.inl e⟩⟩,aM _,fun _ z=>nomatch z⟩⟩
def mz_tup(X:Cz σ H dl t r b nf n ys ac gs z):Mk G K E σ H (.bfn .tuple (.cons (.var 0) .nil)) (BW K dl):=fun c s Q q=>
 ⟨_,X.s0,t,ys,rfl,.inl ⟨SqL.of (s _ _ (j8 _ _ X.d.et)),fun l a=>by have e:=X.tp (s.trans (au (o:=.tup ys) a)) aq;exact q _ _ (au a) ⟨bad_tup e,ys,.inr ⟨l,rfl,(fun e=>by have :=X.hy;rw[e]at this;cases this),.inr e⟩,aF X.d.len (by decide),A0 (X.d.same (nN (s.trans (au a))))⟩⟩⟩
def mz_dup(X:Cz σ H dl t r b nf n ys ac gs z):Mk G K E σ H (.bin .Add (.var 0) (.cut (.var 0) .no (.yes (.con (.int 1))))) (BW K dl):=fun k s Q q=>by
 have g:=X.same s;have e:=X.d.len;ext;refine⟨_,X.s0,_,X.s0,.inl ⟨t,ys,rfl,SqL.of (j8 _ _ g.d.et),fun p hp=>?_⟩⟩;generalize hX:upd k p _=H1;obtain⟨j,h⟩:=eF hX hp;clear hX;have c:=g.same j;have u:=X.hy;have nb:=X.nb (us:=lq ys none (some 1));obtain⟨y,f,rfl⟩:∃y r,ys=y::r:=by
  cases ys with
  |nil=>cases u
  |cons y r=>exact⟨y,r,rfl⟩
 have m:lq (y::f) none (some 1)=[y]:=by simp[lq,HT.sIx]
 rw[m]at h nb;refine .inr (.inr (.inl ⟨t,p,_,_,rfl,rfl,j8 _ _ c.d.et,h,aF (by simp at e⊢;lia:_<=41) (by decide),fun l d=>?_⟩));have a:=c.same (au (o:=.lst (y::f++[y])) d);have i:=c.ls (au (o:=.lst (y::f++[y])) d) aq nb;refine q _ _ (j.trans (au d)) ⟨Au i (by simp at e⊢;lia) (fun v hv=>?_) fun _ _ nd _=>?_,_,qt i,by simp at e⊢;lia,fun v hv=>?_⟩
 ·rcases cV.mp hv with hv|hv;·exact Jq a.d v hv
  ·rw[aS.mp hv];exact Jq a.d y (by simp)
 ·rw[cH,gB]at nd;exact nd.2.2 _ (aJ.mpr ⟨y,by simp,rfl⟩) _ (aJ.mpr ⟨y,by simp,rfl⟩) rfl
 ·rcases cV.mp hv with hv|hv;·exact A0 a.d v hv
  ·rw[aS.mp hv];exact A0 a.d y (by simp)
def NcR(K:ah)(v:V)(H:Hp):Prop:=(∃p,v=.ref p)/\NoC v H/\Re K v H
def A8:eH (NcR K):=fun _ _ _ s ⟨r,a,b⟩=>⟨r,JF _ _ _ s a,E7 _ _ _ s b⟩
def zR(X:Cz σ H dl t r b nf n ys ac gs z){e:CE}(h:Mk G K E σ H e (fun v H=>NcR K v (del H dl))):Mk G K E σ H (.lst (.cons e .nil)) (BW K dl):=(mH (rF h (di A8)) (nI (di A8)) len_one).imp fun v k s ⟨p,l,c,a,x,d,⟨q,i⟩,f,g⟩=>by subst c d i;have a:=X.ls s a (fun r e=>by cases e);exact⟨bad_one ⟨p,_,rfl,a,_,rfl,f⟩,[.ref q],qt a,by simp,fun v j=>by rw[aS.mp j];exact g⟩
def D5(X:Cz σ H dl t r b nf n ys ac gs z){a e:CE}{Ra Rb:V->Hp->Prop}(c:eH Ra)(d:eH Rb)(l:Mk G K E σ H a Ra)(m:Mk G K E σ H e Rb)(k:∀p v w H',aA H H'->Ra v H'->Rb w H'->del H' dl p=some (.tup [v,w])->NoC (.ref p) (del H' dl)/\Re K (.ref p) (del H' dl)):Mk G K E σ H (.tup (.cons a (.cons e .nil))) (fun v H=>NcR K v (del H dl)):=
 (tf (ph l c m d) (jY c d) pk).imp fun v H' s ⟨p,o,f,g,x,y,h,i,j⟩=>by subst f h;exact⟨⟨p,rfl⟩,k p x y H' s i j (X.tp s g)⟩
def FL{j:Int}(X:Cz σ H dl t r b nf n ys ac gs z):Mk G K E σ H (.bin .Add (.var 3) (.tup (.cons (.con (.int j)) .nil))) (Tup fun vs _=>vs=(gs++[j]).map V.int):=fun d s Q q=>by
 refine⟨.ref r,X.s3,by show 1<=sizeLine;decide,fun p hp=>?_⟩;have a:=au (o:=.tup [V.int j]) hp _ _ (s _ _ (j8 _ _ X.hr));have gl:=X.gl;have e:=X.d.n10;by_cases hy:gs=[];·rw[hy]at a q;exact .inr (.inr (.inr (.inr ⟨r,p,_,rfl,rfl,SqT.of a,SqT.of aq,q _ _ (au hp) ⟨p,_,rfl,aq,rfl⟩⟩)))
 ·exact .inr (.inr (.inr (.inl ⟨r,p,_,_,rfl,rfl,SqT.of a,SqT.of aq,(fun z=>hy (List.map_eq_nil_iff.mp z)),aF (by simp;lia:_<=61) (by decide),fun z=>(nomatch z),fun _ l c=>q _ _ ((au hp).trans (au c)) ⟨l,_,rfl,aq,by rw[cH];rfl⟩⟩)))
def wg(h:H r=some (.tup (gs.map V.int)))(l:gs.length<=61):Kn2 H (.ref r):=kn2_rds h (by rw[ai];exact l) fun y a=>let⟨i,_,e⟩:=aJ.mp a;⟨i,e.symm⟩
def zQ{w:Str}(hp:H p=some (.tup [.str w,.ref a]))(f:w.length<=9)(k:Kn2 H (.ref a))(d:eO w=false\/bT H (.ref a)=false)(c:H a=some (.tup rs)\/H a=some (.lst rs))(o:∀v∈rs,Atm v):NoC (.ref p) H/\Re K (.ref p) H:=by
 refine⟨FG hp (by simp) (fun y hy=>?_) (fun a b e=>by cases e;exact d),uV hp c o⟩;rcases aG.mp hy with rfl|hy;·exact wj (by show _<=_;lia)
 ·rw[aS.mp hy];exact k
def mz_A(X:Cz σ H dl t r b nf n ys ac gs z):Mk G K E σ H (.lst (.cons (.tup (.cons (.bin .Add (.con (.str "A")) (.cut (.var 2) (.yes (.con (.int 1))) .no)) (.cons (.var 3) .nil))) .nil)) (BW K dl):=by
 have zl:=X.zl;refine zR X (D5 X (Ra:=fun v _=>∃w:Str,v=.str w/\w.length<=9/\eO w=false) (Rb:=Is (.ref r)) (fun _ _ _ _ h=>h) iH (fun a s Q q=>?_) (vX X.s3) fun p v w a s ⟨y,c,d,e⟩ f hp=>?_)
 ·ext;have g:=Cn z (some 1) none;have l1:(aP "A").length=1:=by decide+kernel
  refine⟨_,X.s2,cut_s.mpr ⟨short (by lia),MJ.mpr ⟨short (by lia),q _ _ (aA.refl _) ⟨_,rfl,by rw[mJ];lia,?_⟩⟩⟩⟩;unfold eO;rw[IS];refine .inr ?_;show List.all (((aP "A").cps++(pL z (some 1) none).cps).toList) lg=false;rw[Array.toList_append,List.all_append,show(aP "A").cps.toList=[65] by decide+kernel];rfl
 ·subst c;rw[show w=_ from f]at hp;exact zQ hp d (wg (X.same s).hr (by have :=X.gl;have :=X.d.n10;lia)) (.inl e) (.inl (X.same s).hr) (mj _)
def mz_list(X:Cz σ H dl t r b nf n ys ac gs z):Mk G K E σ H (.lst (.cons (.tup (.cons (.var 2) (.cons (.bfn .list (.cons (.var 3) .nil)) .nil))) .nil)) (BW K dl):=by have zl:=X.zl;refine zR X (D5 X (Ra:=Is (.str z)) (Rb:=Lst fun c _=>c=gs.map V.int) iH (gQ eT) (vX X.s2) (fun d s Q q=>⟨_,X.s3,r,_,rfl,.inr (SqT.of (s _ _ (j8 _ _ X.hr))),fun l i=>q _ _ (au i) ⟨l,_,rfl,aq,rfl⟩⟩) fun p v w d s f ⟨l,c,g,a,h⟩ hp=>?_);subst g h;rw[show v=_ from f]at hp;have a:=X.ls s a (fun r e=>by cases gs<;>cases e);exact zQ hp (by lia) (kn2_lst a) (.inr (are_lst a)) (.inr a) (mj _)
def mz_2(X:Cz σ H dl t r b nf n ys ac gs z):Mk G K E σ H (.lst (.cons (.tup (.cons (.var 2) (.cons (.bin .Add (.var 3) (.tup (.cons (.con (.int 2)) .nil))) .nil))) .nil)) (BW K dl):=by have zl:=X.zl;refine zR X (D5 X (Ra:=Is (.str z)) (Rb:=Tup fun c _=>c=(gs++[2]).map V.int) iH (nH eT) (vX X.s2) (FL X) fun p v w g s d ⟨l,c,e,a,f⟩ hp=>?_);subst e f;rw[show v=_ from d]at hp;have a:=X.tp s a;refine zQ hp (by lia) (wg a (by rw[aU];have :=X.gl;have :=X.d.n10;simp;lia)) (.inr (are_tup a ?_)) (.inl a) (mj _);rw[cH,List.all_append];show(_&&false)=false;exact dh _
def mz_1(X:Cz σ H dl t r b nf n ys ac gs z):Mk G K E σ H (.lst (.cons (.tup (.cons (.var 2) .nil)) .nil)) (BW K dl):=by have zl:=X.zl;refine zR X ((tf (rF (vX X.s2) iH) (nI iH) len_one).imp fun v j s ⟨p,k,d,c,x,f,g⟩=>?_);subst d f;rw[show x=_ from g]at c;have c:=X.tp s c;exact⟨⟨p,rfl⟩,FG c (by simp) (fun y i=>by rw[aS.mp i];exact wj (by show _<=_;lia)) (fun a b e=>by simp at e),Kb c fun v h=>by rw[aS.mp h];exact⟨.str z,rfl,aM _⟩⟩
def mz_zz(X:Cz σ H dl t r b nf n ys ac gs z):Mk G K E σ H (.bin .Add (.var 0) (.lst (.cons (.tup (.cons (.con (.str "zz")) (.cons (.bin .Add (.var 3) (.tup (.cons (.con (.int 0)) .nil))) .nil))) .nil))) (BW K dl):=
 (HE X.s0 (j8 _ _ X.d.et) X.d.len (nH (jY iH (nH eT))) (tf (ph bZ iH (FL X) (nH eT)) (jY iH (nH eT)) pk)).imp fun v w s h=>by
 obtain⟨p,I,i,f,x,k,q,F,l,d,a,c,m,o,C,D,u,e,j⟩:=h;subst i k l m u j;rw[show a=V.str "zz" from o]at d;have g:=X.same s;have A:=X.d.len;have B:=X.d.n10;have gl:=X.gl;have f:=X.ls s f X.nb;have d:=X.tp s d;have e:=X.tp s e;refine⟨Au f (by simp;lia) (fun y hy=>?_) fun _ _ _ c=>?_,_,qt f,by simp;lia,fun y hy=>?_⟩
 ·rcases cV.mp hy with hy|hy;·exact Jq g.d y hy
  ·rw[aS.mp hy];exact LC d (by decide+kernel) (wg e (by rw[aU];simp;lia))
 ·have :=c _ (cz _ X.hy) (.ref q) (by simp);rw[g.d.tab.2.2.2 _ X.hy,Ak d e,ai,aU,X.gl]at this;simp at this
 ·rcases cV.mp hy with hy|hy;·exact A0 g.d y hy
  ·rw[aS.mp hy];exact uV d (.inl e) (mj _)
end
def DC(K:ah):Sp:=fun vs H Q _=>∃(t:Addr)(k:Int)(nf:Nat->Str)(n:Nat)(ys:List V)(ac:List (List Int))(dl:Addr)(bs:List V),vs=[.ref t,.int k]/\H dl=some (.lst (.bl true::bs))/\Tn (del H dl) t nf n ys ac/\ys≠[]/\∀H' x,aA H H'->BO K x (del H' dl)->Q x H'
def wp_noTb:Sat G K (DC K) oA nS:=by
 rintro o H Q E ⟨t,k,l,n,a,y,c,bs,rfl,F,d,ne,q⟩;have f:eH (BW K c):=di stay_bo;unfold oA;change wpB G K _ _ _ [some (.ref t),some (.int k),none,none,none] H;ext;have e:0<a.length:=iu.mpr ne;obtain⟨b,r,v,w,J⟩:=d.row 0 _ (ae e);have L:V.ref b∈a:=by rw[<-v];exact a6 e
 refine .inl ⟨t,a,0,.ref b,rfl,rfl,SqL.of (j8 _ _ d.et),(cC (j:=0) (by rw[ae e,v]):atI a ((0:Nat):Int)=_),?_⟩;refine⟨b,_,rfl,SqT.of (j8 _ _ w),rfl,_,_,rfl,_,_,rfl,rfl,?_⟩;have X:∀(u:Option V),Cz [some (.ref t),some (.int k),some (.str (l 0)),some (.ref r),u] H c t r b l n a y (y.getD 0 []) (l 0):=fun _=>⟨rfl,rfl,rfl,⟨bs,F⟩,d,L,w,J,(d.rd _ (d.get e)).1,d.ok 0⟩;unfold l6 wpB R.wpS mz qm wpG iV;refine(?h:Mk G K (fun _=>E) _ H _ (xM 6 (BW K c))) H (aA.refl _) _ fun P s z A=>?_
 case h=>exact zU f rfl (by decide) (jk mz_non (jk (mz_tup (X _)) (jk (mz_dup (X _)) (jk (mz_A (X _)) (jk (mz_list (X _)) (jk (mz_dic (X _)) alln))))))
 simp only[eR,eS];have g:=fun u=>(X u).same z;unfold lZ wpB R.wpS mz qm wpG iV;refine(?h:Mk G K (fun _=>E) _ s _ (xM 9 (BW K c))) s (aA.refl _) _ fun S N M B=>?_
 case h=>exact FP (m:=6) (n:=3) f (zS (xX f) rfl A) (zU f rfl (by decide) (jk (mz_zz (g _)) (jk (mz_2 (g _)) (jk (mz_1 (g _)) alln)))) (by decide)
 simp only[eR,eS];obtain⟨p,o,rfl,C,O,D⟩:=B;unfold lY;ext;obtain⟨i,hi⟩:=cP (dw k (b:=9) (by decide));have I:=cW k (b:=9) (by decide);refine⟨by decide,?_⟩;rw[hi]at I⊢;have x:i<o.length:=by lia
 exact .inl ⟨p,o,i,_,rfl,rfl,SqL.of C,cC (ae x),q _ _ (z.trans M) (D _ (a6 x))⟩
end K63
namespace Mt
open Q M4
abbrev onp(par:Nat->Nat)(e:Nat):Nat->Nat->Bool
 | 0,_=>false
 |f+1,v=>if v=0 then false else decide (v=e)||onp par e f (par v)
abbrev on(par:Nat->Nat)(e v:Nat):Bool:=onp par e v v
section
variable {par:Nat->Nat}{e f:Nat}{N:Nat}(hp:∀v,1<=v->v<N->par v<v)
include hp
theorem vO:∀(k v:Nat),v<N->v<=k->onp par e k v=onp par e v v
 | 0,v,_,h=>by
  obtain rfl:v=0:=by lia
  rfl
 |k+1,v,hv,h=>by
  by_cases h0:v=0;·subst h0;rfl
  ·obtain⟨u,rfl⟩:∃u,v=u+1:=⟨v-1,by lia⟩;have a:=hp (u+1) (by lia) hv;show(if u+1=0 then false else decide (u+1=e)||onp par e k (par (u+1)))=(if u+1=0 then false else decide (u+1=e)||onp par e u (par (u+1)));rw[vO k (par (u+1)) (by lia) (by lia),vO u (par (u+1)) (by lia) (by lia)]
theorem vQ{v:Nat}(b:1<=v)(a:v<N):on par e v=(decide (v=e)||on par e (par v)):=by obtain⟨u,rfl⟩:∃u,v=u+1:=⟨v-1,by lia⟩;have c:=hp (u+1) (by lia) a;show(if u+1=0 then false else decide (u+1=e)||onp par e u (par (u+1)))=_;rw[if_neg (by lia),vO hp u (par (u+1)) (by lia) (by lia)];rfl
theorem K3:∀(v:Nat),v<N->on par e v=true->e<=v/\1<=e:=fun v=>by
 induction v using AM with
 |ind v ih=>
  intro a h;by_cases h0:v=0;·subst h0;cases h
  ·rw[vQ hp (by lia) a,b8,decide_eq_true_eq]at h;rcases h with h|h;·lia
   ·have b:=hp v (by lia) a;have :=ih (par v) b (by lia) h;lia
theorem on_self{v:Nat}(a:1<=v)(b:v<N):on par v v=true:=by rw[vQ hp a b];simp
theorem Bz:∀(v:Nat),v<N->on par e v=true->on par f v=true->f<=e->on par f e=true:=fun v=>by
 induction v using AM with
 |ind v ih=>
  intro c d b h;by_cases h0:v=0;·subst h0;cases d
  ·by_cases he:v=e;·rw[<-he];exact b
   ·have g:=hp v (by lia) c;have a:=d;rw[vQ hp (by lia) c,decide_eq_false he,ni]at a;have :=K3 hp (par v) (by lia) a;rw[vQ hp (by lia) c,decide_eq_false (by lia:¬v=f),ni]at b;exact ih (par v) g (by lia) a b h
theorem By:∀(v:Nat),v<N->on par e v=true->on par f e=true->on par f v=true:=fun v=>by
 induction v using AM with
 |ind v ih=>
  intro b a c;by_cases h0:v=0;·subst h0;cases a
  ·by_cases he:v=e;·rw[he];exact c
   ·have d:=hp v (by lia) b;rw[vQ hp (by lia) b,decide_eq_false he,ni]at a;rw[vQ hp (by lia) b,ih (par v) d (by lia) a c,GQ]
theorem K6{a b c d:Nat}(k:a<N)(l:b<N)(m:c<N)(g:on par e a=true/\on par f a=true)(j:on par e b=true/\on par f b=false)(i:on par e c=false/\on par f c=true):False:=by
 by_cases h:f<=e;·have :=By hp b l j.1 (Bz hp a k g.1 g.2 h);rw[j.2]at this;cases this
 ·have :=By hp c m i.2 (Bz hp a k g.2 g.1 (by lia));rw[i.1]at this;cases this
end
abbrev rdv(f:Nat->Int)(own par:Nat->Nat)(v p:Nat):Int:=if on par (own p) v=true then 1-f p else f p
abbrev nd(f:Nat->Int)(own par:Nat->Nat)(n v:Nat):List Int:=(aE n).map (rdv f own par v)
def td{f:Nat->Int}{own par:Nat->Nat}{v:Nat}:(nd f own par n v).length=n:=by simp[nd]
def zP{f:Nat->Int}{own par:Nat->Nat}{v p:Nat}(h:p<n):(nd f own par n v).getD p 0=rdv f own par v p:=by unfold nd;rw[af,aC,cn h];rfl
def rdv_bit{f:Nat->Int}{own par:Nat->Nat}{v p:Nat}(hf:f p=0\/f p=1):rdv f own par v p=0\/rdv f own par v p=1:=by unfold rdv;split <;>lia
def Kd{f:Nat->Int}{own par:Nat->Nat}{p:Nat}:rdv f own par 0 p=f p:=by unfold rdv;rw[if_neg (by intro h;cases h)]
section
variable {f:Nat->Int}{own par:Nat->Nat}{N:Nat}(hp:∀v,1<=v->v<N->par v<v)(hf:∀p,p<n->f p=0\/f p=1)
include hp hf
theorem Kf{v p:Nat}(a:1<=v)(b:v<N)(c:p<n):(rdv f own par (par v) p+(if own p=v then 1 else 0))%2=rdv f own par v p:=by
 have d:=hp v a b;unfold rdv;rw[vQ hp a b];have e:=hf p c;by_cases h:v=own p
 ·have :on par (own p) (par v)=false:=by
   cases q:on par (own p) (par v)with
   |false=>rfl
   |true=>have :=K3 hp (par v) (by lia) q;lia
  rw[this,decide_eq_true h,if_pos h.symm];simp only[Bool.true_or,if_true,aX,if_false];lia
 ·rw[decide_eq_false h,if_neg (bE h),ni];split <;>lia
theorem Ke{v p:Nat}(a:p<n):on par (own p) v=decide (rdv f own par v p≠f p):=by
 have b:=hf p a;unfold rdv;cases on par (own p) v with
 |true=>simp;lia
 |false=>simp
theorem nd_ne(hi:i<j)(d:j<N)(g:∃p,p<n/\own p=j):nd f own par n j≠nd f own par n i:=fun h=>by
 obtain⟨p,c,e⟩:=g;have q:rdv f own par j p=rdv f own par i p:=by rw[<-zP (n:=n) c,h,zP c]
 have a:=Ke (own:=own) (v:=j) hp hf c;have b:=Ke (own:=own) (v:=i) hp hf c;rw[q,<-b,e,on_self hp (by lia) d]at a;have :=K3 hp i (by lia) a.symm;lia
end
end Mt
namespace Bt
open PySem R
abbrev Bp:List Str:=["_law_cell","_law_k"]
abbrev tZ:List Str:=["_law_cell","_law_k"]
abbrev ui:CB:=
  (.cons (.ret (.bin .Mod (.bin .Mult (.bin .Add (.bin .Mod (.bin .FloorDiv (.var 0) (.con (.int 7))) (.bin .Pow (.con (.int 10)) (.con (.int 30)))) (.con (.int 1))) (.bin .Add (.con (.int 48271)) (.bin .Mult (.bin .Mult (.con (.int 7919)) (.var 1)) (.var 1)))) (.con (.int 2147483629))))
  .nil)
abbrev zC:List Str:=["_law_many","_law_seed","_law_left","_law_free"]
abbrev rq:List Str:=["_law_many","_law_seed","_law_left","_law_free","_law_some","_law_edge","_law_rows","_law_place","_law_rank","_law_owners_here","_law_at"]
abbrev kj:CB:=
  (.cons (.ret (.tup (.cons (.var 9) (.cons (.var 2) .nil))))
  .nil)
abbrev i3:CB:=
  (.cons (.expr (.meth1 .append (.var 9) (.meth1 .pop (.var 4) (.var 10))))
  .nil)
abbrev km:CB:=
  (.cons (.asg (.name 2) (.bin .FloorDiv (.var 2) (.bfn .len (.cons (.var 4) .nil))))
  .nil)
abbrev lV:CB:=
  (.cons (.iff (.cmp .GtE (.var 2) (.bfn .len (.cons (.var 4) .nil)))
  (.cons (.asg (.name 10) (.bin .Mod (.var 2) (.bfn .len (.cons (.var 4) .nil))))
  km)
  .nil)
  i3)
abbrev lW:CB:=
  (.cons (.asg (.name 10) (.bin .Mod (.bin .FloorDiv (.var 1) (.con (.int 16))) (.bfn .len (.cons (.var 4) .nil))))
  lV)
abbrev oo:CB:=
  (.cons (.whl (.cmp .NotEq (.var 4) (.lst .nil))
  (.cons (.asg (.name 1) (.bin .Mod (.bin .Add (.bin .Mult (.var 1) (.con (.int 48271))) (.con (.int 11))) (.con (.int 2147483647))))
  lW))
  kj)
abbrev kq:CB:=
  (.cons (.asg (.name 9) (.lst .nil))
  oo)
abbrev oq:CB:=
  (.cons (.iff (.not (.var 3))
  (.cons (.ret (.tup (.cons (.comp ["_law_row"] [] (.name 0) (.lseq (.bfn .sortl (.cons (.var 6) .nil))) .no (.idx (.var 0) (.con (.int 2)))) (.cons (.var 2) .nil))))
  .nil)
  .nil)
  kq)
abbrev lX:CB:=
  (.cons (.expr (.meth1 .append (.var 6) (.tup (.cons (.var 8) (.cons (.var 7) (.cons (.idx (.var 4) (.var 7)) .nil))))))
  .nil)
abbrev ot:CB:=
  (.cons (.forr (.name 7) (.range1 (.bfn .len (.cons (.var 4) .nil)))
  (.cons (.asg (.name 8) (.bin .Mod (.bin .Mult (.bin .Add (.var 1) (.con (.int 1))) (.bin .Add (.bin .Add (.bin .Mult (.bin .Mult (.con (.int 31)) (.var 7)) (.var 7)) (.bin .Mult (.con (.int 17)) (.var 7))) (.con (.int 7)))) (.con (.int 10007))))
  lX))
  oq)
abbrev ou:CB:=
  (.cons (.asg (.name 6) (.lst .nil))
  ot)
abbrev oz:CB:=
  (.cons (.forr (.name 5) (.range1 (.bfn .len (.cons (.var 0) .nil)))
  (.cons (.asg (.name 4) (.bin .Add (.var 4) (.bin .Mult (.lst (.cons (.var 5) .nil)) (.idx (.var 0) (.var 5)))))
  .nil))
  ou)
abbrev rW:CB:=
  (.cons (.asg (.name 4) (.lst .nil))
  oz)
abbrev Bq:List Str:=["_law_script","_law_start"]
abbrev t5:List Str:=["_law_script","_law_start","_law_parents","_law_many","_law_cells","_law_room","_law_k","_law_drawn","_law_more"]
abbrev pZ:CB:=
  (.cons (.ret (.tup (.cons (.var 2) (.cons (.var 3) .nil))))
  .nil)
abbrev m4:CB:=
  (.cons (.expr (.meth1 .append (.var 3) (.bin .Add (.con (.int 1)) (.var 8))))
  .nil)
abbrev m5:CB:=
  (.cons (.asg (.name 5) (.bin .Sub (.var 5) (.var 8)))
  m4)
abbrev m6:CB:=
  (.cons (.asg (.name 8) (.bfn .min (.cons (.var 5) (.cons (.idx (.lst (.cons (.con (.int 0)) (.cons (.con (.int 0)) (.cons (.con (.int 1)) (.cons (.con (.int 2)) .nil))))) (.bin .Mod (.bin .FloorDiv (.var 7) (.con (.int 31))) (.con (.int 4)))) .nil))))
  m5)
abbrev m7:CB:=
  (.cons (.expr (.meth1 .append (.var 2) (.bin .Mod (.var 7) (.bfn .len (.cons (.var 2) .nil)))))
  m6)
abbrev p6:CB:=
  (.cons (.forr (.name 6) (.range1 (.bfn .len (.cons (.var 4) .nil)))
  (.cons (.asg (.name 7) (.call "_law_mixed" (.cons (.idx (.var 4) (.var 6)) (.cons (.bin .Add (.var 6) (.var 1)) .nil))))
  m7))
  pZ)
abbrev p7:CB:=
  (.cons (.asg (.name 5) (.bin .Sub (.con (.int 54)) (.bfn .len (.cons (.var 4) .nil))))
  p6)
abbrev p8:CB:=
  (.cons (.asg (.name 4) (.cut (.var 0) (.yes (.var 1)) (.yes (.bin .Add (.var 1) (.con (.int 30))))))
  p7)
abbrev p9:CB:=
  (.cons (.asg (.name 3) (.lst (.cons (.bin .Mod (.bin .FloorDiv (.call "_law_cell_at" (.cons (.var 0) (.cons (.con (.int 0)) .nil))) (.con (.int 7))) (.con (.int 7))) .nil)))
  p8)
abbrev uj:CB:=
  (.cons (.asg (.name 2) (.lst (.cons (.con (.int 0)) .nil)))
  p9)
end Bt
namespace Bt
open PySem PySem.Spec PyProof.Rows L2 R Cp Lt Kc
abbrev mx(c k:Int):Int:=(c/7%10^Int.toNat 30+1)*(48271+7919*k*k)%2147483629
def mx_nn(c k:Int):0<=mx c k:=dw _ (by decide)
def Bb:Sp:=fun vs H Q _=>∃c k:Int,vs=[.int c,.int k]/\0<=k/\k<=100/\Q (.int (mx c k)) H
def wp_mix:Sat G K Bb ui tZ:=by
 rintro g H Q E ⟨c,k,rfl,a,b,q⟩;unfold ui;change wpB G K _ _ _ [some (.int c),some (.int k)] H;ext;have f:0<=7919*k*k/\7919*k*k<=79190000:=by have d:0<=k*k:=Int.mul_nonneg a a;have e:k*k<=100*100:=Int.mul_le_mul b b a (by decide);rw[Int.mul_assoc];lia
 exact⟨⟨by decide,by decide⟩,⟨by decide,by decide,by decide⟩,by decide,Gn (by decide) (by decide),yx a (by lia),yx (by lia) (by lia),by decide,q⟩
abbrev iN(ks:List Nat):List V:=ks.map fun k:Nat=>V.int (k:Int)
def ub{ks:List Nat}(h:i<ks.length):(iN ks)[i]? =some (.int (ks.getD i 0:Nat)):=by unfold iN;rw[aC,ae h,af,ae h];rfl
def dq{ks:List Nat}:(iN ks).length=ks.length:=by simp[iN]
def z7{ks:List Nat}:iN (ks++[k])=iN ks++[V.int (k:Int)]:=by simp[iN]
structure Gp(ps ms:List Nat):Prop where
 len:ms.length=ps.length
 n31:ps.length<=31
 one:1<=ps.length
 par:∀v,1<=v->v<ps.length->ps.getD v 0<v
 m0:∀v,1<=v->v<ms.length->1<=ms.getD v 0/\ms.getD v 0<=3
 sum:ms.sum<=60
def vz(K:ah):Sp:=fun vs H Q _=>∃(a:Addr)(ns:List Int)(st:Nat),vs=[.ref a,.int st]/\SqL K H a (ns.map V.int)/\ns.length<=63/\st<=10/\
 ∀(H':Hp)(p c pm:Addr)(ps b:List Nat),aA H H'->H' p=some (.tup [.ref c,.ref pm])->H' c=some (.lst (iN ps))->H' pm=some (.lst (iN b))->Gp ps b->Q (.ref p) H'
def getD_snoc{ks:List Nat}:(ks++[k]).getD i 0=if i<ks.length then ks.getD i 0 else if i=ks.length then k else 0:=by
 rw[af,af];by_cases h:i<ks.length;·rw[if_pos h,cB h]
 ·rw[if_neg h,bU (by lia)];by_cases h2:i=ks.length;·rw[if_pos h2,h2];simp
  ·rw[if_neg h2,bX (by simp;lia)];rfl
structure Gb(H:Hp)(pa pm:Addr)(k L room:Nat)(ps ms:List Nat)(H':Hp):Prop where
 s:aA H H'
 ea:H' pa=some (.lst (iN ps))
 em:H' pm=some (.lst (iN ms))
 pl:ps.length=k+1
 ml:ms.length=k+1
 par:∀v,1<=v->v<ps.length->ps.getD v 0<v
 m0:∀v,1<=v->v<ms.length->1<=ms.getD v 0/\ms.getD v 0<=3
 sum:ms.sum+room+(L-k)<=60
def GX(g0:G.fn "_law_cell_at" 2=some (vB K,[]))(g1:G.fn "_law_mixed" 2=some (Bb,[])):
  Sat G K (vz K) uj t5:=by
 rintro vs H b4 b3 ⟨a,F,n,rfl,X,hn,b9,b2⟩;unfold uj;change wpB G K _ _ _ [some (.ref a),some (.int n),none,none,none,none,none,none,none] H;ext;refine⟨short (by simp),fun e Z=>?_⟩;have s:aA H (upd H e (.lst [.int 0])):=au Z;have C:upd H e (.lst [.int 0]) e=some (.lst (iN [0])):=aq;generalize upd H e (.lst [.int 0])=H1 at s C⊢;unfold p9;ext;refine⟨_,_,g0,a,F,0,rfl,s.seq X,?_⟩;generalize F.getD 0 0=c;refine div_ii.mpr ⟨⟨by decide,by decide⟩,iZ.mpr ⟨by decide,short (by show 1<=40;decide),fun i E=>?_⟩⟩;obtain⟨q,a6⟩:=cP (dw (c/7) (by decide:(7:Int)≠0));have b7:q<=6:=by have :=cW (c/7) (by decide:(0:Int)<7);lia
 rw[a6];have t:aA H1 (upd H1 i (.lst [.int q])):=au E;have M:upd H1 i (.lst [.int q]) i=some (.lst (iN [q])):=aq;have a1:e≠i:=fun z=>by rw[<-z,C]at E;cases E
 have a4:H i=none:=s.free E;generalize upd H1 i (.lst [.int q])=H2 at t M⊢;unfold p8;ext;obtain⟨f,S⟩:=K21.Mr F (some (n:Int)) (some ((n:Int)+30));refine .inl ⟨a,_,rfl,(s.trans t).seq X,fun l p=>?_⟩;rw[S];have b5:f.length<=30:=by
  have a2:(lq (F.map V.int) (some (n:Int)) (some ((n:Int)+30))).length=f.length:=by rw[S,ai]
  rw[<-a2];unfold lq;rw[cY,show(some ((n:Int)+30))=some ((n+30:Nat):Int) by simp,HT.qT,HT.qT];lia
 have I:aA H2 (upd H2 l (.lst (f.map V.int))):=au p;have D:upd H2 l (.lst (f.map V.int)) l=some (.lst (f.map V.int)):=aq;have a9:e≠l:=fun z=>by rw[<-z,t _ _ C]at p;cases p
 have b0:i≠l:=fun z=>by rw[<-z,M]at p;cases p
 have fl:H l=none:=(s.trans t).free p;generalize upd H2 l (.lst (f.map V.int))=H3 at I D⊢;unfold p7;ext;refine Or.inl ⟨l,_,rfl,.inl (SqL.of D),?_⟩;rw[ai];ext;unfold p6;ext;refine iJ ?_;ext;refine Or.inl ⟨l,_,rfl,.inl (SqL.of D),_,rfl,by rw[ai];lia,by rw[ai];lia,?_⟩;rw[ai,aQ];refine gX dN (fun k O P=>∃(j:Nat)(h r:List Nat),Gb H e i k f.length j h r P/\P l=some (.lst (f.map V.int))/\∃u v w,O=[some (.ref a),some (.int n),some (.ref e),some (.ref i),some (.ref l),some (.int j),u,v,w])
  ⟨54-f.length,[0],[q],⟨s.trans (t.trans I),I _ _ (t _ _ C),I _ _ M,rfl,rfl,fun v B o=>by simp at o;lia,fun v B o=>by simp at o;lia,by simp;lia⟩,D,none,none,none,by rw[show((54-f.length:Nat):Int)=54-(f.length:Int) by lia]⟩ (fun _ _ _ _ _=>trivial) ?_ ?_
 ·rintro k c2 O H4 A D2 hk ⟨j,h,r,g,T,u,v,w,rfl⟩ rfl J hD _;have U:=J _ _ T;have L:=J _ _ g.ea;have a3:=J _ _ g.em;have sH:=g.s.trans J;ext;simp only[fX];have a5:(f.map V.int)[k]? =some (.int (f.getD k 0)):=K32.gW hk;refine⟨_,_,g1,.inl ⟨l,_,k,_,rfl,rfl,SqL.of U,cC a5,?_⟩⟩;ext;refine⟨_,_,rfl,by lia,by lia,?_⟩;generalize f.getD k 0=cc;have hd:=mx_nn cc ((k:Int)+(n:Int));generalize mx cc ((k:Int)+(n:Int))=d at hd;have a0:=g.pl;have Y:=g.ml;unfold m7;ext;refine⟨.inl ⟨rfl,_,SqL.of L⟩,Or.inl ⟨e,_,rfl,.inl (SqL.of L),?_⟩⟩;rw[dq];refine iZ.mpr ⟨by lia,?_⟩;obtain⟨z,hz⟩:=cP (dw d (by lia:(h.length:Int)≠0));have c1:z<h.length:=by have :=cW d (by lia:(0:Int)<(h.length:Int));lia
  rw[hz];refine⟨e,_,_,rfl,rfl,L,K32.xE (by rw[dq];lia),?_⟩;rw[<-z7];have Q:upd A e (.lst (iN (h++[z]))) e=some (.lst (iN (h++[z]))):=aq;have N:upd A e (.lst (iN (h++[z]))) i=some (.lst (iN r)):=by rw[aW (bE a1)];exact a3
  have W:upd A e (.lst (iN (h++[z]))) l=some (.lst (f.map V.int)):=by rw[aW (bE a9)];exact U
  have s6:aA H (upd A e (.lst (iN (h++[z])))):=dj sH Z;generalize upd A e (.lst (iN (h++[z])))=H6 at Q N W s6⊢;unfold m6;ext;refine⟨short (by show 4<=40;decide),fun b hb=>?_⟩;have x:aA H6 (upd H6 b (.lst [.int 0,.int 0,.int 1,.int 2])):=au hb;have R:upd H6 b (.lst [.int 0,.int 0,.int 1,.int 2]) b=some (.lst (iN [0,0,1,2])):=aq;generalize upd H6 b (.lst [.int 0,.int 0,.int 1,.int 2])=H7 at x R⊢;obtain⟨y,hy⟩:=cP (dw (d/31) (by decide:(4:Int)≠0));have c0:y<4:=by have :=cW (d/31) (by decide:(0:Int)<4);lia
  refine⟨⟨by decide,by decide⟩,by decide,?_⟩;rw[hy];refine .inl ⟨b,_,y,_,rfl,rfl,SqL.of R,cC (ub (by simp;lia)),?_⟩;have hw:[0,0,1,2].getD y 0<=2:=by
   have :y=0\/y=1\/y=2\/y=3:=by lia
   rcases this with rfl|rfl|rfl|rfl<;>decide
  generalize[0,0,1,2].getD y 0=more at hw;refine⟨_,_,rfl,?_⟩;obtain⟨m,a7,b8,b6⟩:∃m:Nat,(if(more:Int)<(j:Int)then(more:Int)else(j:Int))=(m:Int)/\m<=j/\m<=2:=by
   split;·exact⟨more,rfl,by lia,hw⟩
   ·exact⟨j,rfl,av _,by lia⟩
  rw[a7];unfold m5;ext;unfold m4;ext;refine⟨.inl ⟨rfl,_,SqL.of (x _ _ N)⟩,i,_,_,rfl,rfl,x _ _ N,K32.xE (by rw[dq];lia),?_⟩;rw[show(1:Int)+(m:Int)=((1+m:Nat):Int) by lia,<-z7,show(j:Int)-(m:Int)=((j-m:Nat):Int) by lia];have a8:=g.sum;refine hD _ _ ⟨j-m,h++[z],r++[1+m],⟨dj (s6.trans x) a4,?_,aq,by simp[a0],by simp[Y],fun v B o=>?_,fun v B o=>?_,?_⟩,?_,_,_,_,rfl⟩;·rw[aW a1];exact x _ _ Q
  ·rw[getD_snoc];split;·exact g.par v B (by assumption)
   ·split;·lia
    ·lia
  ·rw[getD_snoc];split;·exact g.m0 v B (by assumption)
   ·rw[aU,dR]at o;rw[if_pos (by lia)];lia
  ·rw[List.sum_append];simp;lia
  ·rw[aW (bE b0)];exact x _ _ W
 ·rintro O H4 ⟨j,h,r,g,T,u,v,w,rfl⟩;unfold pZ;ext;have a0:=g.pl;have Y:=g.ml;have a8:=g.sum;refine⟨short (by simp),fun b1 hp=>b2 _ b1 e i h r (g.s.trans (au hp)) aq (au hp _ _ g.ea) (au hp _ _ g.em) ⟨by lia,by lia,by lia,g.par,g.m0,by lia⟩⟩
abbrev gG(a:List Nat)(k:Nat):List Nat:=(aE k).flatMap fun e=>bj (a.getD e 0) e
def n8(a:List Nat)(k:Nat):gG a (k+1)=gG a k++bj (a.getD k 0) k:=by unfold gG;rw[kA,kK];simp
theorem qx(a:List Nat):∀k,k<=a.length->(gG a k).length=(a.take k).sum
 | 0,_=>rfl
 |k+1,h=>by rw[n8,aU,qx a k (by lia),jB,dI,List.sum_append,af];cases a[k]? <;>simp
theorem nG:∀(a:List Nat)(k:Nat),(a.take k).sum<=a.sum
 | [],k=>by simp
 |m::a,0=>by simp
 |m::a,k+1=>by rw[List.take_succ_cons,List.sum_cons,List.sum_cons];have :=nG a k;lia
def rep_iN(e m:Nat):(bj m [V.int (e:Int)]).flatten=iN (bj m e):=by
 unfold iN;rw[List.map_replicate]
 induction m with
 |zero=>rfl
 |succ m ih=>rw[dM,je,ih,dM];rfl
def iN_app(a b:List Nat):iN (a++b)=iN a++iN b:=by simp[iN]
def iN_ints(ks:List Nat):iN ks=(ks.map fun k:Nat=>(k:Int)).map V.int:=by unfold iN;rw[cD];rfl
def nil_iN{t:Addr}{fs:List Nat}(b:H t=some (.lst (iN fs)))(c:H p=some (.lst [])):∃d a,Rep K H d (.ref t)/\Rep K H a (.ref p)/\hgt d<=30/\eqD d a=decide (fs=[]):=by rw[iN_ints]at b;obtain⟨d,a,e,f,g,h⟩:=K22.BI (K:=K) (SqL.of b) c;refine⟨d,a,e,f,g,?_⟩;rw[h];exact decide_eq_decide.mpr (by simp)
theorem uc:∀(l:List Nat)(z:Nat)(h:z<l.length),(l[z]::l.eraseIdx z).Perm l
 | [],_,h=>absurd h (dv _)
 |a::l,0,_=>dU _
 |a::l,z+1,h=>by
  have b:z<l.length:=by simpa using h
  exact(xn a l[z] (l.eraseIdx z)).trans ((uc l z b).cons a)
def vx:Sp:=fun vs H Q _=>∃(pm:Addr)(b c:Int)(free:Bool)(a:List Nat),vs=[.ref pm,.int b,.int c,.bl free]/\H pm=some (.lst (iN a))/\a.length<=31/\a.sum<=60/\0<=b/\b<=10007/\
 ∀(H':Hp)(p l:Addr)(os:List Nat)(d:Int),aA H H'->H' p=some (.tup [.ref l,.int d])->H l=none->H' l=some (.lst (iN os))->os.Perm (gG a a.length)->Q (.ref p) H'
section
variable {G:Gam}{E:XS}{D:Ends}
def IZ{Q:VK}(hr:D.rt=Q){t h:Addr}{F:List Nat}{k j:Int}{s:List Nat}{a b r c e f:Option V}(T:aA H H1)(a0:H h=none)(i:H1 h=some (.lst (iN s)))(hl:s.length<=60)
  (q:∀(H':Hp)(p l:Addr)(os:List Nat)(a2:Int),aA H H'->H' p=some (.tup [.ref l,.int a2])->H l=none->H' l=some (.lst (iN os))->os.Perm s->Q (.ref p) H'):
  wpB G K E kq D [some (.ref t),some (.int k),some (.int j),a,some (.ref h),b,r,c,e,f,none] H1:=by
 unfold kq;ext;refine⟨short (by simp),fun l y=>?_⟩;have I:aA H1 (upd H1 l (.lst [])):=au y;have o:upd H1 l (.lst []) l=some (.lst (iN [])):=aq;have S:h≠l:=fun z=>by rw[<-z,i]at y;cases y
 have O:H l=none:=T.free y;have i:=I _ _ i;generalize upd H1 l (.lst [])=H2 at I o i⊢;unfold oo;ext;refine⟨fun m U H'=>∃(g os:List Nat)(k j:Int)(u:Option V),m=g.length/\aA H H'/\H' h=some (.lst (iN g))/\H' l=some (.lst (iN os))/\(os++g).Perm s/\U=[some (.ref t),some (.int k),some (.int j),a,some (.ref h),b,r,c,e,some (.ref l),u],
  ⟨_,s,[],k,j,none,rfl,T.trans I,i,o,dU _,rfl⟩,?_⟩
 rintro m U x ⟨g,os,k,j,u,rfl,s3,i,o,C,rfl⟩;have a3:os.length+g.length=s.length:=by have :=C.length_eq;simpa using this
 ext;refine⟨short (by simp),fun B a1=>?_⟩;have J:aA x (upd x B (.lst [])):=au a1;have M:upd x B (.lst []) B=some (.lst []):=aq;have i:=J _ _ i;have o:=J _ _ o;have L:=s3.trans J;generalize upd x B (.lst [])=H4 at M i o L⊢;obtain⟨d,W,r1,r2,r3,r4⟩:=nil_iN (K:=K) i M;refine⟨d,W,r1,r2,r3,_,rfl,?_⟩;rw[r4];by_cases hz:g=[];·rw[decide_eq_true hz,if_neg (by simp)];unfold kj;ext;refine⟨short (by simp),fun p hp=>?_⟩;rw[hr];rw[hz,ff]at C;exact q _ p l os j (L.trans (au hp)) aq O (au hp _ _ o) C
 ·rw[decide_eq_false hz,if_pos (by simp)];have a4:0<g.length:=iu.mpr hz;have w:(0:Int)<(g.length:Int):=by lia
  refine⟨fun v H'=>∃(n os:List Nat)(k j:Int)(u:Option V),n.length<g.length/\aA H H'/\H' h=some (.lst (iN n))/\H' l=some (.lst (iN os))/\(os++n).Perm s/\v=[some (.ref t),some (.int k),some (.int j),a,some (.ref h),b,r,c,e,some (.ref l),u],
   fun v H' ⟨n,os,k,j,u,P,h2,h3,h4,h5,h6⟩=>⟨_,P,n,os,k,j,u,rfl,h2,h3,h4,h5,h6⟩,?_⟩
  refine⟨yx (by decide) (by decide),by decide,?_⟩;generalize(k*48271+11)%2147483647=sd
  --the drawn place,whichever way
  have N:∀(at_ R:Int),0<=at_->at_<(g.length:Int)->wpB G K E i3 {nx:=fun v H'=>∃(n os:List Nat)(k j:Int)(u:Option V),n.length<g.length/\aA H H'/\H' h=some (.lst (iN n))/\H' l=some (.lst (iN os))/\(os++n).Perm s/\v=[some (.ref t),some (.int k),some (.int j),a,some (.ref h),b,r,c,e,some (.ref l),u],rt:=D.rt,bk:=wpB G K E kj D,ct:=fun v H'=>∃(n os:List Nat)(k j:Int)(u:Option V),n.length<g.length/\aA H H'/\H' h=some (.lst (iN n))/\H' l=some (.lst (iN os))/\(os++n).Perm s/\v=[some (.ref t),some (.int k),some (.int j),a,some (.ref h),b,r,c,e,some (.ref l),u]}
    [some (.ref t),some (.int sd),some (.int R),a,some (.ref h),b,r,c,e,some (.ref l),some (.int at_)] H4:=by
   intro at_ R h0 P;obtain⟨z,rfl⟩:=cP h0;have A:z<g.length:=by lia
   unfold i3;ext;refine⟨.inl ⟨rfl,_,SqL.of o⟩,.inl ⟨rfl,_,SqL.of i⟩,.inr ⟨h,_,z,z,_,rfl,rfl,i,by lia,by lia,?_,ub A,?_⟩⟩;·rw[dq,uM (by lia) (by lia)];simp
   have X:(iN g).eraseIdx z=iN (g.eraseIdx z):=by unfold iN;rw[xm,xm,cH,List.map_take,List.map_drop]
   rw[X];have Y:upd H4 h (.lst (iN (g.eraseIdx z))) l=some (.lst (iN os)):=by rw[aW (bE S)];exact o
   refine⟨l,iN os,_,rfl,rfl,Y,K32.xE (by rw[dq];lia),?_⟩;have Z:g.getD z 0=g[z]:=by rw[af,ae A];rfl
   rw[Z,<-z7];refine⟨g.eraseIdx z,os++[g[z]],_,_,_,?_,dj (dj L a0) O,?_,aq,?_,rfl⟩;·rw[lG A];lia
   ·rw[aW S];exact aq
   ·rw[mT];exact((uc g z A).append_left os).trans C
  unfold lW;ext;refine⟨⟨by decide,by decide⟩,Or.inl ⟨h,_,rfl,.inl (SqL.of i),?_⟩⟩;rw[dq];refine iZ.mpr ⟨w,?_⟩;unfold lV;ext;refine Or.inl ⟨h,_,rfl,.inl (SqL.of i),?_⟩;rw[dq];refine ge_ii.mpr ⟨_,rfl,?_⟩;by_cases hge:(g.length:Int)<=j;·rw[decide_eq_true hge,if_pos rfl];refine Or.inl ⟨h,_,rfl,.inl (SqL.of i),?_⟩;rw[dq];refine iZ.mpr ⟨w,?_⟩;unfold km;ext;refine Or.inl ⟨h,_,rfl,.inl (SqL.of i),?_⟩;rw[dq];refine div_ii.mpr ⟨⟨w,by lia⟩,?_⟩;exact N _ _ (dw _ (by lia)) (cW _ w)
  ·rw[decide_eq_false hge,if_neg ao];exact N _ _ (dw _ (by lia)) (cW _ w)
abbrev js(a:Nat->Int)(b:List Nat)(k:Nat):List (List Int):=(aE k).map fun j:Nat=>[a j,(j:Int),(b.getD j 0:Nat)]
def Fh(d:Nat->Int)(f:List Nat)(k:Nat):(js d f k).Nodup:=by
 unfold js;refine mR.mpr (List.nodup_range.imp ?_);intro a b c e;injection e with _ e
 injection e with e _;exact c (by lia)
def Hi(a:Nat->Int)(b:List Nat)(k:Nat):js a b (k+1)=js a b k++[[a k,(k:Int),(b.getD k 0:Nat)]]:=by unfold js;rw[kA,cH];rfl
abbrev rank(a:Int)(j:Nat):Int:=(a+1)*(31*(j:Int)*(j:Int)+17*(j:Int)+7)%10007
def G4{c:Nat->Int}{b:List Nat}(h:_root_.Q.IntKeys H ys (js c b b.length)):∃os:List Nat,os.Perm b/\os.length=b.length/\(_root_.Q.dJ V.non (js c b b.length) ys).length=os.length/\∀(i:Nat) v,(_root_.Q.dJ V.non (js c b b.length) ys)[i]? =some v->∃a x y,v=.ref a/\H a=some (.tup [x,y,.int (os.getD i 0:Nat)]):=by
 have s:=K32.eX h;have q:(js c b b.length).length=b.length:=by simp[js]
 have k:=_root_.Q.o7 (Fh c b b.length);rw[q]at k;refine⟨(_root_.Q.DX (js c b b.length)).map fun i=>b.getD i 0,?_,by rw[ai,k.length_eq,aY],by unfold _root_.Q.dJ;rw[ai,ai],fun i v e=>?_⟩;·have h:=k.map fun i=>b.getD i 0;rw[_root_.Q.range_getD]at h;exact h
 ·unfold _root_.Q.dJ at e;rw[aC]at e;obtain⟨j,m,rfl⟩:=iW.mp e;have d:j<b.length:=bp.mp (k.mem_iff.mp (aI m));have at_:∀{ys:List V}{g:List (List Int)},_root_.Q.IntKeys H ys g->∀j,j<g.length->∃a,ys.getD j .non=V.ref a/\H a=some (.tup ((g.getD j []).map V.int)):=by
   intro ys g h
   induction h with
   |nil=>intro j d;exact absurd d (dv _)
   |cons r t ih=>
    intro j d;cases j with
    |zero=>obtain⟨a,e,f⟩:=r;exact⟨a,e,f⟩
    |succ j=>exact ih j (by simpa using d)
  obtain⟨a,n,l⟩:=at_ h j (by lia);have o:(js c b b.length).getD j []=[c j,(j:Int),(b.getD j 0:Nat)]:=by unfold js;rw[af,aC,cn d];rfl
  rw[o]at l;have p:((_root_.Q.DX (js c b b.length)).map fun i=>b.getD i 0).getD i 0=b.getD j 0:=by rw[af,aC,m];rfl
  rw[p];exact⟨a,_,_,n,l⟩
def GV:Sat G K vx rW rq:=by
 rintro S H b6 b5 ⟨D,f,L,free,l,rfl,W,c0,b0,c2,c3,q⟩;unfold rW;change wpB G K _ _ _ [some (.ref D),some (.int f),some (.int L),some (.bl free),none,none,none,none,none,none,none] H;ext;refine⟨short (by simp),fun C a1=>?_⟩;unfold oz;ext;refine iJ ?_;ext;have R:aA H (upd H C (.lst [])):=au a1;have U:upd H C (.lst []) C=some (.lst (iN [])):=aq;generalize upd H C (.lst [])=H0 at R U⊢;refine Or.inl ⟨D,_,rfl,.inl (SqL.of (R _ _ W)),_,rfl,by rw[dq];lia,by rw[dq];lia,?_⟩;rw[dq,aQ];have a2:∀k,k<=l.length->(gG l k).length<=60:=fun k s=>by rw[qx l k s];exact aF (nG l k) b0
 refine gX dN (fun k y w=>aA H w/\∃h u,H h=none/\w h=some (.lst (iN (gG l k)))/\y=[some (.ref D),some (.int f),some (.int L),some (.bl free),some (.ref h),u,none,none,none,none,none])
  ⟨R,C,none,a1,U,rfl⟩ (fun _ _ _ _ _=>trivial) ?_ ?_
 ·rintro k x y z T D2 s ⟨m,h,u,Y,a,rfl⟩ rfl E O _;have a:=E _ _ a;have m:=m.trans E;ext;simp only[fX];refine⟨short (by simp),fun b hb=>?_⟩;generalize hX:upd T b _=A;obtain⟨n,eb⟩:=eF hX hb;clear hX;refine .inl ⟨D,_,k,_,rfl,rfl,SqL.of (n _ _ (m _ _ W)),cC (ub s),?_⟩;have b9:(gG l k).length+l.getD k 0<=60:=by have :=a2 (k+1) s;rw[n8,aU,jB]at this;exact this
  refine .inr (.inl ⟨b,_,_,rfl,rfl,eb,by lia,by lia,K32.eU (by rw[aQ,dR,Nat.one_mul];lia),fun c hc=>?_⟩);rw[aQ,rep_iN];generalize hX:upd A c _=N;obtain⟨e,ec⟩:=eF hX hc;clear hX;refine .inr (.inr (.inl ⟨h,c,_,_,rfl,rfl,e _ _ (n _ _ a),ec,K32.eU (by rw[dq,dq,jB];lia),fun a5 hd=>?_⟩));rw[<-iN_app,<-n8];have d:=m.trans (n.trans e);exact O _ _ ⟨d.trans (au hd),a5,_,d.free hd,aq,rfl⟩
 rintro y z ⟨m,h,u,Y,a,rfl⟩;have Z:=a2 l.length (av _);generalize gG l l.length=ss at q a Z;unfold ou;ext;refine⟨short (by simp),fun g J=>?_⟩;have E:aA z (upd z g (.lst [])):=au J;have r:upd z g (.lst []) g=some (.lst []):=aq;have b2:h≠g:=fun b4=>by rw[<-b4,a]at J;cases J
 have a6:H g=none:=m.free J;have a:=E _ _ a;have m:=m.trans E;generalize upd z g (.lst [])=T at r a m⊢;unfold ot;ext;refine iJ ?_;ext;refine Or.inl ⟨h,_,rfl,.inl (SqL.of a),_,rfl,by rw[dq];lia,by rw[dq];lia,?_⟩;rw[dq,aQ];refine gX dN (fun k y w=>aA H w/\w h=some (.lst (iN ss))/\∃j x a3,w g=some (.lst j)/\_root_.Q.IntKeys w j (js (rank f) ss k)/\y=[some (.ref D),some (.int f),some (.int L),some (.bl free),some (.ref h),u,some (.ref g),x,a3,none,none])
  ⟨m,a,[],none,none,r,.nil,rfl⟩ (fun _ _ _ _ _=>trivial) ?_ ?_
 ·rintro k x y A N D2 s ⟨n,a,j,x',y',r,t,rfl⟩ rfl e O _;have a:=e _ _ a;have r:=e _ _ r;have t:=K32.dY (K32.Tk.of e) t;have n:=n.trans e;have P:=K32.eX t;rw[show(js (rank f) ss k).length=k by simp[js]]at P;ext;simp only[fX];have b8:0<=31*(k:Int)*(k:Int)/\31*(k:Int)*(k:Int)<=111600:=by have h1:0<=(k:Int)*(k:Int):=Int.mul_nonneg (by lia) (by lia);have h2:(k:Int)*(k:Int)<=60*60:=Int.mul_le_mul (by lia) (by lia) (by lia) (by decide);rw[Int.mul_assoc];lia
  refine⟨Gn (by decide) (by decide),yx (by lia) (by lia),Gn (by decide) (by decide),Gn (by lia) (by lia),by decide,?_⟩;rw[show(f+1)*(31*(k:Int)*(k:Int)+17*(k:Int)+7)%10007=rank f k from rfl];unfold lX;ext;refine⟨.inl ⟨rfl,_,SqL.of r⟩,.inl ⟨h,_,k,_,rfl,rfl,SqL.of a,cC (ub s),short (by simp),fun p hp=>?_⟩⟩;generalize hX:upd N p _=B;obtain⟨d,ep⟩:=eF hX hp;clear hX;have X:=d _ _ r;refine⟨g,j,_,rfl,rfl,X,K32.xE (by lia),?_⟩;have tk:K32.Tk B (upd B g (.lst (j++[.ref p]))):=K32.sQ X;refine O _ _ ⟨dj (n.trans d) a6,?_,_,_,_,aq,?_,rfl⟩;·rw[aW b2];exact d _ _ a
  ·rw[Hi];exact K32.Paired.snoc ⟨p,rfl,tk _ _ ep⟩ (K32.dY tk (K32.dY (K32.Tk.of d) t))
 rintro y A ⟨n,a,j,x',y',r,t,rfl⟩;have P:=K32.eX t;rw[show(js (rank f) ss ss.length).length=ss.length by simp[js]]at P;unfold oq;ext;refine⟨free,rfl,?_⟩;cases free with
 |true=>rw[if_neg (by simp)];exact IZ (F:=ss) rfl n Y a Z q
 |false=>
  rw[if_pos (by simp)];refine dF ?_;ext;refine⟨g,j,_,3,rfl,SqL.of r,by simp[js];lia,Fh _ _ _,fun k s=>?_,t,fun M a9=>?_⟩;·unfold js at s;obtain⟨c5,_,rfl⟩:=aJ.mp s;rfl
  obtain⟨Q,b3,c1,a8,a0⟩:=G4 t;have e:=au (o:=.lst (_root_.Q.dJ V.non (js (rank f) ss ss.length) j)) a9;have I:upd A M (.lst (_root_.Q.dJ V.non (js (rank f) ss ss.length) j)) M=some (.lst (_root_.Q.dJ V.non (js (rank f) ss ss.length) j)):=aq;generalize _root_.Q.dJ V.non (js (rank f) ss ss.length) j=zs at e I a8 a0⊢;generalize upd A M (.lst zs)=N at e I⊢;refine⟨M,rfl,⟨_,SqL.of I⟩,d7 (eE (xs:=zs)) (K32.eU (by lia)) (fun B d=>d.seq (SqL.of I)) (fun i v _=>v=.int (Q.getD i 0:Nat)) (fun _ _ _ _ _ a7=>a7) (fun τ=>∃u,τ=[u]) ⟨none,rfl⟩ ?_ ?_⟩;·rintro i v τ B b7 hi ⟨u,rfl⟩ d hv kk;obtain⟨a4,x,a3,rfl,ea⟩:=a0 i v hv;ext;exact .inr (.inl ⟨a4,_,2,_,rfl,rfl,SqT.of (d _ _ (e _ _ ea)),rfl,kk _ _ _ ⟨_,rfl⟩ (aA.refl _) rfl⟩)
  ·intro S B b1 c4 hF d hl;have ev:S=iN Q:=by
    unfold iN;apply jf;intro i;rw[aC];by_cases hi:i<S.length;·rw[ae hi,hF i _ (ae hi),ae (by lia),af,ae (by lia)];rfl
    ·rw[bX (by lia),bX (by lia)];rfl
   rw[ev];refine⟨short (by simp),fun p hp=>?_⟩;have s6:=n.trans (e.trans d);exact q _ p b1 Q L (s6.trans ((au hl).trans (au hp))) aq (s6.free hl) (au hp _ _ aq) b3
end
end Bt
namespace Bt
open PySem R
abbrev Bo:List Str:=["_law_parents","_law_owners_here","_law_seed","_law_bits","_law_free"]
abbrev tY:List Str:=["_law_parents","_law_owners_here","_law_seed","_law_bits","_law_free","_law_first","_law_place","_law_nodes_here","_law_edge","_law_above"]
abbrev pV:CB:=
  (.cons (.ret (.var 7))
  .nil)
abbrev m3:CB:=
  (.cons (.expr (.meth1 .append (.var 7) (.bfn .tuple (.cons (.comp ["_law_k"] [9,8,1] (.name 0) (.range1 (.bfn .len (.cons (.var 1) .nil))) .no (.bin .Mod (.bin .Add (.idx (.var 1) (.var 0)) (.bfn .int (.cons (.cmp .Eq (.idx (.var 3) (.var 0)) (.var 2)) .nil))) (.con (.int 2)))) .nil))))
  .nil)
abbrev pW:CB:=
  (.cons (.forr (.name 8) (.range2 (.con (.int 1)) (.bfn .len (.cons (.var 0) .nil)))
  (.cons (.asg (.name 9) (.idx (.var 7) (.idx (.var 0) (.var 8))))
  m3))
  pV)
abbrev pX:CB:=
  (.cons (.asg (.name 7) (.lst (.cons (.bfn .tuple (.cons (.var 5) .nil)) .nil)))
  pW)
abbrev gY:CB:=
  (.cons (.asg (.name 3) (.bin .FloorDiv (.var 3) (.con (.int 2))))
  .nil)
abbrev pY:CB:=
  (.cons (.forr (.name 6) (.range1 (.bfn .len (.cons (.var 1) .nil)))
  (.cons (.expr (.meth1 .append (.var 5) (.bin .Mod (.idx (.lst (.cons (.bin .FloorDiv (.var 2) (.bin .Add (.var 6) (.con (.int 1)))) (.cons (.var 3) .nil))) (.bfn .int (.cons (.and (.var 4) (.cmp .Gt (.var 3) (.con (.int 1)))) .nil))) (.con (.int 2)))))
  gY))
  pX)
abbrev ug:CB:=
  (.cons (.asg (.name 5) (.lst .nil))
  pY)
abbrev DT:List Str:=["_law_k","_law_seed"]
abbrev vT:List Str:=["_law_k","_law_seed","_law_place","_law_word"]
abbrev rX:CB:=
  (.cons (.ret (.bin .Add (.bin .Add (.var 3) (.idx (.con (.str "xy")) (.bin .FloorDiv (.var 0) (.con (.int 25))))) (.cut (.con (.str "mmm")) (.yes (.var 2)) .no)))
  .nil)
abbrev rY:CB:=
  (.cons (.asg (.name 3) (.bin .Add (.cut (.con (.str "mmm")) .no (.yes (.var 2))) (.idx (.con (.str "abcdefghijklnopqrstuvwxyz")) (.bin .Mod (.bin .Add (.bin .Mult (.var 0) (.con (.int 7))) (.var 1)) (.con (.int 25))))))
  rX)
abbrev wR:CB:=
  (.cons (.asg (.name 2) (.bin .Mod (.var 1) (.con (.int 4))))
  rY)
end Bt
namespace Bt
open PySem PySem.Spec PyProof.Rows L2 R Cp Lt Kc
abbrev LB:Str:="abcdefghijklnopqrstuvwxyz"
abbrev nmT(pl a b:Nat):Str:=((pL "mmm" none (some (pl:Int))++(⟨#[LB.cps.toList.getD a 0]⟩:Str))++(⟨#[(aP "xy").cps.toList.getD b 0]⟩:Str))++pL "mmm" (some (pl:Int)) none
def nmT_ok:∀(pl:Fin 4)(a:Fin 25)(b:Fin 2),eO (nmT pl a b)=true:=by decide+kernel
def nmT_inj:∀(pl:Fin 4)(a:Fin 25)(b:Fin 2)(c:Fin 25)(d:Fin 2),nmT pl a b=nmT pl c d->a=c/\b=d:=by decide+kernel
abbrev nmB(a:Int)(k:Nat):Str:=nmT (a%4).toNat (((k:Int)*7+a)%25).toNat (k/25)
def mG{m:Int}(n:Nat)(h:0<n):∃z:Nat,m%(n:Int)=(z:Int)/\z<n:=by obtain⟨z,a⟩:=cP (dw m (by lia:(n:Int)≠0));have :=cW m (by lia:(0:Int)<(n:Int));exact⟨z,a,by lia⟩
def nmB_ok{b:Int}(h:k<50):eO (nmB b k)=true:=by obtain⟨p,hp,e⟩:=mG (m:=b) 4 (by decide);obtain⟨a,c,d⟩:=mG (m:=(k:Int)*7+b) 25 (by decide);unfold nmB;rw[show(4:Int)=((4:Nat):Int)from rfl,show(25:Int)=((25:Nat):Int)from rfl,hp,c];exact nmT_ok ⟨p,e⟩ ⟨a,d⟩ ⟨k/25,by lia⟩
def nmB_inj{c:Int}(hi:i<50)(r:j<50)(h:nmB c i=nmB c j):i=j:=by obtain⟨p,hp,n⟩:=mG (m:=c) 4 (by decide);obtain⟨a,f,k⟩:=mG (m:=(i:Int)*7+c) 25 (by decide);obtain⟨b,g,l⟩:=mG (m:=(j:Int)*7+c) 25 (by decide);unfold nmB at h;rw[show(4:Int)=((4:Nat):Int)from rfl,show(25:Int)=((25:Nat):Int)from rfl,hp,f,g]at h;obtain⟨d,e⟩:=nmT_inj ⟨p,n⟩ ⟨a,k⟩ ⟨i/25,by lia⟩ ⟨b,l⟩ ⟨j/25,by lia⟩ h;have d:a=b:=congrArg Fin.val d;have e:i/25=j/25:=congrArg Fin.val e;have o:((i:Int)*7+c)%25=(a:Int):=f;have q:((j:Int)*7+c)%25=(b:Int):=g;lia
def spNm:Sp:=fun vs H Q _=>∃(k:Nat)(a:Int),vs=[.int k,.int a]/\k<50/\Q (.str (nmB a k)) H
def lb_len:LB.cps.toList.length=25:=by decide+kernel
def lb_len':LB.length<=sizeLine:=by decide+kernel
def cut3:∀pl:Fin 4,(pL "mmm" none (some (pl.val:Int))).length<=3/\(pL "mmm" (some (pl.val:Int)) none).length<=3:=by decide+kernel
theorem Bw(c:Nat):(⟨#[c]⟩:Str).length=1:=rfl
def wp_nm:Sat G K spNm wR vT:=by
 rintro o H Q E ⟨k,b,rfl,n,q⟩;unfold wR;change wpB G K _ _ _ [some (.int k),some (.int b),none,none] H;ext;refine⟨by decide,?_⟩;obtain⟨p,hp,i⟩:=mG (m:=b) 4 (by decide);obtain⟨a,c,l⟩:=mG (m:=(k:Int)*7+b) 25 (by decide);have hp:b%4=(p:Int):=hp;have c:((k:Int)*7+b)%25=(a:Int):=c;unfold nmB at q;rw[hp,c,aQ,aQ]at q;rw[hp];obtain⟨d,e⟩:=cut3 ⟨p,i⟩;have d:(pL (aP "mmm") none (some (p:Int))).length<=3:=d;have e:(pL (aP "mmm") (some (p:Int)) none).length<=3:=e;unfold rY;ext;refine⟨by decide+kernel,yx (by decide) (by decide),by decide,?_⟩;rw[c];have g:LB.cps.toList[a]? =some (LB.cps.toList.getD a 0):=by rw[af,ae (by rw[lb_len];lia)];rfl
 refine⟨_,lb_len',cC g,?_⟩;refine⟨short (by rw[Bw];lia),?_⟩;unfold rX;ext;refine⟨⟨by decide,by decide⟩,?_⟩;have h:(k:Int)/25=((k/25:Nat):Int):=by lia
 have j:(aP "xy").cps.toList[k/25]? =some ((aP "xy").cps.toList.getD (k/25) 0):=by
  have f:(aP "xy").cps.toList.length=2:=by decide+kernel
  rw[af,ae (by rw[f];lia)];rfl
 rw[h];refine⟨_,by decide+kernel,cC j,short (by rw[mJ,Bw,Bw];lia),by decide+kernel,short (by rw[mJ,mJ,Bw,Bw];lia),?_⟩;exact q
end Bt
namespace Bt
open PySem PySem.Spec PyProof.Rows L2 R Cp Lt Kc Mt
noncomputable abbrev fn(ks:List Nat):Nat->Nat:=fun i=>ks.getD i 0
def y8:Sp:=fun vs H Q _=>∃(a lo:Addr)(c b:Int)(free:Bool)(ps os:List Nat),vs=[.ref a,.ref lo,.int c,.int b,.bl free]/\H a=some (.lst (iN ps))/\H lo=some (.lst (iN os))/\1<=ps.length/\ps.length<=31/\os.length<=60/\(∀v,1<=v->v<ps.length->ps.getD v 0<v)/\
 ∀(H':Hp)(nl:Addr)(ys:List V)(f:Nat->Int),aA H H'->H nl=none->H' nl=some (.lst ys)->(∀p,p<os.length->f p=0\/f p=1)->_root_.Q.IntKeys H' ys ((aE ps.length).map (nd f (fn os) (fn ps) os.length))->Q (.ref nl) H'
section
variable {G:Gam}
def nd_zero{fs:List Int}{own par:Nat->Nat}:nd (fun p=>fs.getD p 0) own par fs.length 0=fs:=by
 unfold nd;apply bR;·simp
 ·intro i b a;rw[bQ,uy,Kd,af,ae a];rfl
theorem Ja:Sat G K y8 ug tY:=by
 rintro vs H c2 a4 ⟨E,lo,O,y,free,d,c,rfl,ea,X,c5,c6,c4,b1,c0⟩;unfold ug;change wpB G K _ _ _ [some (.ref E),some (.ref lo),some (.int O),some (.int y),some (.bl free),none,none,none,none,none] H;ext;refine⟨short (by simp),fun g b0=>?_⟩;have s1:aA H (upd H g (.lst [])):=au b0;have A:upd H g (.lst []) g=some (.lst (([]:List Int).map V.int)):=aq;generalize upd H g (.lst [])=B at s1 A⊢;unfold pY;ext;refine iJ ?_;ext;refine Or.inl ⟨lo,_,rfl,.inl (SqL.of (s1 _ _ X)),_,rfl,by rw[dq];lia,by rw[dq];lia,?_⟩;rw[dq,aQ];refine gX dN (fun k F I=>aA H I/\∃(fs:List Int)(y:Int)(u:Option V),I g=some (.lst (fs.map V.int))/\fs.length=k/\(∀x∈fs,x=0\/x=1)/\F=[some (.ref E),some (.ref lo),some (.int O),some (.int y),some (.bl free),some (.ref g),u,none,none,none])
  ⟨s1,[],y,none,A,rfl,(fun x hx=>by cases hx),rfl⟩ (fun _ _ _ _ _=>trivial) ?_ ?_
 ·rintro k x F C H3 T hk ⟨J,fs,y,u,A,a0,Z,rfl⟩ rfl Q Y _;have A:=Q _ _ A;have J:=J.trans Q;ext;simp only[fX];refine⟨.inl ⟨rfl,_,SqL.of A⟩,⟨by lia,by lia⟩,short (by simp),fun b hb=>?_⟩;generalize hX:upd H3 b _=M;obtain⟨L,eb⟩:=eF hX hb;clear hX;have w:=J.trans L;have b6:=L _ _ A;have b5:∀z:Int,rMm .append (V.ref g) [V.int (z%2)] M fun _ B=>wpB G K (fun _=>a4) gY T [some (.ref E),some (.ref lo),some (.int O),some (.int y),some (.bl free),some (.ref g),some (.int k),none,none,none] B:=fun z=>by
   refine⟨g,_,_,rfl,rfl,b6,K32.xE (by rw[ai];lia),?_⟩;rw[show fs.map V.int++[V.int (z%2)]=(fs++[z%2]).map V.int by simp];unfold gY;ext;refine⟨⟨by decide,by decide⟩,Y _ _ ⟨dj w b0,fs++[z%2],_,_,aq,by simp[a0],fun x hx=>?_,rfl⟩⟩;rcases cV.mp hx with hx|hx;·exact Z x hx
   ·rw[aS.mp hx];lia
  have b4:∀W:Bool,rBf K .int [V.bl W] M (fun a3 C=>rIx K (V.ref b) a3 C fun x B=>uF K Operator.Mod x (V.int 2) B fun x B=>rMm .append (V.ref g) [x] B fun _ B=>wpB G K (fun _=>a4) gY T [some (.ref E),some (.ref lo),some (.int O),some (.int y),some (.bl free),some (.ref g),some (.int k),none,none,none] B):=fun W=>by
   cases W with
   |true=>exact .inr ⟨true,rfl,.inl ⟨b,_,1,_,rfl,rfl,SqL.of eb,rfl,iZ.mpr ⟨by decide,b5 _⟩⟩⟩
   |false=>exact .inr ⟨false,rfl,.inl ⟨b,_,0,_,rfl,rfl,SqL.of eb,rfl,iZ.mpr ⟨by decide,b5 _⟩⟩⟩
  split;·exact b4 _
  ·exact b4 _
 rintro F C ⟨J,fs,y,u,A,a0,Z,rfl⟩;have hf:∀p,p<c.length->fs.getD p 0=0\/fs.getD p 0=1:=fun p hp=>by rw[af,ae (by lia)];exact Z _ (a6 _)
 unfold pX;ext;refine⟨g,_,rfl,.inl ⟨SqL.of A,fun l b2=>⟨short (by simp),fun i a1=>?_⟩⟩⟩;have Q:aA C (upd (upd C l (.tup (fs.map V.int))) i (.lst [.ref l])):=(au b2).trans (au a1);have a7:upd (upd C l (.tup (fs.map V.int))) i (.lst [.ref l]) l=some (.tup (fs.map V.int)):=au a1 _ _ aq;have s:upd (upd C l (.tup (fs.map V.int))) i (.lst [.ref l]) i=some (.lst [.ref l]):=aq;have a9:H i=none:=(J.trans (au b2)).free a1;have L:=J.trans Q;generalize upd (upd C l (.tup (fs.map V.int))) i (.lst [.ref l])=H3 at a7 s L⊢;have hz:nd (fun p=>fs.getD p 0) (fn c) (fn d) c.length 0=fs:=by rw[<-a0];exact nd_zero
 unfold pW;ext;refine iJ ?_;ext;refine Or.inl ⟨E,_,rfl,.inl (SqL.of (L _ _ ea)),?_⟩;rw[dq];refine⟨_,_,rfl,⟨by lia,by lia,by lia,by lia⟩,?_⟩;refine gX dN (fun m F I=>aA H I/\∃(q:List V)(x a3:Option V),I i=some (.lst q)/\_root_.Q.IntKeys I q ((aE (m+1)).map (nd (fun p=>fs.getD p 0) (fn c) (fn d) c.length))/\F=[some (.ref E),some (.ref lo),some (.int O),some (.int y),some (.bl free),some (.ref g),u,some (.ref i),x,a3])
  ⟨L,[.ref l],none,none,s,.cons ⟨l,rfl,by rw[hz];exact a7⟩ .nil,rfl⟩ (fun _ _ _ _ _=>trivial) ?_ ?_
 ·rintro m x F M H5 T hm ⟨w,q,x',y',s,D,rfl⟩ rfl s6 Y _;have s:=s6 _ _ s;have D:=K32.dY (K32.Tk.of s6) D;have w:=w.trans s6;have b9:=K32.eX D;rw[ai,aY]at b9;have hv:m+1<d.length:=by lia
  have ev:(1:Int)+(m:Int)=((m+1:Nat):Int):=by lia
  rw[ev];generalize hvv:m+1=v at *;have b8:=b1 v (by lia) hv;ext;refine .inl ⟨E,_,v,_,rfl,rfl,SqL.of (w _ _ ea),cC (ub hv),?_⟩
  --the parent's readings
  have at_:∀{q:List V}{P:List (List Int)},_root_.Q.IntKeys H5 q P->∀j,j<P.length->∃a,q[j]? =some (V.ref a)/\H5 a=some (.tup ((P.getD j []).map V.int)):=by
   intro q P h
   induction h with
   |nil=>intro j hj;exact absurd hj (dv _)
   |cons r t ih=>
    intro j hj;cases j with
    |zero=>obtain⟨a,rfl,f⟩:=r;exact⟨a,rfl,f⟩
    |succ j=>exact ih j (by simpa using hj)
  obtain⟨ra,b7,a8⟩:=at_ D (d.getD v 0) (by rw[ai,aY];lia);have ek:((aE v).map (nd (fun p=>fs.getD p 0) (fn c) (fn d) c.length)).getD (d.getD v 0) []=nd (fun p=>fs.getD p 0) (fn c) (fn d) c.length (d.getD v 0):=by rw[af,aC,cn b8];rfl
  rw[ek]at a8;refine .inl ⟨i,_,d.getD v 0,_,rfl,rfl,SqL.of s,cC b7,?_⟩;unfold m3;ext;refine⟨.inl ⟨rfl,_,SqL.of s⟩,?_⟩;refine dF ?_;ext;refine Or.inl ⟨lo,_,rfl,.inl (SqL.of (w _ _ X)),_,rfl,by rw[dq];lia,by rw[dq];lia,?_⟩;rw[dq,aQ];refine d7 dN (K32.eU (by lia)) (fun _ _=>trivial) (fun p c1 _=>c1=.int (rdv (fun p=>fs.getD p 0) (fn c) (fn d) v p)) (fun _ _ _ _ _ h=>h) (fun τ=>∃u,τ=[u,some (.ref ra),some (.int v),some (.ref lo)]) ⟨none,rfl⟩ ?_ ?_
  ·rintro p x τ U c3 hp ⟨u,rfl⟩ R rfl kk;ext;simp only[fX];refine .inr (.inl ⟨ra,_,p,_,rfl,rfl,SqT.of (R _ _ a8),cC (K32.gW (by rw[td];exact hp)),?_⟩);rw[zP hp];refine .inl ⟨lo,_,p,_,rfl,rfl,SqL.of (R _ _ (w _ _ X)),cC (ub hp),?_⟩;refine jD.mpr (.inr ⟨_,rfl,?_⟩);refine wY.mpr (iZ.mpr ⟨by decide,kk _ _ _ ⟨_,rfl⟩ (aA.refl _) ?_⟩);have e:=Kf (f:=fun p=>fs.getD p 0) (own:=fn c) (par:=fn d) (n:=c.length) (N:=d.length) b1 hf (v:=v) (p:=p) (by lia) hv hp;rw[<-e];by_cases h:c.getD p 0=v;·rw[decide_eq_true (by lia:((c.getD p 0:Nat):Int)=(v:Int)),if_pos rfl,if_pos h]
   ·rw[decide_eq_false (by lia:¬((c.getD p 0:Nat):Int)=(v:Int)),if_neg ao,if_neg h]
  ·intro vs U a2 c7 hF R hl;have e:vs=(nd (fun p=>fs.getD p 0) (fn c) (fn d) c.length v).map V.int:=by
    unfold nd;apply jf;intro b3;rw[aC,aC];by_cases hi:b3<vs.length;·rw[ae hi,cn (by lia),hF b3 _ (ae hi)];rfl
    ·rw[bX (by lia),bX (by rw[aY];lia)];rfl
   rw[e];refine⟨a2,_,rfl,.inl ⟨SqL.of aq,fun r hr=>?_⟩⟩;have S:=R.trans ((au (o:=.lst ((nd (fun p=>fs.getD p 0) (fn c) (fn d) c.length v).map V.int)) hl).trans (au (o:=.tup ((nd (fun p=>fs.getD p 0) (fn c) (fn d) c.length v).map V.int)) hr));have er:upd (upd U a2 (.lst ((nd (fun p=>fs.getD p 0) (fn c) (fn d) c.length v).map V.int))) r (.tup ((nd (fun p=>fs.getD p 0) (fn c) (fn d) c.length v).map V.int)) r=some (.tup ((nd (fun p=>fs.getD p 0) (fn c) (fn d) c.length v).map V.int)):=aq;generalize upd (upd U a2 (.lst ((nd (fun p=>fs.getD p 0) (fn c) (fn d) c.length v).map V.int))) r (.tup ((nd (fun p=>fs.getD p 0) (fn c) (fn d) c.length v).map V.int))=H7 at S er⊢;have a5:=S _ _ s;refine⟨i,q,_,rfl,rfl,a5,K32.xE (by lia),?_⟩;have tk:K32.Tk H7 (upd H7 i (.lst (q++[.ref r]))):=K32.sQ a5;refine Y _ _ ⟨dj (w.trans S) a9,_,_,_,aq,?_,rfl⟩;rw[kA,cH];exact K32.Paired.snoc ⟨r,rfl,tk _ _ er⟩ (K32.dY tk (K32.dY (K32.Tk.of S) D))
 rintro F M ⟨w,q,x',y',s,D,rfl⟩;unfold pV;ext;refine c0 M i q (fun p=>fs.getD p 0) w a9 s hf ?_;have e:((d.length:Int)-1).toNat+1=d.length:=by lia
 rw[e]at D;exact D
end
end Bt
namespace Bm
open Mt
section
variable {par:Nat->Nat}{N:Nat}(hp:∀v,1<=v->v<N->par v<v)
abbrev kids(par:Nat->Nat)(N v:Nat):List Nat:=(aE N).filter fun u=>decide (1<=u/\par u=v)
abbrev near(par:Nat->Nat)(N v:Nat):Nat:=(kids par N v).length+if v=0 then 0 else 1
include hp
end
end Bm
namespace Bt
open PySem R
abbrev zD:List Str:=["_law_parents","_law_nodes_here","_law_seed","_law_left","_law_free"]
abbrev rA:List Str:=["_law_parents","_law_nodes_here","_law_seed","_law_left","_law_free","_law_table","_law_number","_law_lost","_law_like","_law_near"]
abbrev oB:CB:=
  (.cons (.ret (.var 5))
  .nil)
abbrev l7:CB:=
  (.cons (.expr (.meth1 .append (.var 5) (.tup (.cons (.call "_law_name" (.cons (.bfn .len (.cons (.var 5) .nil)) (.cons (.var 2) .nil))) (.cons (.idx (.var 1) (.var 6)) .nil)))))
  .nil)
abbrev l8:CB:=
  (.cons (.iff (.and (.cmp .Eq (.var 8) (.con (.int 0))) (.cmp .Lt (.bfn .len (.cons (.var 5) .nil)) (.bin .Add (.bin .Sub (.con (.int 40)) (.bfn .len (.cons (.var 1) .nil))) (.var 6))))
  l7
  .nil)
  .nil)
abbrev i4:CB:=
  (.cons (.expr (.meth1 .append (.var 5) (.tup (.cons (.call "_law_name" (.cons (.bfn .len (.cons (.var 5) .nil)) (.cons (.var 2) .nil))) (.cons (.idx (.var 1) (.var 6)) .nil)))))
  l8)
abbrev l9:CB:=
  (.cons (.iff (.and (.cmp .Gt (.var 9) (.con (.int 2))) (.cmp .Eq (.var 7) (.con (.int 0))))
  (.cons (.cont)
  .nil)
  .nil)
  i4)
abbrev gy:CB:=
  (.cons (.asg (.name 9) (.bin .Add (.bfn .len (.cons (.comp ["_law_one"] [6] (.name 0) (.seq (.cut (.var 0) (.yes (.con (.int 1))) .no)) (.yes (.cmp .Eq (.var 0) (.var 1))) (.var 0)) .nil)) (.bfn .int (.cons (.cmp .Gt (.var 6) (.con (.int 0))) .nil))))
  l9)
abbrev ku:CB:=
  (.cons (.asg (.name 3) (.bin .FloorDiv (.var 3) (.con (.int 10))))
  .nil)
abbrev hW:CB:=
  (.cons (.asg (.name 8) (.bin .Mod (.bin .FloorDiv (.var 3) (.con (.int 2))) (.con (.int 5))))
  ku)
abbrev ma:CB:=
  (.cons (.iff (.and (.var 4) (.cmp .GtE (.var 3) (.con (.int 10))))
  (.cons (.asg (.name 7) (.bin .Mod (.var 3) (.con (.int 2))))
  hW)
  .nil)
  gy)
abbrev me:CB:=
  (.cons (.asg (.name 8) (.bin .Mod (.bin .FloorDiv (.var 2) (.bin .Add (.var 6) (.con (.int 5)))) (.con (.int 5))))
  ma)
abbrev oE:CB:=
  (.cons (.forr (.name 6) (.range1 (.bfn .len (.cons (.var 1) .nil)))
  (.cons (.asg (.name 7) (.bin .Mod (.bin .FloorDiv (.var 2) (.bin .Add (.var 6) (.con (.int 3)))) (.con (.int 2))))
  me))
  oB)
abbrev rZ:CB:=
  (.cons (.asg (.name 5) (.lst .nil))
  oE)
abbrev Br:List Str:=["_law_script","_law_start"]
abbrev t7:List Str:=["_law_script","_law_start","_law_parents","_law_many","_law_free","_law_seed","_law_owners_here","_law_left","_law_cell","_law_nodes_here","_law_branches","_law_edge","_law_pair","_law_places","_law_table","_law_at"]
abbrev oF:CB:=
  (.cons (.ret (.tup (.cons (.bin .Add (.cut (.var 14) (.yes (.var 15)) .no) (.cut (.var 14) .no (.yes (.var 15)))) (.cons (.bfn .sortl (.cons (.var 9) .nil)) (.cons (.bfn .sortt (.cons (.var 10) .nil)) .nil)))))
  .nil)
abbrev oG:CB:=
  (.cons (.asg (.name 15) (.bin .Mod (.bin .FloorDiv (.var 5) (.con (.int 11))) (.bfn .len (.cons (.var 14) .nil))))
  oF)
abbrev qb:CB:=
  (.cons (.asg (.name 14) (.call "_law_copies" (.cons (.var 2) (.cons (.var 9) (.cons (.var 5) (.cons (.var 7) (.cons (.var 4) .nil)))))))
  oG)
abbrev m8:CB:=
  (.cons (.expr (.meth1 .append (.var 10) (.tup (.cons (.idx (.var 12) (.con (.int 0))) (.cons (.idx (.var 12) (.con (.int 1))) (.cons (.bfn .tuple (.cons (.var 13) .nil)) .nil))))))
  .nil)
abbrev m9:CB:=
  (.cons (.asgc 13 (.comp ["_law_place"] [11,6] (.name 0) (.range1 (.bfn .len (.cons (.var 6) .nil))) (.yes (.cmp .Eq (.idx (.var 2) (.var 0)) (.var 1))) (.var 0)))
  m8)
abbrev qd:CB:=
  (.cons (.forr (.name 11) (.range2 (.con (.int 1)) (.bfn .len (.cons (.var 2) .nil)))
  (.cons (.asg (.name 12) (.bfn .sortl (.cons (.lst (.cons (.idx (.var 9) (.var 11)) (.cons (.idx (.var 9) (.idx (.var 2) (.var 11))) .nil))) .nil)))
  m9))
  qb)
abbrev qe:CB:=
  (.cons (.asg (.name 10) (.lst .nil))
  qd)
abbrev qf:CB:=
  (.cons (.asg (.name 9) (.call "_law_nodes" (.cons (.var 2) (.cons (.var 6) (.cons (.call "_law_mixed" (.cons (.var 8) (.cons (.con (.int 2)) .nil))) (.cons (.bin .FloorDiv (.var 8) (.con (.int 7))) (.cons (.var 4) .nil)))))))
  qe)
abbrev qg:CB:=
  (.cons (.asg (.name 8) (.call "_law_cell_at" (.cons (.var 0) (.cons (.con (.int 1)) .nil))))
  qf)
abbrev qh:CB:=
  (.cons (.asg (.tup (.cons (.name 6) (.cons (.name 7) .nil))) (.call "_law_owners" (.cons (.var 3) (.cons (.bin .Mod (.var 5) (.con (.int 10007))) (.cons (.bin .FloorDiv (.call "_law_cell_at" (.cons (.var 0) (.cons (.con (.int 0)) .nil))) (.con (.int 98))) (.cons (.var 4) .nil))))))
  qg)
abbrev qi:CB:=
  (.cons (.asg (.name 5) (.call "_law_mixed" (.cons (.call "_law_cell_at" (.cons (.var 0) (.cons (.con (.int 0)) .nil))) (.cons (.con (.int 1)) .nil))))
  qh)
abbrev qj:CB:=
  (.cons (.asg (.name 4) (.cmp .Eq (.bin .Mod (.call "_law_cell_at" (.cons (.var 0) (.cons (.con (.int 0)) .nil))) (.con (.int 2))) (.con (.int 1))))
  qi)
abbrev um:CB:=
  (.cons (.asg (.tup (.cons (.name 2) (.cons (.name 3) .nil))) (.call "_law_grown" (.cons (.var 0) (.cons (.var 1) .nil))))
  qj)
end Bt
namespace Bt
open PySem PySem.Spec PyProof.Rows L2 R Cp Lt Kc Mt
structure Cb(H:Hp)(seed:Int)(ys:List V)(N:Nat)(vv:List Nat)(cs:List V):Prop where
 len:cs.length=vv.length
 at_:∀(i:Nat) c,cs[i]? =some c->∃b,c=.ref b/\H b=some (.tup [.str (nmB seed i),ys.getD (vv.getD i 0) .non])
 lt:∀v∈vv,v<N
def Cb.tk{a:Int}{N:Nat}{vv:List Nat}(d:Cb H a ys N vv cs)(t:K32.Tk H H'):Cb H' a ys N vv cs:=
 {d with at_:=fun i c e=>let⟨b,h1,h2⟩:=d.at_ i c e;⟨b,h1,t _ _ h2⟩}
def Cb.snoc{a:Int}{N:Nat}{vv:List Nat}{v:Nat}(d:Cb H a ys N vv cs)(f:H b=some (.tup [.str (nmB a cs.length),ys.getD v .non]))(h:v<N):Cb H a ys N (vv++[v]) (cs++[.ref b]):=by
 refine⟨by simp[d.len],fun i c e=>?_,fun w hw=>?_⟩
 ·rw[getD_snoc];by_cases hi:i<cs.length;·rw[cB hi]at e;rw[if_pos (by rw[<-d.len];exact hi)];exact d.at_ i c e
  ·rw[bU (by lia)]at e;have g:i=cs.length:=by have :=(aH.mp e).1;simp at this;lia
   subst g;rw[d.len,if_neg (dH _),if_pos rfl];simp at e;subst e;rw[<-d.len];exact⟨b,rfl,f⟩
 ·rcases cV.mp hw with hw|hw;·exact d.lt w hw
  ·rw[aS.mp hw];exact h
def vA:Sp:=fun vs H Q _=>∃(a nl:Addr)(b d:Int)(free:Bool)(ps:List Nat)(ys:List V),vs=[.ref a,.ref nl,.int b,.int d,.bl free]/\H a=some (.lst (iN ps))/\H nl=some (.lst ys)/\ys.length=ps.length/\1<=ps.length/\ps.length<=31/\(∀v,1<=v->v<ps.length->ps.getD v 0<v)/\
 ∀(H':Hp)(t:Addr)(cs:List V)(c:List Nat),aA H H'->H t=none->H' t=some (.lst cs)->cs.length<=40->cs≠[]->Cb H' b ys ps.length c cs->(∀v,v<ps.length->Bm.near (fn ps) ps.length v<=2->v∈c)->Q (.ref t) H'
noncomputable abbrev putE:CE:=.meth1 .append (.var 5) (.tup (.cons (.call "_law_name" (.cons (.bfn .len (.cons (.var 5) .nil)) (.cons (.var 2) .nil))) (.cons (.idx (.var 1) (.var 6)) .nil)))
section
variable {G:Gam}{E:XS}
def Kn(g:G.fn "_law_name" 2=some (spNm,[])){t:Addr}{h:Int}{vv:List Nat}{N:Nat}{a d e f x y:Option V}{Q:VK}(o:H t=none)(s:aA H H1)(j:H1 t=some (.lst cs))(k:H1 nl=some (.lst ys))(hi:i<ys.length)(v:ys.length=N)(w:cs.length<40)(m:Cb H1 h ys N vv cs)
  (q:∀H2 b,aA H H2->H2 t=some (.lst (cs++[.ref b]))->H2 nl=some (.lst ys)->Cb H2 h ys N (vv++[i]) (cs++[.ref b])->Q .non H2)(u:t≠nl):
  wpE G K E putE [a,some (.ref nl),some (.int h),d,e,some (.ref t),some (.int i),f,x,y] H1 Q:=by
 ext;refine⟨.inl ⟨rfl,_,SqL.of j⟩,_,_,g,Or.inl ⟨t,cs,rfl,.inl (SqL.of j),?_⟩⟩;refine⟨cs.length,h,rfl,by lia,?_⟩;have r:ys[i]? =some (ys.getD i .non):=by rw[af,ae hi];rfl
 refine .inl ⟨nl,ys,i,_,rfl,rfl,SqL.of k,cC r,short (by simp),fun b p=>?_⟩;generalize hX:upd H1 b _=H2;obtain⟨c,n⟩:=eF hX p;clear hX;have l:=c _ _ j;refine⟨t,cs,_,rfl,rfl,l,K32.xE (by lia),?_⟩;have tk:K32.Tk H2 (upd H2 t (.lst (cs++[.ref b]))):=K32.sQ l;refine q _ b (dj (s.trans c) o) aq ?_ ((m.tk (K32.Tk.of c)).tk tk |>.snoc (tk _ _ n) (by lia));rw[aW (bE u)];exact c _ _ k
def LH{ps:List Nat}(e:1<=ps.length):((iN (ps.drop 1)).filter fun v=>match v with |.int j=>decide (j=(i:Int)) |_=>false).length=(Bm.kids (fn ps) ps.length i).length:=by
 have c:iN (ps.drop 1)=(aE (ps.length-1)).map fun m=>V.int ((ps.getD (m+1) 0:Nat):Int):=by
  unfold iN;apply bR;·simp
  ·intro j a b;simp only[ai,cZ]at a;simp only[bQ,List.getElem_drop,uy];rw[af,ae (by lia)];congr 2;simp only[Option.getD_some];congr 1;lia
 have d:aE ps.length=0::(aE (ps.length-1)).map Nat.succ:=by
  conv =>lhs;rw[show ps.length=(ps.length-1)+1 by lia]
  exact GJ
 unfold Bm.kids;rw[c,d,xr,if_neg (by simp),kC,kC,ai,ai];congr 1;refine List.filter_congr fun m _=>?_;show decide (((ps.getD (m+1) 0:Nat):Int)=(i:Int))=decide (1<=m.succ/\fn ps m.succ=i);rw[eB,decide_eq_true_eq,decide_eq_true_eq];constructor;·intro h;exact⟨by lia,by show ps.getD (m+1) 0=i;lia⟩
 ·rintro⟨_,h⟩;have h:ps.getD (m+1) 0=i:=h;lia
def GY(g:G.fn "_law_name" 2=some (spNm,[])):Sat G K vA rZ rA:=by
 rintro vs H c0 E ⟨r,f,p,n,free,c,J,rfl,ea,B,S,b7,c5,b8,b9⟩;unfold rZ;change wpB G K _ _ _ [some (.ref r),some (.ref f),some (.int p),some (.int n),some (.bl free),none,none,none,none,none] H;ext;refine⟨short (by simp),fun t w=>?_⟩;have U:aA H (upd H t (.lst [])):=au w;have l:upd H t (.lst []) t=some (.lst []):=aq;have a5:t≠f:=fun z=>by rw[z,B]at w;cases w
 generalize upd H t (.lst [])=H1 at U l⊢;unfold oE;ext;refine iJ ?_;ext;refine Or.inl ⟨f,_,rfl,.inl (SqL.of (U _ _ B)),_,rfl,by lia,by lia,?_⟩;rw[S,aQ];refine K32.B7 dN (fun i σ L=>aA H L/\∃(cs:List V)(vv:List Nat)(n:Int)(u a7 a8 z:Option V),L t=some (.lst cs)/\Cb L p J c.length vv cs/\cs.length+c.length<=40+i/\(i=c.length->cs≠[])/\(∀v,v<i->Bm.near (fn c) c.length v<=2->v∈vv)/\σ=[some (.ref r),some (.ref f),some (.int p),some (.int n),some (.bl free),some (.ref t),u,a7,a8,z])
  ⟨U,[],[],n,none,none,none,none,l,⟨rfl,fun i c1 b0=>by simp at b0,fun v d=>by cases d⟩,by simp;lia,(fun h=>by lia),(fun v d=>absurd d (dv _)),rfl⟩ (fun _ _ _ _ _=>trivial) ?_ ?_
 ·rintro i a7 σ H2 M q hi ⟨s,cs,vv,n,u,x',y',Z,l,x,b4,_,C,rfl⟩ rfl W hD hC;have l:=W _ _ l;have x:=x.tk (K32.Tk.of W);have s:=s.trans W;have c2:=s _ _ B
  --the last ac,whatever was drawn
  have T:∀(D ls y:Int),wpB G K (fun _=>E) gy q [some (.ref r),some (.ref f),some (.int p),some (.int D),some (.bl free),some (.ref t),some (.int i),some (.int ls),some (.int y),Z] M:=by
   intro D ls y;unfold gy;ext;have ec:lq (iN c) (some 1) none=iN (c.drop 1):=by unfold lq iN;rw[HT.vE,show HT.sIx (c.map fun k:Nat=>V.int (k:Int)).length 0 (some 1)=min 1 (c.map fun k:Nat=>V.int (k:Int)).length from HT.qT _ _ 1,ai,show min 1 c.length=1 by lia,jc (by simp),List.map_drop]
   refine dF ⟨_,rfl,_,rfl,.inl ⟨r,_,rfl,SqL.of (s _ _ ea),fun a4 hl=>.inl ⟨a4,rfl,⟨_,SqL.of aq⟩,?_⟩⟩⟩;rw[ec];generalize hX:upd M a4 _=H4;obtain⟨X,el⟩:=eF hX hl;clear hX;refine tI (eE (xs:=iN (c.drop 1))) (K32.eU (by rw[dq,cZ];lia)) (fun A F=>F.seq (SqL.of el)) (fun v=>match v with |.int j=>decide (j=(i:Int)) |_=>false) id (fun τ=>∃u,τ=[u,some (.int i)]) ⟨none,rfl⟩ ?_ ?_
   ·rintro a8 τ A Rt Rf hy ⟨u,rfl⟩ F kt kf;unfold iN at hy;obtain⟨j,_,rfl⟩:=aJ.mp hy;ext;by_cases h:(j:Int)=(i:Int);·rw[decide_eq_true h,if_pos rfl];exact kt _ _ ⟨_,rfl⟩ (aA.refl _) (decide_eq_true h)
    ·rw[decide_eq_false h,if_neg ao];exact kf _ _ ⟨_,rfl⟩ (aA.refl _) (decide_eq_false h)
   intro A l2 F b5;have R:((iN (c.drop 1)).filter fun v=>match v with |.int j=>decide (j=(i:Int)) |_=>false).length<=30/\(i+1=c.length->((iN (c.drop 1)).filter fun v=>match v with |.int j=>decide (j=(i:Int)) |_=>false)=[])/\((iN (c.drop 1)).filter fun v=>match v with |.int j=>decide (j=(i:Int)) |_=>false).length=(Bm.kids (fn c) c.length i).length:=by
    refine⟨?_,?_,LH b7⟩;·refine aF (gw _ _) ?_;rw[dq,cZ];lia
    ·intro hN;rw[List.filter_eq_nil_iff];intro v d;unfold iN at d;obtain⟨j,hj,rfl⟩:=aJ.mp d;obtain⟨m,hm,rfl⟩:=d5.mp hj;rw[cZ]at hm;have :=b8 (1+m) (by lia) (by lia);rw[List.getElem_drop];rw[af,ae (by lia)]at this;have this:c[1+m]<1+m:=this;show ¬decide (((c[1+m]:Nat):Int)=(i:Int))=true;rw[decide_eq_true_eq];lia
   rw[xQ];generalize((iN (c.drop 1)).filter fun v=>match v with |.int j=>decide (j=(i:Int)) |_=>false)=fl at R;have Y:=F.trans (au (o:=.lst fl) b5);have a2:upd A l2 (.lst fl) l2=some (.lst fl):=aq;have P:=Y _ _ (X _ _ l);have O:=(x.tk (K32.Tk.of X)).tk (K32.Tk.of Y);have I:=s.trans (X.trans Y);generalize upd A l2 (.lst fl)=H6 at a2 P O I⊢;refine Or.inl ⟨l2,_,rfl,.inl (SqL.of a2),?_⟩;refine .inr ⟨_,rfl,wY.mpr ?_⟩;unfold l9;ext;have b1:=I _ _ B
   --a copy is put
   have put:wpB G K (fun _=>E) i4 q [some (.ref r),some (.ref f),some (.int p),some (.int D),some (.bl free),some (.ref t),some (.int i),some (.int ls),some (.int y),some (.int ((fl.length:Int)+if decide (0<(i:Int))=true then 1 else 0))] H6:=by
    unfold i4;refine Kn (N:=c.length) (vv:=vv) g w I P b1 (by lia) S (by lia) O (fun H7 b s8 Q a3 a0=>?_) a5;unfold l8;ext;have a6:∀v,v<i+1->Bm.near (fn c) c.length v<=2->v∈vv++[i]:=fun v d e=>by
     rcases EW.mp d with h|h;·exact cz _ (C v h e)
     ·rw[h];simp
    have a1:q.nx [some (.ref r),some (.ref f),some (.int p),some (.int D),some (.bl free),some (.ref t),some (.int i),some (.int ls),some (.int y),some (.int ((fl.length:Int)+if decide (0<(i:Int))=true then 1 else 0))] H7:=hD _ _ ⟨s8,_,_,_,_,_,_,_,Q,a0,by simp;lia,(fun _=>by simp),a6,rfl⟩;by_cases h0:y=0
    ·rw[decide_eq_true h0,if_pos rfl];refine Or.inl ⟨t,_,rfl,.inl (SqL.of Q),Or.inl ⟨f,J,rfl,.inl (SqL.of a3),?_⟩⟩;refine JD.mpr (wY.mpr (FT.mpr ⟨_,rfl,?_⟩));by_cases hlt:(((cs++[V.ref b]).length:Nat):Int)<40-(J.length:Int)+(i:Int)
     ·rw[decide_eq_true hlt,if_pos rfl];have c4:(cs++[V.ref b]).length=cs.length+1:=by simp
      unfold l7;refine Kn (N:=c.length) (vv:=vv++[i]) (cs:=cs++[V.ref b]) g w s8 Q a3 (show i<J.length by lia) S (by lia) a0 (fun H8 b2 s9 b3 c3 a9=>?_) a5;exact hD _ _ ⟨s9,_,_,_,_,_,_,_,b3,a9,by simp at hlt⊢;lia,(fun _=>by simp),(fun v d e=>cz _ (a6 v d e)),rfl⟩
     ·rw[decide_eq_false hlt,if_neg ao];exact a1
    ·rw[decide_eq_false h0,if_neg ao];exact a1
   by_cases h2:2<(fl.length:Int)+if decide (0<(i:Int))=true then 1 else 0
   ·rw[decide_eq_true h2,if_pos rfl];by_cases hls:ls=0
    ·rw[decide_eq_true hls,if_pos rfl];refine hC _ _ ⟨I,cs,vv,_,_,_,_,_,P,O,by lia,(fun hN=>?_),(fun v d e=>?_),rfl⟩
     ·rw[R.2.1 hN]at h2;exfalso
      split at h2<;>simp at h2
     ·rcases EW.mp d with h|h;·exact C v h e
      ·exfalso
       rw[h]at e;unfold Bm.near at e;rw[<-R.2.2]at e;by_cases h0:i=0;·rw[if_pos h0]at e;rw[if_neg (by simp;lia)]at h2;lia
       ·rw[if_neg h0]at e;rw[if_pos (by simp;lia)]at h2;lia
    ·rw[decide_eq_false hls,if_neg ao];exact put
   ·rw[decide_eq_false h2,if_neg ao];exact put
  ext;simp only[fX];refine⟨⟨by lia,by lia⟩,by decide,?_⟩;unfold me;ext;refine⟨⟨by lia,by lia⟩,by decide,?_⟩;unfold ma;ext;refine⟨free,rfl,?_⟩;have more:wpB G K (fun _=>E) hW {nx:=wpB G K (fun _=>E) gy q,rt:=q.rt,bk:=q.bk,ct:=q.ct} [some (.ref r),some (.ref f),some (.int p),some (.int n),some (.bl free),some (.ref t),some (.int i),some (.int (n%2)),some (.int (p/((i:Int)+5)%5)),Z] M:=by unfold hW;ext;refine⟨⟨by decide,by decide⟩,by decide,?_⟩;unfold ku;ext;exact⟨⟨by decide,by decide⟩,T _ _ _⟩
  cases free with
  |true=>
   rw[if_pos rfl];split;·exact⟨by decide,more⟩
   ·exact T _ _ _
  |false=>rw[if_neg ao,if_neg ao];exact T _ _ _
 ·rintro σ H2 ⟨s,cs,vv,n,u,x',y',Z,l,x,b4,b6,C,rfl⟩;unfold oB;ext;exact b9 H2 t cs vv s w l (by lia) (b6 rfl) x C
end
end Bt
namespace Bt
open PySem PySem.Spec PyProof.Rows L2 R Cp Lt Kc Mt K21 K22
structure Blt(H:Hp)(t:Addr)(cs:List V)(nf:Nat->Str)(vf:Nat->Nat)(f:Nat->Int)(ps os:List Nat):Prop where
 et:H t=some (.lst cs)
 l1:1<=cs.length
 l40:cs.length<=40
 ok:∀i,eO (nf i)=true
 inj:∀i j,i<cs.length->j<cs.length->nf i=nf j->i=j
 at_:∀(i:Nat) c,cs[i]? =some c->vf i<ps.length/\∃b r,c=.ref b/\H b=some (.tup [.str (nf i),.ref r])/\H r=some (.tup ((nd f (fn os) (fn ps) os.length (vf i)).map V.int))
 n60:os.length<=60
 bit:∀p,p<os.length->f p=0\/f p=1
 par:∀v,1<=v->v<ps.length->ps.getD v 0<v
theorem sort2{m:Type}{d:m}{a b:List Int}(h:a≠b)(x y:m):∃u v c e,_root_.Q.dJ d [a,b] [x,y]=[u,v]/\((u=x/\v=y/\c=a/\e=b)\/(u=y/\v=x/\c=b/\e=a))/\_root_.Q.llt c e=true:=by
 have nd:[a,b].Nodup:=by simp[h]
 obtain⟨P,U,_⟩:=_root_.Q.fN (_root_.Q.Jp nd) (by simp);have P2:=eQ.mp P.perm;have q:=P.size;have r:=U 0 1 (by decide) (by simp);unfold _root_.Q.dJ _root_.Q.DX;rw[if_neg (by simp)];generalize _root_.Q.run (_root_.Q.ltL [a,b]) (PySem.W.kas_sort [a,b].length)=p at *;obtain⟨l⟩:=p;have o:l.length=2:=by simpa using q
 obtain⟨i,j,rfl⟩:∃i j,l=[i,j]:=by
  match l,o with
  | [i,j],_=>exact⟨i,j,rfl⟩
 have f:∀k,(k=i\/k=j)↔k<2:=fun k=>by simpa using P2.mem_iff (a:=k)
 have g:_root_.Q.ltL [a,b] i j=true:=r;have s:=(f 0).mpr (by decide);have t:=(f 1).mpr (by decide);have n:(i=0/\j=1)\/(i=1/\j=0):=by lia
 rcases n with⟨rfl,rfl⟩ |⟨rfl,rfl⟩;·exact⟨x,y,a,b,rfl,.inl ⟨rfl,rfl,rfl,rfl⟩,g⟩
 ·exact⟨y,x,b,a,rfl,.inr ⟨rfl,rfl,rfl,rfl⟩,g⟩
def ends(g:Nat->List Int)(par:Nat->Nat)(e:Nat)(c:List Int×List Int):Prop:=(c=(g e,g (par e))\/c=(g (par e),g e))/\_root_.Q.llt c.1 c.2=true
def ends_nd{g:Nat->List Int}{par:Nat->Nat}{N:Nat}{ks:List (List Int×List Int)}(a:∀i j,i<N->j<N->g i=g j->i=j)(p:∀v,(g v).length=m)(hp:∀v,1<=v->v<N->par v<v)(o:∀i c,ks[i]? =some c->i+1<N/\ends g par (i+1) c):(ks.map _root_.Q.lS).Nodup/\∀k∈ks,k.1.length=m/\k.2.length=m:=by
 have len:∀k∈ks,k.1.length=m/\k.2.length=m:=fun k h=>by obtain⟨i,e⟩:=bK.mp h;rcases(o i k e).2.1 with rfl|rfl<;>exact⟨p _,p _⟩
 refine⟨?_,len⟩;refine eY.mpr fun i j hi n s e=>?_;simp only[ai]at hi n;simp only[bQ]at e;have q:=len _ (a6 hi);have r:=len _ (a6 n);obtain⟨b,ei,_⟩:=o i _ (ae hi);obtain⟨d,ej,_⟩:=o j _ (ae n);have t:=hp (i+1) (by lia) b;have u:=hp (j+1) (by lia) d;obtain⟨f,l⟩:=List.append_inj (show ks[i].1++ks[i].2=ks[j].1++ks[j].2 from e) (q.1.trans r.1.symm);rcases ei with ei|ei<;>rcases ej with ej|ej<;>rw[ei,ej]at f l;·have :=a _ _ b d f;lia
 ·have :=a _ _ b (by lia) f;have :=a _ _ (by lia) d l;lia
 ·have :=a _ _ (by lia) d f;have :=a _ _ b (by lia) l;lia
 ·have :=a _ _ b d l;lia
noncomputable abbrev gN(f:Nat->Int)(ps os:List Nat)(v:Nat):List Int:=nd f (fn os) (fn ps) os.length v
noncomputable abbrev nds(f:Nat->Int)(ps os:List Nat):List (List Int):=(aE ps.length).map (gN f ps os)
abbrev pls(os:List Nat)(e:Nat):List V:=(nats os.length).filter fun o=>match o with |.int i=>decide (((os.getD i.toNat 0:Nat):Int)=((e:Nat):Int)) |_=>false
def BrV(H:Hp)(f:Nat->Int)(ps os:List Nat)(z:V)(e:Nat):Prop:=∃b a c d x y,z=V.ref b/\H b=some (.tup [.ref a,.ref c,.ref d])/\H a=some (.tup (x.map V.int))/\H c=some (.tup (y.map V.int))/\((x=gN f ps os e/\y=gN f ps os (ps.getD e 0))\/(x=gN f ps os (ps.getD e 0)/\y=gN f ps os e))/\H d=some (.tup (pls os e))
def BrV.tk{f:Nat->Int}{ps a:List Nat}{z:V}{e:Nat}(h:BrV H f ps a z e)(t:K32.Tk H H'):BrV H' f ps a z e:=by obtain⟨b,l,m,n,x,y,c,d,g,i,j,k⟩:=h;exact⟨b,l,m,n,x,y,c,t _ _ d,t _ _ g,t _ _ i,j,t _ _ k⟩
structure Bx(H:Hp)(bs:List V)(m:Nat)(vf:Nat->Nat)(f:Nat->Int)(ps os:List Nat):Prop where
 ow:∀p,p<os.length->fn os p<ps.length
 has:∀v,1<=v->v<ps.length->∃p,p<os.length/\fn os p=v
 cp:∀v,v<ps.length->Bm.near (fn ps) ps.length v<=2->∃i,i<m/\vf i=v
 br:∀z∈bs,∃e,1<=e/\e<ps.length/\BrV H f ps os z e
 all:∀e,1<=e->e<ps.length->∃z∈bs,BrV H f ps os z e
 bl:bs.length<=30
 few:∀v,1<=v->os.count v<=3
def zf(K:ah):Sp:=fun vs H Q _=>∃(a:Addr)(ns:List Int)(st:Nat),vs=[.ref a,.int st]/\SqL K H a (ns.map V.int)/\ns.length<=63/\st<=10/\
 ∀(H':Hp)(p t nl br:Addr)(cs ys bs:List V)(nf:Nat->Str)(vf:Nat->Nat)(f:Nat->Int)(ps os:List Nat),aA H H'->H' p=some (.tup [.ref t,.ref nl,.ref br])->Blt H' t cs nf vf f ps os->1<=ps.length->ps.length<=31->(nds f ps os).Nodup->_root_.Q.IntKeys H' ys (nds f ps os)->H' nl=some (.lst (_root_.Q.dJ .non (nds f ps os) ys))->H' br=some (.lst bs)->Bx H' bs cs.length vf f ps os->Q (.ref p) H'
theorem wB{a:List Nat}{v:Nat}:∀(k:Nat),(gG a k).count v=if v<k then a.getD v 0 else 0
 | 0=>by simp[gG]
 |k+1=>by
  have h:(gG a k).count v=if v<k then a.getD v 0 else 0:=wB k
  unfold gG at h⊢;rw[kA,kK,List.count_append,h,mS,xq,ff,List.count_replicate];by_cases e:k=v;·subst e;simp
  ·have b:(k==v)=false:=by simpa using e
   rw[b,if_neg ao,Nat.add_zero];by_cases c:v<k;·rw[if_pos c,if_pos (by lia)]
   ·rw[if_neg c,if_neg (by lia)]
def own_of{b a:List Nat}(h:a.Perm (gG b b.length)){v:Nat}(d:v<b.length)(f:1<=b.getD v 0):∃p,p<a.length/\fn a p=v:=by
 have c:v∈a:=by rw[h.mem_iff];unfold gG;rw[List.mem_flatMap];exact⟨v,bp.mpr d,List.mem_replicate.mpr ⟨by lia,rfl⟩⟩
 obtain⟨p,hp,e⟩:=d5.mp c;exact⟨p,hp,by show a.getD p 0=v;rw[af,ae hp];exact e⟩
def rot(a:k<cs.length)(hi:i<cs.length):(cs.drop k++cs.take k)[i]? =cs[(i+k)%cs.length]? :=by
 by_cases h:i<cs.length-k;·rw[cB (by rw[cZ];exact h),iR,eP (by lia),Nat.add_comm]
 ·rw[bU (by rw[cZ];lia),cZ,List.getElem?_take,if_pos (by lia),Nat.mod_eq_sub_mod (by lia),eP (by lia)];congr 1
  lia
def LP{ks:List (List Int)}(h:_root_.Q.IntKeys H ys ks):∀j,j<ks.length->∃a,ys[j]? =some (V.ref a)/\H a=some (.tup ((ks.getD j []).map V.int)):=by
 unfold _root_.Q.IntKeys at h
 induction h with
 |nil=>intro j b;exact absurd b (dv _)
 |cons r t ih=>
  intro j b;cases j with
  |zero=>obtain⟨a,rfl,f⟩:=r;exact⟨a,rfl,f⟩
  |succ j=>exact ih j (by simpa using b)
def two_nd{a b:List Int}(h:a≠b):[a,b].Nodup:=by simp[h]
def D4{f:Nat->Int}{ps a:List Nat}(h:j<ps.length):(nds f ps a).getD j []=gN f ps a j:=by rw[af,aC,cn h];rfl
section
variable {G:Gam}
def Jf(g0:G.fn "_law_cell_at" 2=some (vB K,[]))(L:G.fn "_law_mixed" 2=some (Bb,[]))(P:G.fn "_law_grown" 2=some (vz K,[]))(g3:G.fn "_law_owners" 4=some (vx,[]))(g4:G.fn "_law_nodes" 5=some (y8,[]))(g5:G.fn "_law_copies" 5=some (vA,[])):
  Sat G K (zf K) um t7:=by
 rintro vs e9 i9 i8 ⟨a,C,st,rfl,ha,hn,i0,i4⟩;unfold um;change wpB G K _ _ _ [some (.ref a),some (.int st),none,none,none,none,none,none,none,none,none,none,none,none,none,none] e9;ext;refine⟨_,_,P,a,C,st,rfl,ha,hn,i0,fun H1 p pa W q ms s1 ep ea em s=>?_⟩;refine⟨p,_,rfl,SqT.of ep,rfl,_,_,rfl,_,_,rfl,rfl,?_⟩;unfold qj;ext;refine⟨_,_,g0,a,C,0,rfl,s1.seq ha,?_⟩;generalize C.getD 0 0=c0;refine iZ.mpr ⟨by decide,jD.mpr ?_⟩;generalize decide (c0%2=1)=free;unfold qi;ext;refine⟨_,_,L,_,_,g0,a,C,0,rfl,s1.seq ha,?_⟩;generalize C.getD 0 0=c0;refine⟨c0,1,rfl,by decide,by decide,?_⟩;generalize mx c0 1=seed;unfold qh;ext;refine⟨_,_,g3,by decide,_,_,g0,a,C,0,rfl,s1.seq ha,?_⟩;generalize C.getD 0 0=c0;refine div_ii.mpr ⟨⟨by decide,by decide⟩,?_⟩;have b5:=s.n31;have b4:=s.one;have j6:=s.len;refine⟨W,seed%10007,c0/98,free,ms,rfl,em,by lia,s.sum,dw _ (by decide),Int.le_of_lt (cW _ (by decide)),fun H2 p2 lo n d9 s2 b1 j1 eo a8=>?_⟩;refine⟨p2,_,rfl,SqT.of b1,rfl,_,_,rfl,_,_,rfl,rfl,?_⟩;have e3:=s1.trans s2;have b6:n.length<=60:=by rw[a8.length_eq,qx ms _ (av _)];exact aF (nG ms _) s.sum
 unfold qg;ext;refine⟨_,_,g0,a,C,1,rfl,e3.seq ha,?_⟩;generalize C.getD 1 0=c1;unfold qf;ext;refine⟨_,_,g4,_,_,L,c1,2,rfl,by decide,by decide,?_⟩;generalize mx c1 2=sd2;refine⟨⟨by decide,by decide⟩,?_⟩;refine⟨pa,lo,sd2,c1/7,free,q,n,rfl,s2 _ _ ea,eo,b4,b5,b6,s.par,fun H3 nl ys f s3 j2 a3 hf ik=>?_⟩;have i5:=e3.trans s3;have b0:=s3 _ _ (s2 _ _ ea);have d0:=s3 _ _ eo;have i2:=K32.eX ik;rw[ai,aY]at i2;have f6:∀v,1<=v->n.count v<=3:=fun v Q=>by
  rw[a8.count_eq,wB];split;·exact(s.m0 v Q (by assumption)).2
  ·exact aM _
 have own:∀v,1<=v->v<q.length->∃p,p<n.length/\fn n p=v:=fun v Q B=>own_of a8 (by lia) (s.m0 v Q (by lia)).1;have b2:∀i j,i<q.length->j<q.length->gN f q n i=gN f q n j->i=j:=fun i j hi r e=>by
  rcases Nat.lt_trichotomy i j with h|h|h;·exact absurd e.symm (nd_ne (N:=q.length) s.par hf h r (own j (by lia) r))
  ·exact h
  ·exact absurd e (nd_ne (N:=q.length) s.par hf h hi (own i (by lia) hi))
 have e0:(nds f q n).Nodup:=by refine eY.mpr fun i j hi r j5 e=>?_;simp only[ai,aY]at hi r;simp only[bQ,uy]at e;have :=b2 i j hi r e;lia
 unfold qe;ext;refine⟨short (by simp),fun I d3=>?_⟩;generalize hX:upd H3 I _=H4;obtain⟨s4,J⟩:=eF hX d3;clear hX;unfold qd;ext;refine iJ ?_;ext;refine Or.inl ⟨pa,_,rfl,.inl (SqL.of (s4 _ _ b0)),?_⟩;rw[dq];refine⟨_,_,rfl,⟨by lia,by lia,by lia,by lia⟩,?_⟩;refine gX dN (fun m σ H'=>aA H3 H'/\∃(bs:List V)(x:List (List Int×List Int))(c5 a2 z:Option V),H' I=some (.lst bs)/\x.length=m/\_root_.Q.jl H' bs x/\(∀i c,x[i]? =some c->i+1<q.length/\ends (gN f q n) (fn q) (i+1) c)/\(∀(j:Nat) z,bs[j]? =some z->BrV H' f q n z (j+1))/\σ=[some (.ref a),some (.int st),some (.ref pa),some (.ref W),some (.bl free),some (.int seed),some (.ref lo),some (.int d9),some (.int c1),some (.ref nl),some (.ref I),c5,a2,z,none,none])
  ⟨s4,[],[],none,none,none,J,rfl,.nil,(fun i c e=>by cases e),(fun j z e=>by cases e),rfl⟩ (fun _ _ _ _ _=>trivial) ?_ ?_
 ·rintro m c5 σ H5 H D2 U ⟨y,bs,x,x',y',z',J,b3,tk,he,a4,rfl⟩ rfl M hD _;have J:=M _ _ J;have y:=y.trans M;have B:m+1<q.length:=by lia
  have j7:=s.par (m+1) (by lia) B;have d8:=K32.dY (K32.Tk.of y) ik;obtain⟨D,e1,f1⟩:=LP d8 (m+1) (by rw[ai,aY];exact B);obtain⟨E,e2,f2⟩:=LP d8 (q.getD (m+1) 0) (by rw[ai,aY];lia);rw[D4 B]at f1;rw[D4 (by lia)]at f2;have ev:(1:Int)+(m:Int)=((m+1:Nat):Int):=by lia
  rw[ev];generalize hvv:m+1=v at *;ext;refine .inl ⟨nl,_,v,_,rfl,rfl,SqL.of (y _ _ a3),cC e1,?_⟩;refine .inl ⟨pa,_,v,_,rfl,rfl,SqL.of (y _ _ b0),cC (ub B),?_⟩;refine .inl ⟨nl,_,q.getD v 0,_,rfl,rfl,SqL.of (y _ _ a3),cC e2,?_⟩;refine⟨short (by simp),fun l hl=>?_⟩;have d7:gN f q n v≠gN f q n (q.getD v 0):=fun e=>by have :=b2 _ _ B (by lia) e;lia
  refine⟨l,_,[gN f q n v,gN f q n (q.getD v 0)],n.length,rfl,SqL.of aq,by simp,two_nd d7,?_,.cons ⟨D,rfl,au hl _ _ f1⟩ (.cons ⟨E,rfl,au hl _ _ f2⟩ .nil),fun l2 g9=>?_⟩;·intro k T;simp at T;rcases T with rfl|rfl<;>exact td
  obtain⟨u,F,c,e,es,b7,a7⟩:=sort2 (d:=V.non) d7 (V.ref D) (V.ref E);rw[es];have S:aA H (upd (upd H l (.lst [.ref D,.ref E])) l2 (.lst [u,F])):=(au hl).trans (au g9);have c8:upd (upd H l (.lst [.ref D,.ref E])) l2 (.lst [u,F]) l2=some (.lst [u,F]):=aq;generalize upd (upd H l (.lst [.ref D,.ref E])) l2 (.lst [u,F])=H7 at S c8⊢;have c3:=y.trans S;unfold m9;ext;refine dF ?_;ext;refine Or.inl ⟨lo,_,rfl,.inl (SqL.of (c3 _ _ d0)),_,rfl,by rw[dq];lia,by rw[dq];lia,?_⟩;rw[dq,aQ];refine tI (xs:=nats n.length) K32.Bd (K32.eU (by unfold nats;simp;lia)) (fun _ _=>trivial) (fun o=>match o with |.int i=>decide (((n.getD i.toNat 0:Nat):Int)=((v:Nat):Int)) |_=>false) id (fun τ=>∃u,τ=[u,some (.int ((v:Nat):Int)),some (.ref lo)]) ⟨none,rfl⟩ ?_ ?_
  ·rintro c5 τ H8 Rt Rf hx ⟨u,rfl⟩ X kt kf;unfold nats at hx;obtain⟨i,hi,rfl⟩:=aJ.mp hx;have hi:=bp.mp hi;ext;refine .inl ⟨lo,_,i,_,rfl,rfl,SqL.of (X _ _ (c3 _ _ d0)),cC (ub hi),?_⟩;refine jD.mpr ⟨_,rfl,?_⟩;by_cases h:((n.getD i 0:Nat):Int)=((v:Nat):Int);·rw[decide_eq_true h,if_pos rfl];exact kt _ _ ⟨_,rfl⟩ (aA.refl _) (decide_eq_true h)
   ·rw[decide_eq_false h,if_neg ao];exact kf _ _ ⟨_,rfl⟩ (aA.refl _) (decide_eq_false h)
  intro H8 l3 X h0;rw[xQ];have f9:((nats n.length).filter fun o=>match o with |.int i=>decide (((n.getD i.toNat 0:Nat):Int)=((v:Nat):Int)) |_=>false).length<=60:=by refine aF (gw _ _) ?_;unfold nats;rw[ai,aY];exact b6
  generalize hpl:((nats n.length).filter fun o=>match o with |.int i=>decide (((n.getD i.toNat 0:Nat):Int)=((v:Nat):Int)) |_=>false)=pl at f9⊢;generalize hX:upd H8 l3 _=H9;obtain⟨O,f0⟩:=eF hX h0;clear hX
  replace O:=X.trans (O)
  have i6:=c3.trans O;unfold m8;ext;have c7:=O _ _ (S _ _ J);have c9:=O _ _ c8;refine⟨.inl ⟨rfl,_,SqL.of c7⟩,?_⟩;refine .inl ⟨l2,_,0,_,rfl,rfl,SqL.of c9,rfl,?_⟩;refine .inl ⟨l2,_,1,_,rfl,rfl,SqL.of c9,rfl,?_⟩;refine⟨l3,_,rfl,.inl ⟨SqL.of f0,fun z hz=>⟨short (by simp),fun w hw=>?_⟩⟩⟩;have R:aA H9 (upd (upd H9 z (.tup pl)) w (.tup [u,F,.ref z])):=(au hz).trans (au hw);have Z:upd (upd H9 z (.tup pl)) w (.tup [u,F,.ref z]) w=some (.tup [u,F,.ref z]):=aq;have d1:upd (upd H9 z (.tup pl)) w (.tup [u,F,.ref z]) z=some (.tup pl):=by rw[aW (bI aq hw)];exact aq
  generalize upd (upd H9 z (.tup pl)) w (.tup [u,F,.ref z])=H10 at R Z d1⊢;have c6:=R _ _ c7;have d2:=_root_.Q.my tk;have Y:K32.Tk H H10:=K32.Tk.of (S.trans (O.trans R));have A:K32.Tk H10 (upd H10 I (.lst (bs++[.ref w]))):=K32.sQ c6;refine⟨I,_,_,rfl,rfl,c6,K32.xE (by lia),?_⟩;refine hD _ _ ⟨dj (i6.trans R) d3,bs++[.ref w],x++[(c,e)],_,_,_,aq,by simp[b3,hvv],?_,?_,?_,rfl⟩
  ·have L:=A _ _ (Y _ _ f1);have P:=A _ _ (Y _ _ f2);refine K32.Paired.snoc ?_ (Paired.rG tk ?_)
   ·rcases b7 with⟨rfl,rfl,rfl,rfl⟩ |⟨rfl,rfl,rfl,rfl⟩;·exact⟨w,D,E,_,rfl,A _ _ Z,L,P⟩
    ·exact⟨w,E,D,_,rfl,A _ _ Z,P,L⟩
   ·rintro a2 k ⟨a',x1,x2,rs,Q,h2,h3,h4⟩;have t:K32.Tk H5 _:=fun b o h=>A b o (Y b o (M _ _ h));exact⟨a',x1,x2,rs,Q,t _ _ h2,t _ _ h3,t _ _ h4⟩
  ·intro i k a0;by_cases hi:i<x.length;·rw[cB hi]at a0;exact he i k a0
   ·have g6:=(aH.mp a0).1;rw[aU,dR]at g6;obtain rfl:i=m:=by lia
    rw[bU (by lia),b3,Nat.sub_self]at a0;cases a0;rw[hvv];refine⟨B,?_,a7⟩;rcases b7 with⟨_,_,rfl,rfl⟩ |⟨_,_,rfl,rfl⟩;·exact .inl rfl
    ·exact .inr rfl
  ·intro j a2 r;have t:K32.Tk H5 (upd H10 I (.lst (bs++[.ref w]))):=fun b o h=>A b o (Y b o (M _ _ h));by_cases a5:j<bs.length;·rw[cB a5]at r;exact(a4 j a2 r).tk t
   ·have g7:=(aH.mp r).1;rw[aU,dR]at g7;obtain rfl:j=m:=by lia
    rw[bU (by lia),show j-bs.length=0 by lia]at r;cases r;rw[hvv];have L:=A _ _ (Y _ _ f1);have P:=A _ _ (Y _ _ f2);have g3:upd H10 I (.lst (bs++[.ref w])) z=some (.tup (pls n v)):=by unfold pls;rw[hpl];exact A _ _ d1
    rcases b7 with⟨rfl,rfl,rfl,rfl⟩ |⟨rfl,rfl,rfl,rfl⟩;·exact⟨w,D,E,z,_,_,rfl,A _ _ Z,L,P,.inl ⟨rfl,rfl⟩,g3⟩
    ·exact⟨w,E,D,z,_,_,rfl,A _ _ Z,P,L,.inr ⟨rfl,rfl⟩,g3⟩
 ·rintro σ H5 ⟨y,bs,x,x',y',z',J,b3,tk,he,a4,rfl⟩;unfold qb;ext;refine⟨_,_,g5,pa,nl,seed,d9,free,q,ys,rfl,y _ _ b0,y _ _ a3,by lia,b4,b5,s.par,fun H t g vv M ft et j4 f7 cb i1=>?_⟩;have j0:=M _ _ J;have e4:=y.trans M;have j3:1<=g.length:=by
   cases g with
   |nil=>exact absurd rfl f7
   |cons _ _=>simp
  unfold oG;ext;refine⟨⟨by decide,by decide⟩,Or.inl ⟨t,_,rfl,.inl (SqL.of et),iZ.mpr ⟨by lia,?_⟩⟩⟩;obtain⟨k,T⟩:=cP (dw (seed/11) (show((g.length:Nat):Int)≠0 by lia));have g8:k<g.length:=by have :=cW (seed/11) (show(0:Int)<((g.length:Nat):Int) by lia);lia
  rw[T];unfold oF;ext;have e1:lq g (some (k:Int)) none=g.drop k:=by unfold lq;rw[HT.vE,HT.qT,Nat.min_eq_left (by lia),jc (by rw[cZ];lia)]
  have e2:lq g none (some (k:Int))=g.take k:=by unfold lq;rw[HT.vE,HT.qT,Nat.min_eq_left (by lia),List.drop_zero,Nat.sub_zero]
  refine .inl ⟨t,g,rfl,SqL.of et,fun p1 h5=>?_⟩;rw[e1];generalize hX:upd H p1 _=H7;obtain⟨S,f3⟩:=eF hX h5;clear hX;refine .inl ⟨t,g,rfl,SqL.of (S _ _ et),fun p2 h6=>?_⟩;rw[e2];generalize hX:upd H7 p2 _=H8;obtain⟨X,b1⟩:=eF hX h6;clear hX;have d6:(g.drop k).length+(g.take k).length=g.length:=by rw[cZ,cY];lia
  refine .inr (.inr (.inl ⟨p1,p2,_,_,rfl,rfl,X _ _ f3,b1,K32.eU (by lia),fun p3 h7=>?_⟩));generalize hX:upd H8 p3 _=H9;obtain⟨O,f4⟩:=eF hX h7;clear hX;have c4:aA H H9:=S.trans (X.trans O);have e5:=e4.trans c4;have i3:=K32.dY (K32.Tk.of e5) ik;refine⟨nl,ys,nds f q n,n.length,rfl,SqL.of (e5 _ _ a3),by simp;lia,e0,fun k T=>?_,i3,fun q1 h8=>?_⟩;·obtain⟨v,_,rfl⟩:=aJ.mp T;exact td
  generalize hX:upd H9 q1 _=H10;obtain⟨R,f5⟩:=eF hX h8;clear hX;have a1:aA H5 H10:=M.trans (c4.trans R);have i7:_root_.Q.jl H10 bs x:=Paired.rG tk fun a2 c ⟨a',x1,x2,rs,Q,h2,h3,h4⟩=>⟨a',x1,x2,rs,Q,a1 _ _ h2,a1 _ _ h3,a1 _ _ h4⟩;obtain⟨kn,kl⟩:=ends_nd (m:=n.length) b2 (fun v=>td) s.par he;refine⟨I,bs,x,n.length,rfl,SqL.of (a1 _ _ J),by lia,kn,kl,i7,fun q2 h9=>⟨short (by simp),fun w hw=>?_⟩⟩;have b9:=(au (o:=.lst (_root_.Q.dJ .non (x.map _root_.Q.lS) bs)) h9).trans (au (o:=.tup [.ref p3,.ref q1,.ref q2]) hw);have e7:=R.trans b9;have e6:=c4.trans e7;have c2:=e4.trans e6;refine i4 _ w p3 q1 q2 (g.drop k++g.take k) ys _ (fun i=>nmB seed ((i+k)%g.length)) (fun i=>vv.getD ((i+k)%g.length) 0) f q n (i5.trans c2) aq ?_ b4 b5 e0 (K32.dY (K32.Tk.of c2) ik) (b9 _ _ f5) (au hw _ _ aq) ?_
  rotate_left
  ·have d2:=_root_.Q.my tk;have W:(_root_.Q.dJ V.non (x.map _root_.Q.lS) bs).Perm bs:=K83.mC _ kn (by rw[ai];exact d2);have e8:=K32.Tk.of (a1.trans b9);refine⟨fun p hp=>?_,own,fun v B hn=>?_,fun z hz=>?_,fun e e1 e2=>?_,?_,f6⟩
   ·have U:n.getD p 0∈n:=by rw[af,ae hp];exact a6 hp
    rw[a8.mem_iff]at U;unfold gG at U;obtain⟨e,f8,U⟩:=List.mem_flatMap.mp U;have :=bp.mp f8;have :=(List.mem_replicate.mp U).2;show n.getD p 0<q.length;lia
   ·obtain⟨j,r,ej⟩:=d5.mp (i1 v B hn);have a5:j<g.length:=by rw[cb.len];exact r
    refine⟨(j+(g.length-k))%g.length,by rw[aU,d6];exact C7 _ (by lia),?_⟩;have em:((j+(g.length-k))%g.length+k)%g.length=j:=by
     by_cases h:k<=j;·rw[show j+(g.length-k)=(j-k)+g.length by lia,Nat.add_mod_right,eP (show j-k<g.length by lia),Nat.sub_add_cancel h,eP a5]
     ·rw[eP (show j+(g.length-k)<g.length by lia),show j+(g.length-k)+k=j+g.length by lia,Nat.add_mod_right,eP a5]
    show vv.getD (((j+(g.length-k))%g.length+k)%g.length) 0=v;rw[em,af,ae r];exact ej
   ·obtain⟨j,r⟩:=bK.mp (W.mem_iff.mp hz);have :=(aH.mp r).1;exact⟨j+1,by lia,by lia,(a4 j z r).tk e8⟩
   ·have r:e-1<bs.length:=by lia
    have h:=a4 (e-1) _ (ae r);rw[show e-1+1=e by lia]at h;exact⟨_,W.mem_iff.mpr (a6 r),h.tk e8⟩
   ·rw[W.length_eq];lia
  have d4:(g.drop k++g.take k).length=g.length:=by rw[aU,d6]
  have md:∀i,(i+k)%g.length<g.length:=fun i=>C7 _ (by lia);refine⟨e7 _ _ f4,by lia,by lia,fun i=>nmB_ok (aT (md i) (by lia)),fun i j hi r e=>?_,fun i c hc=>?_,b6,hf,s.par⟩
  ·have e:=nmB_inj (aT (md i) (by lia)) (aT (md j) (by lia)) e;rw[d4]at hi r;have a9:∀i,i<g.length->(i+k)%g.length=if i+k<g.length then i+k else i+k-g.length:=fun i hi=>by
    by_cases h:i+k<g.length;·rw[if_pos h,eP h]
    ·rw[if_neg h,Nat.mod_eq_sub_mod (by lia),eP (by lia)]
   rw[a9 i hi,a9 j r]at e;split at e<;>split at e<;>lia
  ·have hi:=(aH.mp hc).1;rw[d4]at hi;rw[rot g8 hi]at hc;obtain⟨b,rfl,hb⟩:=cb.at_ _ c hc;have b8:vv.getD ((i+k)%g.length) 0<q.length:=by
    have a7:(i+k)%g.length<vv.length:=by rw[<-cb.len];exact md i
    rw[af,ae a7];exact cb.lt _ (a6 a7)
   obtain⟨a9,er,fr⟩:=LP ik _ (show vv.getD ((i+k)%g.length) 0<(nds f q n).length by rw[ai,aY];exact b8);rw[af (l:=ys),er]at hb;rw[D4 b8]at fr;exact⟨b8,b,a9,rfl,e6 _ _ hb,c2 _ _ fr⟩
end
end Bt
namespace Bm
open Mt
section
variable {f:Nat->Int}{own par:Nat->Nat}{N:Nat}
def nd_ok(hf:∀p,p<n->f p=0\/f p=1)(v:Nat):M6.Ok n (nd f own par n v):=⟨td,fun x a=>by unfold nd at a;obtain⟨p,hp,rfl⟩:=aJ.mp a;exact rdv_bit (hf p (bp.mp hp))⟩
end
end Bm
namespace Bt
open PySem PySem.Spec PyProof.Rows L2 R Cp Lt Kc Mt K21 K22 Lm
section
variable {t:Addr}{bs:List V}{nf:Nat->Str}{vf:Nat->Nat}{f:Nat->Int}{ps os:List Nat}
abbrev rws(m:Nat)(vf:Nat->Nat)(f:Nat->Int)(ps os:List Nat):List (List Int):=(aE m).map fun i=>gN f ps os (vf i)
def rws_at(h:i<m):(rws m vf f ps os).getD i []=gN f ps os (vf i):=by unfold rws;rw[af,aC,cn h];rfl
def Blt.vlt(B:Blt H t cs nf vf f ps os)(h:i<cs.length):vf i<ps.length:=(B.at_ i _ (ae h)).1
def Blt.row(B:Blt H t cs nf vf f ps os){r:List Int}(h:r∈rws cs.length vf f ps os):∃v,v<ps.length/\r=nd f (fn os) (fn ps) os.length v:=by unfold rws at h;obtain⟨i,hi,rfl⟩:=aJ.mp h;exact⟨vf i,B.vlt (bp.mp hi),rfl⟩
def CJ{a b:Bool}{x:Int}(c:x=0\/x=1)(h:(if a=true then 1-x else x)=if b=true then 1-x else x):a=b:=by rcases c with rfl|rfl<;>cases a<;>cases b<;>first |rfl| (revert h;decide)
def Blt.mis(B:Blt H t cs nf vf f ps os)(E:i<j)(l:j<os.length):M6.Mis (rws cs.length vf f ps os) i j:=by
 have m:=B.bit i (by lia);have n:=B.bit j l;have get:∀{p v:Nat},p<os.length->(nd f (fn os) (fn ps) os.length v).getD p 0=if on (fn ps) (fn os p) v=true then 1-f p else f p:=fun{p v} hp=>by rw[zP hp];rfl
 apply gD
 intro o;have c:∀a b:Bool,∃v,v<ps.length/\on (fn ps) (fn os i) v=a/\on (fn ps) (fn os j) v=b:=fun a b=>by
  apply gD
  intro k;refine o ⟨if a=true then 1-f i else f i,if b=true then 1-f j else f j,by split <;>lia,by split <;>lia,fun r q ⟨g,h⟩=>?_⟩;obtain⟨v,e,rfl⟩:=B.row q;rw[get (by lia)]at g;rw[get l]at h;refine k ⟨v,e,?_,?_⟩;·exact CJ m g
  ·exact CJ n h
 obtain⟨u,s,u1,y⟩:=c true true;obtain⟨v,e,z,A⟩:=c true false;obtain⟨w,x,C,D⟩:=c false true;exact K6 (d:=0) B.par s e x ⟨u1,y⟩ ⟨z,A⟩ ⟨C,D⟩
def Blt.tn(B:Blt H t cs nf vf f ps os):K34.Tn H t nf os.length cs (rws cs.length vf f ps os) where
 et:=B.et
 ln:=by unfold rws;rw[ai,aY]
 row:=fun i y e=>by obtain⟨_,b,r,a,c,d⟩:=B.at_ i y e;exact⟨b,r,a,c,by rw[rws_at (aH.mp e).1];exact d⟩
 ok:=B.ok
 inj:=B.inj
 len:=B.l40
 n10:=B.n60
 rd:=fun r k=>by obtain⟨v,_,rfl⟩:=B.row k;exact Bm.nd_ok B.bit v
 mis:=fun i j g h=>B.mis g h
def Blt.ne(B:Blt H t cs nf vf f ps os):cs≠[]:=fun z=>by have :=B.l1;rw[z]at this;simp at this
end
end Bt
namespace K63
open PySem R
abbrev p_law:List Str:=["_law_script"]
abbrev Lc:List Str:=["_law_script","_law_table","_law_nodes_here","_law_branches","_law_bits","_law_drawn","_law_due","_law_tellings","_law_kept","_law_way"]
abbrev CF:CB:=
  (.cons (.ret (.cmp .Eq (.lst (.cons (.bfn .list (.cons (.orv (.var 1) (.lst .nil)) .nil)) (.cons (.bfn .list (.cons (.orv (.var 7) (.lst .nil)) .nil)) .nil))) (.var 8)))
  .nil)
abbrev CH:CB:=
  (.cons (.forr (.name 9) (.range1 (.con (.int 2)))
  (.cons (.iff (.cmp .NotEq (.call "_law_truths" (.cons (.var 9) (.cons (.var 1) (.cons (.var 7) .nil)))) (.var 6))
  (.cons (.ret (.con (.bool false)))
  .nil)
  .nil)
  .nil))
  CF)
abbrev oH:CB:=
  (.cons (.asg (.name 8) (.lst (.cons (.bfn .list (.cons (.orv (.var 1) (.lst .nil)) .nil)) (.cons (.bfn .list (.cons (.orv (.var 7) (.lst .nil)) .nil)) .nil))))
  CH)
abbrev r6:CB:=
  (.cons (.iff (.cmp .NotIn (.con (.bool true)) (.cut (.var 6) (.yes (.con (.int 1))) .no))
  (.cons (.asg (.name 6) (.lst .nil))
  .nil)
  .nil)
  oH)
abbrev r8:CB:=
  (.cons (.iff (.idx (.var 6) (.con (.int 3)))
  (.cons (.expr (.meth1 .append (.var 6) (.tup (.cons (.con (.int 0)) (.cons (.con (.int 1)) (.cons (.tup (.cons (.con (.str "a")) (.cons (.con (.str "b")) (.cons (.con (.str "d")) (.cons (.con (.str "c")) .nil))))) .nil))))))
  .nil)
  .nil)
  r6)
abbrev oJ:CB:=
  (.cons (.asg (.sub (.var 6) (.con (.int 3))) (.and (.cmp .Eq (.var 4) (.con (.int 3))) (.not (.idx (.var 6) (.con (.int 2))))))
  r8)
abbrev Gs:CB:=
  (.cons (.iff (.cmp .Eq (.bin .Mod (.call "_law_cell_at" (.cons (.var 0) (.cons (.con (.int 3)) .nil))) (.con (.int 2))) (.con (.int 1)))
  (.cons (.asg (.name 7) (.call "_law_no_tellings" (.cons (.bfn .len (.cons (.idx (.var 2) (.con (.int 0))) .nil)) (.cons (.var 5) .nil))))
  (.cons (.iff (.cmp .Eq (.var 4) (.con (.int 3)))
  (.cons (.asg (.name 7) (.call "_law_no_tellings" (.cons (.con (.int 3)) (.cons (.var 5) .nil))))
  .nil)
  .nil)
  (.cons (.asg (.sub (.var 6) (.con (.int 2))) (.not (.idx (.var 6) (.con (.int 1)))))
  .nil)))
  .nil)
  oJ)
abbrev u5:CB:=
  (.cons (.asg (.name 7) (.lst .nil))
  Gs)
abbrev u6:CB:=
  (.cons (.iff (.cmp .Eq (.var 4) (.con (.int 3)))
  (.cons (.asg (.name 1) (.lst (.cons (.tup (.cons (.con (.str "a")) (.cons (.tup (.cons (.con (.int 0)) (.cons (.con (.int 0)) (.cons (.con (.int 1)) .nil)))) .nil))) (.cons (.tup (.cons (.con (.str "b")) (.cons (.tup (.cons (.con (.int 0)) (.cons (.con (.int 1)) (.cons (.con (.int 1)) .nil)))) .nil))) (.cons (.tup (.cons (.con (.str "c")) (.cons (.tup (.cons (.con (.int 1)) (.cons (.con (.int 1)) (.cons (.con (.int 0)) .nil)))) .nil))) (.cons (.tup (.cons (.con (.str "d")) (.cons (.tup (.cons (.con (.int 1)) (.cons (.con (.int 0)) (.cons (.con (.int 1)) .nil)))) .nil))) .nil))))))
  .nil)
  .nil)
  u5)
abbrev Aq:CB:=
  (.cons (.iff (.cmp .Eq (.var 4) (.con (.int 2)))
  (.cons (.asg (.name 1) (.call "_law_no_table" (.cons (.var 1) (.cons (.bin .FloorDiv (.var 5) (.con (.int 20))) .nil))))
  (.cons (.asg (.sub (.var 6) (.con (.int 1))) (.con (.bool true)))
  .nil))
  .nil)
  u6)
abbrev Gu:CB:=
  (.cons (.iff (.cmp .Eq (.var 4) (.con (.int 1)))
  (.cons (.asg (.name 1) (.lst .nil))
  (.cons (.asg (.sub (.var 6) (.con (.int 1))) (.con (.bool true)))
  .nil))
  .nil)
  Aq)
abbrev Gw:CB:=
  (.cons (.asg (.name 6) (.lst (.cons (.con (.bool true)) (.cons (.con (.bool false)) (.cons (.con (.bool false)) (.cons (.con (.bool false)) (.cons (.con (.bool false)) .nil)))))))
  Gu)
abbrev Gy:CB:=
  (.cons (.asg (.name 5) (.call "_law_mixed" (.cons (.call "_law_cell_at" (.cons (.var 0) (.cons (.con (.int 3)) .nil))) (.cons (.con (.int 3)) .nil))))
  Gw)
abbrev Gz:CB:=
  (.cons (.asg (.name 4) (.bin .Mod (.call "_law_cell_at" (.cons (.var 0) (.cons (.con (.int 2)) .nil))) (.con (.int 5))))
  Gy)
abbrev MD:CB:=
  (.cons (.asg (.tup (.cons (.name 1) (.cons (.name 2) (.cons (.name 3) .nil)))) (.call "_law_built" (.cons (.var 0) (.cons (.con (.int 4)) .nil))))
  Gz)
end K63
namespace K63
open PySem PySem.Spec PyProof.Rows L2 R Cp Lt Kc K21 K22 Lm K23 K02 K32 K34 K75
section
variable {G:Gam}{T:Tb}
mutual
theorem DK(g:Gr T H H')(tb:Tab T H):∀{d:L2.D}{v:V},Rep K H d v->Rep K H' d v
 |.non,_,h=>h
 |.bl _,_,h=>h
 |.int _,_,h=>h
 |.str _,_,h=>h
 |.tup ds,_,h=>let⟨a,xs,e,h1,h2⟩:=h;⟨a,xs,e,g.tup tb h1,qU g tb h2⟩
 |.lst ds,_,h=>let⟨a,xs,e,h1,h2⟩:=h;⟨a,xs,e,g.seq tb h1,qU g tb h2⟩
theorem qU(g:Gr T H H')(tb:Tab T H):∀{ds:List L2.D}{xs:List V},d8 K H ds xs->d8 K H' ds xs
 | [],_,h=>h
 |d::ds,_,h=>let⟨x,t,e,h1,h2⟩:=h;⟨x,t,e,DK g tb h1,qU g tb h2⟩
end
def Li.gr(h:Li H x xs)(g:Gr T H H')(tb:Tab T H):Li H' x xs:=
 h.imp (fun⟨e,h⟩=>⟨e,h.imp id fun⟨a,e,h⟩=>⟨a,e,h.imp (fun h=>g.at tb h fun _ z=>by cases z) (Or.imp (g.uE tb) (g.lst tb))⟩⟩) fun⟨a,e,n,h⟩=>⟨a,e,n,h.imp (g.lst tb) (g.uE tb)⟩
def FO{E:XS}(hi:σ[i]? =some (some x))(h:Li H x xs):Mk G K E σ H (.bfn .list (.cons (.orv (.var i) (.lst .nil)) .nil)) (Lst fun vs _=>vs=xs):=fun c s Q q=>by
 replace h:=h.same s
 refine⟨x,hi,?_⟩;rcases h with⟨rfl,h⟩ |⟨a,rfl,ne,h⟩
 ·have d:Iy K x c false:=by
   rcases h with rfl|⟨a,rfl,h|h|h⟩;·exact rfl
   ·exact .inr (.inr ⟨[],h,rfl⟩)
   ·exact .inr (.inl ⟨[],SqT.of h,rfl⟩)
   ·exact .inl ⟨[],SqL.of h,rfl⟩
  refine⟨false,d,?_⟩;rw[if_neg ao];exact⟨aM _,fun p hp=>⟨p,[],rfl,.inl (SqL.of aq),fun l b=>q _ _ ((au hp).trans (au b)) ⟨l,[],rfl,aq,rfl⟩⟩⟩
 ·have f:Iy K (.ref a) c true:=by
   have e:true= !xs.isEmpty:=by
    cases xs with
    |nil=>exact absurd rfl ne
    |cons y r=>rfl
   rcases h with h|h;·exact .inl ⟨xs,SqL.of h,e⟩
   ·exact .inr (.inl ⟨xs,SqT.of h,e⟩)
  refine⟨true,f,?_⟩;rw[if_pos rfl];exact⟨a,xs,rfl,h.imp SqL.of SqT.of,fun l b=>q _ _ (au b) ⟨l,xs,rfl,aq,rfl⟩⟩
structure G63(G:Gam)(K:ah)(T:Tb):Prop where
 gc:G.fn "_law_cell_at" 2=some (vB K,[])
 gm:G.fn "_law_mixed" 2=some (Bt.Bb,[])
 gb:G.fn "_law_built" 2=some (Bt.zf K,[])
 gn:G.fn "_law_no_table" 2=some (DC K,[])
 gt:G.fn "_law_no_tellings" 2=some (JL,[])
 gr:G.fn "_law_truths" 3=some (JH T,[])
def Fi{c d:List L2.D}(j:d8 K H c xs)(k:d8 K H d ys)(h:Lst (Two (Lst fun vs _=>vs=xs) (Lst fun vs _=>vs=ys)) v H):Rep K H (.lst [.lst c,.lst d]) v:=by obtain⟨p,vs,rfl,hp,a,b,rfl,⟨g,l,rfl,e,rfl⟩,i,m,rfl,f,rfl⟩:=h;exact⟨p,_,rfl,SqL.of hp,_,_,rfl,⟨g,_,rfl,SqL.of e,j⟩,_,_,rfl,⟨i,_,rfl,SqL.of f,k⟩,rfl⟩
def lw_13(g:G63 G K T){D:Ends}{E:XS}{dd:L2.D}{e f:List L2.D}{z A a B C s8 s9:Option V}{J:Hp->Prop}(tb:Tab T H)(lx:Li H x xs)(t:Li H y ys)(v:d8 K H e xs)(w:d8 K H f ys)(hx:gh e<=4)(hy:gh f<=4)
  (X:Rep K H dd (.ref dl))(hd:hgt dd<=10)(P:J H)(r:∀H1 H2,J H1->aA H1 H2->J H2)
  (tr:∀H1,J H1->Tab T H1->∀Q:VK,(∀H2 l,J H2->Gr T H1 H2->Rep K H2 dd (.ref l)->Q (.ref l) H2)->Tru T H1 x y Q)(U:∀H',D.rt (.bl true) H'):
  wpB G K E oH D [z,some x,A,a,B,C,some (.ref dl),some y,s8,s9] H:=by
 unfold oH wpB R.wpS mz qm wpG iV;refine(?h:Mk G K E _ H _ (Lst (Two (Lst fun b _=>b=xs) (Lst fun b _=>b=ys)))) H (aA.refl _) _ fun I H1 c L=>?_
 case h=>exact mH (ph (FO rfl lx) (gQ eT) (FO rfl t) (gQ eT)) (jY (gQ eT) (gQ eT)) pk
 simp only[eR,eS];have k:=(Gr.of (T:=T) c).tab tb;have Z:=Fi (d8.same c v) (d8.same c w) L;have Y:=Rep.same c X;unfold CH;ext;refine iJ ?_;ext;refine⟨2,rfl,by decide,by decide,?_⟩;refine gX dN (fun i m H'=>Gr T H1 H'/\J H'/\∃u,m=[z,some x,A,a,B,C,some (.ref dl),some y,some I,u]) ⟨Gr.refl _ _,r _ _ P c,_,rfl⟩ (fun _ _ _ _ _=>trivial) ?_ ?_;·rintro i _ m H2 n D2 hi ⟨d,s,u,rfl⟩ rfl a O hr;have p:=d.trans (Gr.of (T:=T) a);have F:=p.tab k;ext;refine⟨_,_,g.gr,_,x,y,rfl,F,tr n (r _ _ s a) F _ fun H4 l S N W=>?_⟩;have q:=p.trans N;refine⟨dd,dd,W,DK q k Y,by lia,_,rfl,?_⟩;rw[wF,if_neg (by decide)];exact O _ _ ⟨q,S,_,rfl⟩
 ·rintro m H2 ⟨d,s,u,rfl⟩;have j:=(Gr.of (T:=T) c).trans d;unfold CF wpB R.wpS mz tRet;show tOp (gR K .Eq) (wpE G K E _) (wpE G K E _) _ H2 _;unfold tOp;refine(?h:Mk G K E _ H2 _ (Lst (Two (Lst fun b _=>b=xs) (Lst fun b _=>b=ys)))) H2 (aA.refl _) _ fun v2 n a M=>?_
  case h=>exact mH (ph (FO rfl (lx.gr j tb)) (gQ eT) (FO rfl (t.gr j tb)) (gQ eT)) (jY (gQ eT) (gQ eT)) pk
  have o:=j.trans (Gr.of (T:=T) a);refine⟨I,rfl,?_⟩;refine⟨_,_,Fi (qU o tb v) (qU o tb w) M,DK (d.trans (Gr.of a)) k Z,?_,?_⟩;·show max (gh e+1) (max (gh f+1) 0)+1<=30;lia
  ·rw[wF];exact U _
abbrev due(d1 d2 a:Bool):L2.D:=
 if(a&& !d2)=true then .lst [.bl true,.bl d1,.bl d2,.bl true,.bl false,.tup [.int 0,.int 1,.tup [.str "a",.str "b",.str "d",.str "c"]]]
 else if(d1||d2)=true then .lst [.bl true,.bl d1,.bl d2,.bl false,.bl false]else .lst []
def lw_10{D:Ends}{E:XS}{d2:Bool}{b:Int}{m f g n r t:Option V}(N:Hb dl=none)(s:aA Hb H)(J:H dl=some (.lst [.bl true,.bl d1,.bl d2,.bl false,.bl false]))
  (k:∀H' F,aA Hb H'->Rep K H' (due d1 d2 (decide (b=3))) (.ref F)->wpB G K E oH D [m,some x,f,g,some (.int b),n,some (.ref F),some y,r,t] H'):
  wpB G K E oJ D [m,some x,f,g,some (.int b),n,some (.ref dl),some y,r,t] H:=by
 have X:∀{H':Hp},aA Hb H'->H' dl=some (.lst [.bl true,.bl d1,.bl d2,.bl false,.bl false])->(decide (b=3)&& !d2)=false->wpB G K E r6 D [m,some x,f,g,some (.int b),n,some (.ref dl),some y,r,t] H':=fun{H'} u h z=>by
  unfold r6;ext;refine .inl ⟨dl,_,rfl,SqL.of h,fun p hp=>?_⟩;have A:lq [V.bl true,.bl d1,.bl d2,.bl false,.bl false] (some 1) none=[.bl d1,.bl d2,.bl false,.bl false]:=by simp[lq,HT.sIx]
  rw[A];have i:=u.trans (au (o:=.lst [V.bl d1,.bl d2,.bl false,.bl false]) hp);have I:upd H' p (.lst [V.bl d1,.bl d2,.bl false,.bl false]) p=some (.lst [V.bl d1,.bl d2,.bl false,.bl false]):=aq;have j:=au (o:=.lst [V.bl d1,.bl d2,.bl false,.bl false]) hp _ _ h;generalize upd H' p (.lst [V.bl d1,.bl d2,.bl false,.bl false])=H1 at i I j⊢;refine .inr ⟨p,_,rfl,.inl (SqL.of I),rfl,rfl,_,rfl,?_⟩;have d:=k;unfold due at d;rw[z,if_neg ao]at d;by_cases c:(d1||d2)=true;·rw[if_pos c]at d;rw[if_neg (by cases d1<;>cases d2<;>first |exact absurd c (by decide) |decide)];exact d _ dl i ⟨dl,_,rfl,SqL.of j,_,_,rfl,rfl,_,_,rfl,rfl,_,_,rfl,rfl,_,_,rfl,rfl,_,_,rfl,rfl,rfl⟩
  ·rw[if_neg c]at d;rw[if_pos (by cases d1<;>cases d2<;>first |exact absurd rfl c|decide)];exact⟨aM _,fun P S=>d _ P (i.trans (au S)) ⟨P,[],rfl,SqL.of aq,rfl⟩⟩
 have W:∀{H':Hp}{e:Bool},aA Hb H'->H' dl=some (.lst [.bl true,.bl d1,.bl d2,.bl e,.bl false])->e=(decide (b=3)&& !d2)->wpB G K E r8 D [m,some x,f,g,some (.int b),n,some (.ref dl),some y,r,t] H':=fun{H' e} u h z=>by
  unfold r8;ext;refine .inl ⟨dl,_,3,_,rfl,rfl,SqL.of h,rfl,e,rfl,?_⟩;cases e with
  |false=>rw[if_neg ao];exact X u h z.symm
  |true=>
   rw[if_pos rfl];refine⟨.inl ⟨rfl,_,SqL.of h⟩,short (by simp),fun p hp=>⟨short (by simp),fun a O=>?_⟩⟩;have i:=au (o:=.tup [V.str "a",.str "b",.str "d",.str "c"]) hp;have l:upd H' p (.tup [V.str "a",.str "b",.str "d",.str "c"]) p=some (.tup [V.str "a",.str "b",.str "d",.str "c"]):=aq;generalize upd H' p (.tup [V.str "a",.str "b",.str "d",.str "c"])=H1 at i l O⊢;generalize hX:upd H1 a _=H2;obtain⟨f,B⟩:=eF hX O;clear hX;have l:=f _ _ l;have j:=f _ _ (i _ _ h);refine⟨dl,_,_,rfl,rfl,j,iT (show 5<=40 by decide) (by decide),?_⟩;have T:p≠dl:=fun z=>by rw[z,j]at l;cases l
   have U:a≠dl:=fun z=>by rw[z,j]at B;cases B
   have g:=dj (o:=.lst ([V.bl true,.bl d1,.bl d2,.bl true,.bl false]++[.ref a])) ((u.trans i).trans f) N;have C:upd H2 dl (.lst ([V.bl true,.bl d1,.bl d2,.bl true,.bl false]++[.ref a])) dl=some (.lst ([V.bl true,.bl d1,.bl d2,.bl true,.bl false]++[.ref a])):=aq;have L:upd H2 dl (.lst ([V.bl true,.bl d1,.bl d2,.bl true,.bl false]++[.ref a])) p=some (.tup [V.str "a",.str "b",.str "d",.str "c"]):=by rw[aW T];exact l
   have M:upd H2 dl (.lst ([V.bl true,.bl d1,.bl d2,.bl true,.bl false]++[.ref a])) a=some (.tup [V.int 0,.int 1,.ref p]):=by rw[aW U];exact B
   generalize upd H2 dl (.lst ([V.bl true,.bl d1,.bl d2,.bl true,.bl false]++[.ref a]))=w at g C L M⊢;unfold r6;ext;refine .inl ⟨dl,_,rfl,SqL.of C,fun q hq=>?_⟩;have A:lq ([V.bl true,.bl d1,.bl d2,.bl true,.bl false]++[.ref a]) (some 1) none=[.bl d1,.bl d2,.bl true,.bl false,.ref a]:=by simp[lq,HT.sIx]
   rw[A];generalize hX:upd w q _=H4;obtain⟨v,R⟩:=eF hX hq;clear hX;have tp:Rep K H4 (.tup [.int 0,.int 1,.tup [.str "a",.str "b",.str "d",.str "c"]]) (.ref a):=⟨a,_,rfl,SqT.of (v _ _ M),_,_,rfl,rfl,_,_,rfl,rfl,_,_,rfl,⟨p,_,rfl,SqT.of (v _ _ L),_,_,rfl,rfl,_,_,rfl,rfl,_,_,rfl,rfl,_,_,rfl,rfl,rfl⟩,rfl⟩;refine .inl (.inr ⟨q,_,[.bl d1,.bl d2,.bl true,.bl false,.tup [.int 0,.int 1,.tup [.str "a",.str "b",.str "d",.str "c"]]],.bl true,rfl,SqL.of R,rfl,⟨_,_,rfl,rfl,_,_,rfl,rfl,_,_,rfl,rfl,_,_,rfl,rfl,_,_,rfl,tp,rfl⟩,by simp[gh,hgt],_,rfl,?_⟩);rw[if_neg (by cases d1<;>cases d2<;>decide)];have d:=k;unfold due at d;rw[<-z,if_pos rfl]at d;exact d _ dl (g.trans v) ⟨dl,_,rfl,SqL.of (v _ _ C),_,_,rfl,rfl,_,_,rfl,rfl,_,_,rfl,rfl,_,_,rfl,rfl,_,_,rfl,rfl,_,_,rfl,tp,rfl⟩
 have Q:∀e:Bool,e=(decide (b=3)&& !d2)->Fn (V.ref dl) (V.int 3) (V.bl e) H fun w=>wpB G K E r8 D [m,some x,f,g,some (.int b),n,some (.ref dl),some y,r,t] w:=fun e z=>⟨dl,_,3,3,rfl,rfl,J,rfl,W (dj s N) aq z⟩;unfold oJ;ext;by_cases c:b=3;·rw[decide_eq_true c,if_pos rfl];exact .inl ⟨dl,_,2,_,rfl,rfl,SqL.of J,rfl,d2,rfl,Q _ (by rw[decide_eq_true c];rfl)⟩
 ·rw[decide_eq_false c,if_neg ao];exact Q _ (by rw[decide_eq_false c];rfl)
def Row(z:Str)(gs:List Int)(v:V)(H:Hp):Prop:=∃b r,v=.ref b/\H b=some (.tup [.str z,.ref r])/\H r=some (.tup (gs.map V.int))
def fM:eH (Row z gs):=fun _ _ _ s ⟨b,r,e,a,c⟩=>⟨b,r,e,s _ _ a,s _ _ c⟩
def Row.gr(h:Row z gs v H)(g:Gr T H H')(tb:Tab T H):Row z gs v H':=let⟨b,r,e,h1,h2⟩:=h;⟨b,r,e,g.uE tb h1,g.uE tb h2⟩
def o4{Ra:V->Hp->Prop}{c:List V->Hp->Prop}(a:eH Ra)(b:eH c):eH (fun vs H=>∃v r,vs=v::r/\Ra v H/\c r H):=fun _ _ _ s ⟨v,r,e,d,f⟩=>⟨v,r,e,a _ _ _ s d,b _ _ _ s f⟩
def zT{E:XS}{bs:List V}(f:H dl=some (.lst (.bl true::bs))){e:CL}{a b c:Int}(h:MkL G K E σ H e (fun ws _=>ws=[.int a,.int b,.int c])):Mk G K E σ H (.tup (.cons (.con (.str z)) (.cons (.tup e) .nil))) (fun v H=>Row z [a,b,c] v (del H dl)):=
 (tf (ph bZ iH (kb f h (by simp)) (di i7)) (jY iH (di i7)) pk).imp fun v m s ⟨p,n,g,d,x,y,i,j,r,k,l⟩=>by subst i k;rw[show x=V.str z from j]at d;exact⟨p,r,g,vw_t (s _ _ f) d,l⟩
def Ck(t:V)(H:Hp):Prop:=∃a b c d e,t=.ref a/\H a=some (.lst [b,c,d,e])/\Row "a" [0,0,1] b H/\Row "b" [0,1,1] c H/\Row "c" [1,1,0] d H/\Row "d" [1,0,1] e H
def uR:eH Ck:=fun _ _ _ s ⟨a,g,i,j,k,e,h,b,c,d,f⟩=>⟨a,g,i,j,k,e,s _ _ h,fM _ _ _ s b,fM _ _ _ s c,fM _ _ _ s d,fM _ _ _ s f⟩
theorem Ck.gr{t:V}(h:Ck t H)(g:Gr T H H')(tb:Tab T H):Ck t H':=let⟨a,x1,x2,x3,x4,e,h,h1,h2,h3,h4⟩:=h;⟨a,x1,x2,x3,x4,e,g.lst tb h,h1.gr g tb,h2.gr g tb,h3.gr g tb,h4.gr g tb⟩
abbrev nf4(i:Nat):Str:=(["a","b","c","d"]:List Str).getD i "a"
abbrev L4:List (Str×List V):=[("a",[.int 0,.int 0,.int 1]),("b",[.int 0,.int 1,.int 1]),("c",[.int 1,.int 1,.int 0]),("d",[.int 1,.int 0,.int 1])]
def Row.dr(h:Row z gs v H)(l:gs.length=3)(o:gs.all (fun i=>i==0||i==1)=true):∃b r zs,v=.ref b/\H b=some (.tup [.str z,.ref r])/\H r=some (.tup zs)/\zs.length=3/\∀z∈zs,bJ z=true:=by obtain⟨b,r,e,a,c⟩:=h;refine⟨b,r,_,e,a,c,by rw[ai];exact l,fun z d=>?_⟩;obtain⟨i,hi,rfl⟩:=aJ.mp d;exact bg.mp o i hi
def Ck.tab{t:V}(h:Ck t H):Kn4 H t/\bN H t=true/\(∃a c cs,t=.ref a/\H a=some (.lst (c::cs)))/\count H t=3/\rowsOf H t=L4/\Od K t H:=by
 obtain⟨a,d,l,m,n,rfl,h,f,g,u,w⟩:=h;have dr:Dr H nf4 3 [d,l,m,n]:=fun i y e=>by
  match i,e with
  | 0,e=>cases e;exact f.dr rfl rfl
  | 1,e=>cases e;exact g.dr rfl rfl
  | 2,e=>cases e;exact u.dr rfl rfl
  | 3,e=>cases e;exact w.dr rfl rfl
  |i+4,e=>cases e
 have ok:∀i,eO (nf4 i)=true:=fun i=>by
  match i with
  | 0=>decide+kernel
  | 1=>decide+kernel
  | 2=>decide+kernel
  | 3=>decide+kernel
  |i+4=>exact(show eO "a"=true by decide+kernel)
 have inj:∀i j,i<[d,l,m,n].length->j<[d,l,m,n].length->nf4 i=nf4 j->i=j:=by
  have :∀i j:Fin 4,nf4 i=nf4 j->i=j:=by decide+kernel
  exact fun i j hi G e=>congrArg Fin.val (this ⟨i,hi⟩ ⟨j,G⟩ e)
 obtain⟨k,L,M,E⟩:=rO ok inj h dr (by simp) (by decide);refine⟨k,L,⟨a,d,_,rfl,h⟩,?_,?_,?_⟩;·show(match cN (H a)with |some (y::_)=>bB H y|_=>0)=3;rw[h];exact E d (by simp)
 ·unfold rowsOf;rw[mB (t:=a) (ys:=[d,l,m,n]) (by rw[h];rfl)];obtain⟨o,N,rfl,A,l1⟩:=f;obtain⟨p,O,rfl,B,l2⟩:=g;obtain⟨q,P,rfl,C,I⟩:=u;obtain⟨s,Q,rfl,D,J⟩:=w;rw[show[V.ref o,.ref p,.ref q,.ref s].map (aR H)=(["a","b","c","d"]:List Str) by rw[a8,a8,a8,a8,hJ,rj A,rj B,rj C,rj D]];rw[show _root_.Q.sortBy V.non ["a","b","c","d"] [V.ref o,.ref p,.ref q,.ref s]=[V.ref o,.ref p,.ref q,.ref s] by rfl];rw[a8,a8,a8,a8,hJ,mE A l1,mE B l2,mE C I,mE D J];rfl
 ·refine⟨_,qt h,by simp,fun v x=>?_⟩;have re:∀{z:Str}{F:List Int}{v:V},Row z F v H->Re K v H:=fun⟨b,r,e,f,g⟩=>by rw[e];exact uV f (.inl g) (mj _)
  simp only[aG,cu,or_false]at x;rcases x with rfl|rfl|rfl|rfl;·exact re f
  ·exact re g
  ·exact re u
  ·exact re w
def first4:oZ L4 3 0 1:=⟨by decide,by decide,by decide+kernel,fun a b c d e=>by lia⟩
def names4:(KP.map (nQ L4 (0:Nat) (1:Nat))).map V.str=[.str "a",.str "b",.str "d",.str "c"]:=by decide+kernel
def sV{a b c d e:Bool}(h:H l=some (.lst ([a,b,c,d,e].map V.bl))):Rep K H (.lst [.bl a,.bl b,.bl c,.bl d,.bl e]) (.ref l):=
 ⟨l,_,rfl,SqL.of h,_,_,rfl,rfl,_,_,rfl,rfl,_,_,rfl,rfl,_,_,rfl,rfl,_,_,rfl,rfl,rfl⟩
def Xc(K:ah)(H:Hp)(x:V)(d1:Bool)(n:Nat)(a:Int):Prop:=
 (d1=false/\a≠3/\∃t nf cs ac,x=.ref t/\Tn H t nf n cs ac/\cs≠[])\/
 (d1=true/\a≠3/\Kn4 H x/\(bN H x=false\/∃t,x=.ref t/\H t=some (.lst []))/\Od K x H)\/(d1=false/\a=3/\Ck x H)
def Yc(H:Hp)(y:V)(d1 a:Bool)(n:Nat)(b:Int):Prop:=(a=false/\∃l,y=.ref l/\H l=some (.lst []))\/(a= !d1/\NoT (if b=3 then 3 else n) y H)
def Lp(g:G63 G K T){D:Ends}{E:XS}{F:Bool}{A:Int}{Y a Z s5 s8 s9:Option V}(tb:Tab T Hb)(a3:Hb dl=none)(s:aA Hb H)(I:H dl=some (.lst [.bl true,.bl d1,.bl F,.bl false,.bl false]))(W:Xc K Hb x d1 n A)(B:Yc Hb y d1 F n A)(qq:∀H',D.rt (.bl true) H'):
  wpB G K E oJ D [Y,some x,a,Z,some (.int A),s5,some (.ref dl),some y,s8,s9] H:=by
 have ox:Od K x Hb:=by
  rcases W with⟨_,_,t,v,m,w,rfl,d,_⟩ |⟨_,_,_,_,o⟩ |⟨_,_,c⟩;·exact⟨m,qt d.et,aF d.len (by decide),A0 d⟩
  ·exact o
  ·exact c.tab.2.2.2.2.2
 have oy:Od K y Hb:=by
  rcases B with⟨_,l,rfl,u⟩ |⟨_,o,h,_⟩;·exact(yY u).od
  ·exact h.od
 obtain⟨xs,lx,_,R⟩:=ox;obtain⟨ys,ly,_,S⟩:=oy;obtain⟨dx,R,a4⟩:=nO R;obtain⟨dy,S,a5⟩:=nO S;refine lw_10 a3 s I fun H' a2 z rd=>?_;have a9:=(Gr.of (T:=T) z).tab tb;have go:∀{dd:L2.D}(J:Hp->Prop),due d1 F (decide (A=3))=dd->hgt dd<=10->J Hb->(∀b f,J b->aA b f->J f)->(∀b,J b->Tab T b->∀Q:VK,(∀f l,J f->Gr T b f->Rep K f dd (.ref l)->Q (.ref l) f)->Tru T b x y Q)->wpB G K E oH D [Y,some x,a,Z,some (.int A),s5,some (.ref a2),some y,s8,s9] H':=fun J I hd j0 X tr=>by subst I;exact lw_13 g a9 (lx.same z) (ly.same z) (d8.same z R) (d8.same z S) a4 a5 rd hd (X _ _ j0 z) X tr qq
 have cons:∀{H:Hp}{t:Addr}{v:Nat->Str}{m:List V}{w:List (List Int)},Tn H t v n m w->m≠[]->(∃t' c a0,V.ref t=.ref t'/\H t'=some (.lst (c::a0))):=fun d ne=>E5 d ne;rcases W with⟨rfl,i,t,v,m,w,rfl,d,ne⟩ |⟨rfl,i,hk,hb,_⟩ |⟨rfl,i,c⟩
 ·rcases B with⟨rfl,l,rfl,u⟩ |⟨rfl,C⟩;·refine go (fun H=>Tn H t v n m w/\H l=some (.lst [])) (dd:=.lst []) (by unfold due;rw[decide_eq_false i];rfl) (by decide) ⟨d,u⟩ (fun _ _ h s=>⟨h.1.same s,s _ _ h.2⟩) fun b j p Q q=>.inr (.inr ⟨t,l,v,n,m,w,rfl,rfl,j.1,ne,j.2,fun f l2 r k=>q _ l2 ⟨j.1.gr r p,r.lst p j.2⟩ r ⟨l2,[],rfl,SqL.of k,rfl⟩⟩)
  ·rw[if_neg i]at C;refine go (fun H=>Tn H t v n m w/\NoT n y H) (dd:=.lst [.bl true,.bl false,.bl true,.bl false,.bl false]) (by unfold due;rw[decide_eq_false i];rfl) (by decide) ⟨d,C⟩ (fun _ _ h s=>⟨h.1.same s,nJ _ _ _ s h.2⟩) fun b j p Q q=>.inr (.inl ⟨j.1.tab.1,j.1.tab.2.1,cons j.1 ne,.inl ⟨by rw[j.1.count ne];exact j.2,fun f l2 a k=>q _ l2 ⟨j.1.same a,nJ _ _ _ a j.2⟩ (Gr.of a) (sV k)⟩⟩)
 ·have a1:F=false:=by rcases B with⟨e,_⟩ |⟨e,_⟩<;>exact e
  have a6:∃o,TlX Hb y o:=by
   rcases B with⟨_,l,rfl,u⟩ |⟨_,o,h,_⟩;·exact⟨_,yY u⟩
   ·exact⟨o,h⟩
  subst a1;refine go (fun H=>Kn4 H x/\(bN H x=false\/∃t,x=.ref t/\H t=some (.lst []))/\∃o,TlX H y o) (dd:=.lst [.bl true,.bl true,.bl false,.bl false,.bl false]) (by unfold due;rw[decide_eq_false i];rfl) (by decide) ⟨hk,hb,a6⟩ (fun _ _ h s=>⟨h.1.same s,h.2.1.imp (fun e=>by rw[iX h.1 s];exact e) (fun⟨t,e,h⟩=>⟨t,e,s _ _ h⟩),let⟨o,h⟩:=h.2.2;⟨o,h.same s⟩⟩) fun b j p Q q=>.inl ⟨j.1,j.2.1,j.2.2,fun f l2 a k=>q _ l2 ⟨j.1.same a,j.2.1.imp (fun e=>by rw[iX j.1 a];exact e) (fun⟨t,e,h⟩=>⟨t,e,a _ _ h⟩),let⟨o,h⟩:=j.2.2;⟨o,h.same a⟩⟩ (Gr.of a) (sV k)⟩
 ·rcases B with⟨rfl,l,rfl,u⟩ |⟨rfl,C⟩;·refine go (fun H=>Ck x H/\H l=some (.lst [])) (dd:=.lst [.bl true,.bl false,.bl false,.bl true,.bl false,.tup [.int 0,.int 1,.tup [.str "a",.str "b",.str "d",.str "c"]]]) (by unfold due;rw[decide_eq_true i];rfl) (by simp[hgt,gh]) ⟨c,u⟩ (fun _ _ h s=>⟨uR _ _ _ s h.1,s _ _ h.2⟩) fun b j p Q q=>?_;obtain⟨L,M,N,O,P,_⟩:=j.1.tab (K:=K);refine .inr (.inl ⟨L,M,N,.inr ⟨⟨l,rfl,j.2⟩,0,1,by rw[O,P];exact first4,fun f l2 a7 a8 r k hp U=>?_⟩⟩);rw[P,names4]at U;exact q _ l2 ⟨j.1.gr r p,r.lst p j.2⟩ r ⟨l2,_,rfl,SqL.of k,_,_,rfl,rfl,_,_,rfl,rfl,_,_,rfl,rfl,_,_,rfl,rfl,_,_,rfl,rfl,_,_,rfl,⟨a7,_,rfl,SqT.of hp,_,_,rfl,rfl,_,_,rfl,rfl,_,_,rfl,⟨a8,_,rfl,SqT.of U,_,_,rfl,rfl,_,_,rfl,rfl,_,_,rfl,rfl,_,_,rfl,rfl,rfl⟩,rfl⟩,rfl⟩
  ·rw[if_pos i]at C;refine go (fun H=>Ck x H/\NoT 3 y H) (dd:=.lst [.bl true,.bl false,.bl true,.bl false,.bl false]) (by unfold due;rw[decide_eq_true i];rfl) (by decide) ⟨c,C⟩ (fun _ _ h s=>⟨uR _ _ _ s h.1,nJ _ _ _ s h.2⟩) fun b j p Q q=>?_;obtain⟨L,M,N,O,P,_⟩:=j.1.tab (K:=K);exact .inr (.inl ⟨L,M,N,.inl ⟨by rw[O];exact j.2,fun f l2 a k=>q _ l2 ⟨uR _ _ _ a j.1,nJ _ _ _ a j.2⟩ (Gr.of a) (sV k)⟩⟩)
theorem Xc.same{a:Int}(h:Xc K H x d1 n a)(s:aA H H'):Xc K H' x d1 n a:=by
 rcases h with⟨e,b,t,k,g,l,i,d,ne⟩ |⟨e,b,f,j,o⟩ |⟨e,b,c⟩;·exact .inl ⟨e,b,t,k,g,l,i,d.same s,ne⟩
 ·exact .inr (.inl ⟨e,b,f.same s,j.imp (fun e=>by rw[iX f s];exact e) (fun⟨t,e,h⟩=>⟨t,e,s _ _ h⟩),E8 _ _ _ s o⟩)
 ·exact .inr (.inr ⟨e,b,uR _ _ _ s c⟩)
def sk(s:aA Hb H)(h:Hb dl=none):aA Hb (del H dl):=fun b o e=>by rw[fG (bI e h)];exact s _ _ e
def ya{o:HO}(s:aA Hb H):aA (upd Hb l o) (upd H l o):=fun b u e=>by
 by_cases c:b=l;·rw[c,aq]at e⊢;exact e
 ·rw[aW c]at e⊢;exact s _ _ e
def lw_8(g:G63 G K T){D:Ends}{E:XS}{r:Addr}{e dr:Int}{q us:List V}{p:Option V}(tb:Tab T Hb)(N:Hb dl=none)(s:aA Hb H)(t:H dl=some (.lst [.bl true,.bl d1,.bl false,.bl false,.bl false]))(I:SqL K Hb a (ns.map V.int))(O:Hb nl=some (.lst q))(h0:q[0]? =some (.ref r))(L:SqT K Hb r us)(Z:us.length=n)(Q:Xc K Hb x d1 n e)(U:∀H',D.rt (.bl true) H'):
  wpB G K E u5 D [some (.ref a),some x,some (.ref nl),p,some (.int e),some (.int dr),some (.ref dl),none,none,none] H:=by
 unfold u5;ext;refine⟨aM _,fun b m=>?_⟩;have S:dl≠b:=fun z=>by rw[<-z,t]at m;cases m
 have h:=au (o:=.lst []) (s.free m);have d:=ya (l:=b) (o:=.lst []) s;have k:upd H b (.lst []) dl=some (.lst [.bl true,.bl d1,.bl false,.bl false,.bl false]):=by rw[aW S];exact t
 have u:upd Hb b (.lst []) dl=none:=by rw[aW S];exact N
 have C:upd Hb b (.lst []) b=some (.lst []):=aq;have A:=(Gr.of (T:=T) h).tab tb;have v:=Q.same h;have J:=h.seq I;have P:=h _ _ O;have M:=h.tup L;clear tb N s t I O L Q m;generalize upd H b (.lst [])=H1 at d k⊢;generalize upd Hb b (.lst [])=B1 at h d u C A v J P M;unfold Gs;ext;refine⟨_,_,g.gc,a,ns,3,rfl,d.seq J,iZ.mpr ⟨by decide,jD.mpr ⟨_,rfl,?_⟩⟩⟩;by_cases c:ns.getD 3 0%2=1
 ·rw[if_pos (decide_eq_true c)];have R:∀{i:Hp}{y:V},aA H1 i->NoT (if e=3 then 3 else n) y (del i dl)->rIx K (V.ref dl) (V.int 1) i fun x5 B=>∃c,x5=V.bl c/\Fn (V.ref dl) (V.int 2) (V.bl !c) B fun X=>wpB G K E oJ D [some (.ref a),some x,some (.ref nl),p,some (.int e),some (.int dr),some (.ref dl),some y,none,none] X:=fun{i y} f w=>by have F:=f _ _ k;refine .inl ⟨dl,_,1,_,rfl,rfl,SqL.of F,rfl,d1,rfl,dl,_,2,2,rfl,rfl,F,rfl,?_⟩;have W:=sk (d.trans f) u;exact Lp g ((Gr.of (T:=T) W).tab A) fk (dj j8 fk) aq (v.same W) (.inr ⟨rfl,w⟩) U
  refine⟨_,_,g.gt,.inl ⟨nl,q,0,_,rfl,rfl,SqL.of (d _ _ P),(cC (j:=0) h0:atI q ((0:Nat):Int)=_),.inl ⟨r,us,rfl,.inr (d.tup M),us.length,dr,dl,_,rfl,k,fun i y f w=>?_⟩⟩⟩;show if decide (e=3)=true then _ else _
  by_cases b3:e=3;·rw[if_pos (decide_eq_true b3)];exact⟨_,_,g.gt,3,dr,dl,_,rfl,f _ _ k,fun B y3 p Y=>R (f.trans p) (by rw[if_pos b3];exact Y)⟩
  ·rw[if_neg (fun z=>b3 (of_decide_eq_true z))];exact R f (by rw[if_neg b3,<-Z];exact w)
 ·rw[if_neg (fun z=>c (of_decide_eq_true z))];exact Lp g A u d k v (.inl ⟨rfl,b,rfl,C⟩) U
def JM(K:ah)(T:Tb):Sp:=fun vs H Q _=>∃(a:Addr)(ns:List Int),vs=[.ref a]/\SqL K H a (ns.map V.int)/\ns.length<=63/\Tab T H/\∀H',Q (.bl true) H'
def wp_law(g:G63 G K T):Sat G K (JM K T) MD Lc:=by
 rintro vs H Q E ⟨a,s,rfl,ha,a3,tb,qq⟩;unfold MD;change wpB G K _ _ _ [some (.ref a),none,none,none,none,none,none,none,none,none] H;ext;refine⟨_,_,g.gb,a,s,4,rfl,ha,a3,by decide,fun r p t nl br F Y bs nf vf f A k s1 ep B n1 b4 a5 U a0 b1 bx=>?_⟩;refine⟨p,_,rfl,SqT.of ep,rfl,_,_,rfl,_,_,rfl,_,_,rfl,rfl,?_⟩;have tn:=B.tn;have ne:=B.ne;obtain⟨C,X,h0,a4,ul⟩:∃C X,(_root_.Q.dJ .non (Bt.nds f A k) Y)[0]? =some (.ref C)/\SqT K r C X/\X.length=k.length:=by
  have pe:=K83.mC V.non a5 (_root_.Q.kP U);have wl:0<(_root_.Q.dJ .non (Bt.nds f A k) Y).length:=by rw[pe.length_eq,<-_root_.Q.kP U];unfold Bt.nds;rw[ai,aY];lia
  obtain⟨b2,hi⟩:=bK.mp (pe.mem_iff.mp (a6 wl));obtain⟨b3,y,b,e,hb⟩:=j7 U hi;refine⟨b,_,by rw[ae wl,e],SqT.of hb,?_⟩;have y:=aI y;unfold Bt.nds at y;obtain⟨a9,_,rfl⟩:=aJ.mp y;rw[ai];exact Mt.td
 generalize Bt.rws F.length vf f A k=ac at tn;generalize _root_.Q.dJ .non (Bt.nds f A k) Y=ws at a0 h0;generalize k.length=n at *;have a8:=(Gr.of (T:=T) s1).tab tb;have P:=s1.seq ha;unfold Gz;ext;refine⟨_,_,g.gc,a,s,2,rfl,P,iZ.mpr ⟨by decide,?_⟩⟩;generalize s.getD 2 0%5=bits;unfold Gy;ext;refine⟨_,_,g.gm,_,_,g.gc,a,s,3,rfl,P,_,3,rfl,by decide,by decide,?_⟩;generalize Bt.mx (s.getD 3 0) 3=dr;unfold Gw;ext;refine⟨short (by simp),fun c j=>?_⟩;generalize hX:upd r c _=H2;obtain⟨m,d⟩:=eF hX j;clear hX;have go:∀{v i:Hp}{x:V}{Z:Bool},aA r v->v c=none->aA v i->i c=some (.lst [.bl true,.bl Z,.bl false,.bl false,.bl false])->Xc K v x Z n bits->wpB G K (fun _=>E) u5 {nx:=fun _ i=>Q .non i,rt:=Q} [some (.ref a),some x,some (.ref nl),some (.ref br),some (.int bits),some (.int dr),some (.ref c),none,none,none] i:=fun q w s' e' hx=>
  lw_8 g ((Gr.of (T:=T) q).tab a8) w s' e' (q.seq P) (q _ _ a0) h0 (q.tup a4) ul hx qq
 unfold Gu;ext;by_cases c1:bits=1
 ·rw[if_pos (decide_eq_true c1)];refine⟨aM _,fun l S=>?_⟩;have a1:c≠l:=fun z=>by rw[<-z,d]at S;cases S
  have a2:upd H2 l (.lst []) c=some (.lst [.bl true,.bl false,.bl false,.bl false,.bl false]):=by rw[aW a1];exact d
  refine⟨c,_,1,1,rfl,rfl,a2,rfl,?_⟩;have q:=au (o:=.lst []) (m.free S);have w:upd r l (.lst []) c=none:=by rw[aW a1];exact j
  have I:upd r l (.lst []) l=some (.lst []):=aq;unfold Aq;ext;rw[if_neg (by rw[c1];decide)];unfold u6;ext;rw[if_neg (by rw[c1];decide)];exact go q w (dj (ya m) w) aq (.inr (.inl ⟨rfl,by rw[c1];decide,FX I (aM _) (fun _ z=>nomatch z),.inr ⟨l,rfl,I⟩,[],qt I,aM _,fun _ z=>nomatch z⟩))
 ·rw[if_neg (fun z=>c1 (of_decide_eq_true z))];unfold Aq;ext;by_cases c2:bits=2;·rw[if_pos (decide_eq_true c2)];refine⟨_,_,g.gn,⟨by decide,by decide⟩,t,_,nf,n,F,ac,c,_,rfl,d,tn.same (sk m j),ne,fun H3 x u D=>?_⟩;refine⟨c,_,1,1,rfl,rfl,u _ _ d,rfl,?_⟩;have W:=sk (m.trans u) j;unfold u6;ext;rw[if_neg (by rw[c2];decide)];exact go W fk (dj j8 fk) aq (.inr (.inl ⟨rfl,by rw[c2];decide,D.1.1,.inl D.1.2,D.2⟩))
  ·rw[if_neg (fun z=>c2 (of_decide_eq_true z))];unfold u6 wpB R.wpS mz;simp only[wpT,Jw,tV,tOp,wpE,pK,tC,cv,ny,EX,fR,exists_eq_left'];refine jD.mpr ⟨_,rfl,?_⟩;by_cases c3:bits=3
   ·rw[if_pos (decide_eq_true c3)];unfold wpB R.wpS mz qm wpG iV;refine(?h:Mk G K (fun _=>E) _ H2 _ (fun x H=>Ck x (del H c))) H2 (aA.refl _) _ fun x H3 u ck=>?_
    case h=>
     exact(mH (jh (zT d (bq bZ (bq bZ (bq bZ dE)))) (di fM) (jh (zT d (bq bZ (bq bZ (bq bZ dE)))) (di fM) (jh (zT d (bq bZ (bq bZ (bq bZ dE)))) (di fM) (jh (zT d (bq bZ (bq bZ (bq bZ dE)))) (di fM) dE)))) (o4 (di fM) (o4 (di fM) (o4 (di fM) (o4 (di fM) A7)))) (fun vs i ⟨_,_,J,_,_,_,L,_,_,_,M,_,_,_,N,_,O⟩=>by subst J L M N O;simp)).imp fun a9 i a7 ⟨p,vs,e,h,x1,_,J,r1,x2,_,L,r2,x3,_,M,r3,x4,_,N,r4,O⟩=>by subst J L M N O;exact⟨p,x1,x2,x3,x4,e,Jh (a7 _ _ d) h (fun b5 z=>by obtain⟨b,_,e,_⟩:=r1;rw[e]at z;cases z),r1,r2,r3,r4⟩
    simp only[eR,eS];have W:=sk (m.trans u) j;exact go W fk j8 (u _ _ d) (.inr (.inr ⟨rfl,c3,ck⟩))
   ·rw[if_neg (fun z=>c3 (of_decide_eq_true z))];exact go (aA.refl _) j m d (.inl ⟨rfl,c3,t,nf,F,ac,rfl,tn,ne⟩)
end
end K63
set_option maxHeartbeats 0
namespace K63
open PySem PySem.Spec PySem.Calls PyProof.Rows L2 R Cp Lt Lm
def Aa(h:us.length=4):∃a b c d,us=[a,b,c,d]:=by
 cases us with
 |nil=>exact nomatch h
 |cons a r=>obtain⟨b,c,d,e⟩:=Kc.qR (jU h);exact⟨a,b,c,d,by rw[e]⟩
def kN{f g i j:Type}{P:f->g->i->j->Prop}{q:Prop}(h:∃a b c d,P a b c d)(k:∀a b c d,P a b c d->q):q:=let⟨a,b,c,d,e⟩:=h;k a b c d e
def Gg(h:us.length=5):∃a b c d e,us=[a,b,c,d,e]:=by
 cases us with
 |nil=>exact nomatch h
 |cons a r=>obtain⟨b,c,d,e,f⟩:=Aa (jU h);exact⟨a,b,c,d,e,by rw[f]⟩
abbrev Lz(st:Stmt):Pos:=match a7 st with
 |_::.Assign _ (.Call _ _ [⟨_,.Lambda _ _ _ p,_⟩] _) _::_=>p
 |_=>⟨0,0,0,0⟩
abbrev tb(p:Addr):Tb:=⟨p,Lz (top 18),"table_list.<locals>.<lambda>"⟩
def tl_ok:(pN jH qW (aO (top 18))&&chkK (aO (top 18)) jH lB 1 (.var 0) "copy" (Lz (top 18)) lA (a7 (top 18)))=true:=by decide+kernel
def tl_q:("table_list":Str)++".<locals>."++"<lambda>"="table_list.<locals>.<lambda>":=by decide+kernel
abbrev vals(C CE CC CT CO kd:Addr):List (Str×V):=[("LETTERS",.str LETTERS),("LONGEST_NAME",.int 8),("MOST_PLACES",.int 60),("MOST_COPIES",.int 40),("NoTable",.ref C),("KinError",.ref CE),("Clash",.ref CC),("Torn",.ref CT),("NoTelling",.ref CO),("KINDS",.ref kd)]
def uW{od:Option Addr}{i j:Int}{t u:Tok}(l:K.lookup a=some ⟨.type "tuple",od,.seq #[.int i t,.int j u] n,sl⟩)(H:Hp):SqT K H a [.int i,.int j]:=
 .inr ⟨_,_,_,l,rfl,rfl,by show 2<=sizeLine;decide,.cons ⟨t,rfl⟩ (.cons ⟨u,rfl⟩ .nil)⟩
def LG{a b c d:Addr}{od:Option Addr}{g h i j:Nat}{k:Array (Option Value)}{m o p t3 q u1 r s:Tok}(l:K.lookup kd=some ⟨.type "tuple",od,.seq #[.ref a,.ref b,.ref c,.ref d] n,sl⟩)
  (e:K.lookup a=some ⟨.type "tuple",o0,.seq #[.int 0 m,.int 0 q] g,s0⟩)(l1:K.lookup b=some ⟨.type "tuple",o1,.seq #[.int 0 o,.int 1 u1] h,k⟩)(l2:K.lookup c=some ⟨.type "tuple",o2,.seq #[.int 1 p,.int 0 r] i,s2⟩)(f:K.lookup d=some ⟨.type "tuple",o3,.seq #[.int 1 t3,.int 1 s] j,s3⟩):Kc.Kinds K kd:=
 ⟨a,b,c,d,fun H=>⟨.inr ⟨_,_,_,l,rfl,rfl,by show 4<=sizeLine;decide,.cons rfl (.cons rfl (.cons rfl (.cons rfl .nil)))⟩,uW e H,uW l1 H,uW l2 H,uW f H⟩⟩
def lP{cd:ClassData}(a:fw K (.ref C) "__getattribute__"=some (some (.builtin "BaseException.__getattribute__")))(b:fw K (.ref C) "__getattr__"=some none)(c:fw K (.ref C) "__class__"=some (some (.builtin "object.__class__")))
  (d:tP K (.builtin "object.__class__") "__get__"=some (some (.builtin "getset_descriptor.__get__")))(e:PySem.W.takesIn K (.builtin "object.__class__")=some true)(f:AJ K C (.type "object")=some true)(g:AJ K C (.type "BaseException")=some true)(h:PySem.W.clsIn K C=some cd):mX K C=true:=by
 unfold mX;rw[a,b,c,d,e,f,g,h];simp only[beq_self_eq_true,Bool.and_self,fS]
def wA{f:Str}{cd:ClassData}(a:mX K C=true)(b:fw K (.ref C) f=some none)(c:PySem.W.clsIn K C=some cd)(d:cd.hasDict=true):ke K C f=true:=by unfold ke;rw[a,b,c];simp only[beq_self_eq_true,Bool.and_self,d]
def Az(K:ah)(x:Str)(st:Stmt)(c p:Addr):Prop:=∃(f:Addr)(oc:Value)(od an:Option Addr)(bv:Array (Option Value))(kV bi pm ct:Value),cU K bu x=some (some (.ref f))/\
 K.lookup f=some ⟨oc,od,.func (aB x x (bf st) (a7 st) (aO st) .none kV bi pm an (.ref c) ct),bv⟩/\eJ K (.ref c) x=true/\b7 K (.ref f)=true/\MZ K c p=true
def yr{x:Str}{st:Stmt}{od an:Option Addr}{kV:Value}(a:cU K bu x=some (some (.ref f)))
  (l:K.lookup f=some ⟨oc,od,.func (aB x x (bf st) (a7 st) (aO st) .none kV bi pm an (.ref c) ct),bv⟩)(k:eJ K (.ref c) x=true)(q:b7 K (.ref f)=true)(h:MZ K c p=true):∃c,Az K x st c p:=
 ⟨c,f,oc,od,an,bv,kV,bi,pm,ct,a,l,k,q,h⟩
def add_fnK{vals:List (Str×V)}{e:List ((Str×Nat)×(Sp×List V))}{x:Str}{st:Stmt}{sp:Sp}{o:CS}{r:R.CE}{q:CB}{T:Tb}{j:List ((Str×Nat)×(Addr×Sp×List V))}{b:List (Addr×List (Key×V))}
  (g:GOk P w K mg base (CXx P w) k (gam vals e j b))(X:K.In h)(u:K.In base)(t:h.Ns bu mg)(d:Az K x st c T.P)(m:(pN N ps (aO st)&&chkK (aO st) N o i r lx T.pos q (a7 st))=true)(hq:x++".<locals>."++"<lambda>"=T.q)(z:BM mg base)
  (B:∀(p:Pos)(y:Expr)(scope:Scope)(qual:Str)(pm ce v:Value)(c':Addr),qK (PySem.W.kla_fn "<lambda>" qual (rJ lx p) y scope [] pm (.ref c') ce) ⟨[v],[]⟩=pure [(lx,v)])
  (A:∀(kV bi pm:Value)(an:Option Addr)(ap ct:Value)(us:List Value),us.length=ps.length->qK (aB x x (bf st) (a7 st) (aO st) .none kV bi pm an ap ct) ⟨us,[]⟩=pure (ps.zip us))(len:∀vs H Q E,sp vs H Q E->vs.length=ps.length)
  (C:∀vs H Q E,sp vs H Q E->mz (R.wpS (gam vals e j b) K (fun _=>E) o) (mz (qm (vk K T (wpE (gam vals e j b) K (fun _=>E) r)) (iV i)) (wpB (gam vals e j b) K (fun _=>E) q)) {nx:=fun _ H'=>Q .non H',rt:=Q} (L2.start N vs) H):
  GOk P w K mg base (CXx P w) (k+1) (gam vals (((x,ps.length),(sp,[]))::e) j b):=by
 rw[az]at m;obtain⟨f,I,od,an,J,kV,bi,pm,ct,a,l,D,s,G⟩:=d;have F:=Es l D s;exact g.add (n:=ps.length) (L5 F m.1 m.2 rfl (GI u G) hq z B g len C) (cO X t a) s (F.binds A) .nil
def El{kV:Value}{an:Option Addr}:Binds K (aB "__init__" "Clash.__init__" (bf (jy 2 0)) (a7 (jy 2 0)) (aO (jy 2 0)) .none kV bi pm an ap ct) K32.mV []:=fun s b X a=>by rw[ff]at a⊢;obtain⟨_,_,_,_,rfl⟩:=Aa a;exact .of_eq rfl
def init_ok:(pN K32.ju K32.mV (aO (jy 2 0))&&qC (aO (jy 2 0)) K32.ju K32.jz (a7 (jy 2 0)))=true:=by decide+kernel
def all_mk(X:K.In h)(d:h.Ns bu mg)(h9:mg "law"=some (.ref fa)){r t t3 y:Tok}{CE g CO:Addr}{i1 Z i4 cdI W:Value}
  (v1:cU K bu "LETTERS"=some (some (.str LETTERS r)))(v2:cU K bu "LONGEST_NAME"=some (some (.int 8 t)))(v3:cU K bu "MOST_PLACES"=some (some (.int 60 t3)))(v4:cU K bu "MOST_COPIES"=some (some (.int 40 y)))(v5:cU K bu "NoTable"=some (some (.ref C)))(v6:cU K bu "KinError"=some (some (.ref CE)))(z:cU K bu "Clash"=some (some (.ref CC)))(v8:cU K bu "Torn"=some (some (.ref g)))(v9:cU K bu "NoTelling"=some (some (.ref CO)))(i8:cU K bu "KINDS"=some (some (.ref kd)))
  (A:XC K C)(xo:XC K CO)(D:Rg K CE C CO CC g C true false false)(F:Rg K CE C CO CC g CO false true false)(G:Rg K CE C CO CC g CC false false true)(f1:ke K CC "one"=true)(f2:ke K CC "other"=true)(f3:ke K CC "names"=true)(i2:Kc.Kinds K kd)(mx:tF K CC fI bmV "ValueError.__new__"=true)(kI:b7 K (.ref CC)=true)(q:K.lookup fI=some ⟨.type "function",dL,.func (aB "__init__" "Clash.__init__" (bf (jy 2 0)) (a7 (jy 2 0)) (aO (jy 2 0)) .none i1 Z i4 dC cdI W),dt⟩)(S:eJ K cdI "Clash.__init__"=true)(L:tP K (.ref CE) "__getattribute__"=some (some (.builtin "type.__getattribute__")))(M:PySem.W.readsIn K CE (.type "type")=true)(O:PySem.W.findCls K (.ref CE) (.type "type") "__init__"=some (.val (.builtin "ValueError.__init__")))(i5:StX K CC "one")(i6:StX K CC "other")(i7:StX K CC "names")(bl:∀x∈jj,cU K bu x=some none)
  (d1:HasFn K "is_whole" (top 11))(d2:HasFn K "is_name" (top 12))(d3:HasFn K "is_reading" (top 13))(d4:HasFn K "are_readings" (top 14))(d5:HasFn K "is_copy" (top 15))(d6:HasFn K "is_table" (top 16))(d7:HasFn K "need_table" (top 17))(d8:HasFn K "place_count" (top 19))(d9:HasFn K "first_of_kinds" (top 22))(e0:HasFn K "clash" (top 23))(e1:HasFn K "refuse_clash" (top 24))(e2:HasFn K "group_at" (top 26))(e3:HasFn K "turned" (top 27))(e4:HasFn K "grown" (top 28))(e5:HasFn K "tree" (top 29))(e6:HasFn K "is_telling" (top 31))(e7:HasFn K "are_tellings" (top 32))(e8:HasFn K "need_tellings" (top 33))(e9:HasFn K "that_read" (top 34))(f0:HasFn K "told_nodes" (top 36))(f4:HasFn K "stands" (top 37))(f5:HasFn K "unknown_places" (top 38))(f6:HasFn K "first_read" (top 39))(f7:HasFn K "_law_cell_at" (top 41))(f8:HasFn K "_law_mixed" (top 43))(f9:HasFn K "_law_owners" (top 44))(h0:HasFn K "_law_grown" (top 45))(h1:HasFn K "_law_nodes" (top 46))(h2:HasFn K "_law_name" (top 47))(h3:HasFn K "_law_copies" (top 48))(h4:HasFn K "_law_built" (top 49))(h5:HasFn K "_law_no_table" (top 50))(h6:HasFn K "_law_no_tellings" (top 51))(h7:HasFn K "_law_truths" (top 52))(i:∃c,Az K "table_list" (top 18) c p)(h8:HasFn K "law" (top 53)):
  ∃fd:fg,(∀(s:Shared)(v:Value),BindsTo s fd ⟨[v],[]⟩ [("_law_script",v)])/\∀base:Heap,K.In base->base.Ns bu mg->BM mg base->jm P w K mg base CX0 38 fa fd ["_law_script"] (fun vs H Q _=>JM K (tb p) vs H Q E0):=by
 obtain⟨i9,j0,od,an,j1,kV,Y,pm,U,V,a,i3,c,i0⟩:=id h8;have e:=h9.symm.trans (cO X d a);cases e;obtain⟨cc,i⟩:=i;refine⟨aB "law" "law" (bf (top 53)) (a7 (top 53)) (aO (top 53)) .none kV Y pm an U V,fun s v=>.of_eq rfl,fun base J _ R=>?_⟩;have hv:∀x v,(x,v)∈vals C CE CC g CO kd->∃u,mg x=some u/\RelV v u:=by
  intro x v m;simp only[vals,aG,cu,or_false,Prod.mk.injEq]at m;rcases m with⟨rfl,rfl⟩ |⟨rfl,rfl⟩ |⟨rfl,rfl⟩ |⟨rfl,rfl⟩ |⟨rfl,rfl⟩ |⟨rfl,rfl⟩ |⟨rfl,rfl⟩ |⟨rfl,rfl⟩ |⟨rfl,rfl⟩ |⟨rfl,rfl⟩;·exact⟨_,cO X d v1,r,rfl⟩
  ·exact⟨_,cO X d v2,t,rfl⟩
  ·exact⟨_,cO X d v3,t3,rfl⟩
  ·exact⟨_,cO X d v4,y,rfl⟩
  ·exact⟨_,cO X d v5,rfl⟩
  ·exact⟨_,cO X d v6,rfl⟩
  ·exact⟨_,cO X d z,rfl⟩
  ·exact⟨_,cO X d v8,rfl⟩
  ·exact⟨_,cO X d v9,rfl⟩
  ·exact⟨_,cO X d i8,rfl⟩
 have g0:GOk P w K mg base (CXx P w) 0 (gam (vals C CE CC g CO kd) []):=GOk.start hv fun x hx=>PySem.W.mg_none_of X d (bl x hx);have g1:=cR (N:=Cp.vU) (ps:=Cp.DU) g0 (d1.def X d) (by decide+kernel) (fun _ _ _ _ _ _ f b=>by obtain⟨_,rfl⟩:=Kc.iI b;rfl) (sp:=spB isWhole) (fun vs H Q E h=>Kc.de h fun _ h=>Kc.fT h rfl) AV;have g2:=cR (N:=Cp.yi) (ps:=Cp.Hq) g1 (d2.def X d) (by decide+kernel) (fun _ _ _ _ _ _ f b=>by obtain⟨_,rfl⟩:=Kc.iI b;rfl) (sp:=spN) (fun vs H Q E h=>Kc.de h fun _ h=>Kc.fT h rfl) (Ds (by kernel_rfl) (by kernel_rfl));have g3:=cR (N:=Cp.rC) (ps:=Cp.zF) g2 (d3.def X d) (by decide+kernel) (fun _ _ _ _ _ _ f b=>by obtain⟨_,rfl⟩:=Kc.iI b;rfl) (sp:=spB bJ) (fun vs H Q E h=>Kc.de h fun _ h=>Kc.fT h rfl) (xw (by kernel_rfl));have g4:=cR (N:=Cp.nU) (ps:=Cp.vM) g3 (d4.def X d) (by decide+kernel) (fun _ _ _ _ _ _ f b=>by obtain⟨_,rfl⟩:=Kc.iI b;rfl) (sp:=spR) (fun vs H Q E h=>Kc.de h fun _ h=>Kc.fT h rfl) (uD (by kernel_rfl) (by kernel_rfl));have g5:=cR (N:=Cp.yj) (ps:=Cp.Hr) g4 (d5.def X d) (by decide+kernel) (fun _ _ _ _ _ _ f b=>by obtain⟨_,rfl⟩:=Kc.iI b;rfl) (sp:=spC) (fun vs H Q E h=>Kc.de h fun _ h=>Kc.fT h rfl) (Dt (by kernel_rfl) (by kernel_rfl));have g6:=cR (N:=Cp.vV) (ps:=Cp.DV) g5 (d6.def X d) (by decide+kernel) (fun _ _ _ _ _ _ f b=>by obtain⟨_,rfl⟩:=Kc.iI b;rfl) (sp:=Cp.spT) (fun vs H Q E h=>Kc.de h fun _ h=>Kc.fT h rfl) (AW (by kernel_rfl) (by kernel_rfl));have g7:=cR (N:=Cp.rn) (ps:=Cp.zA) g6 (d7.def X d) (by decide+kernel) (fun _ _ _ _ _ _ f b=>by obtain⟨_,rfl⟩:=Kc.iI b;rfl) (sp:=y9 C) (fun vs H Q E h=>Kc.de h fun _ h=>Kc.fT h rfl) (xv (by kernel_rfl) (by kernel_rfl) A);have g8:=add_fnK (T:=tb p) (N:=jH) (ps:=qW) (lx:="copy") g7 X J d i tl_ok tl_q R (fun _ _ _ _ _ _ _ _=>rfl) (fun _ _ _ _ _ _ f b=>by obtain⟨_,rfl⟩:=Kc.iI b;rfl) (sp:=za C (tb p)) (fun vs H Q E h=>Kc.de h fun _ h=>Kc.fT h rfl) (xu (C:=C) (by kernel_rfl));have g9:=cR (N:=Cp.pO) (ps:=Cp.xB) g8 (d8.def X d) (by decide+kernel) (fun _ _ _ _ _ _ f b=>by obtain⟨_,rfl⟩:=Kc.iI b;rfl) (sp:=uS C) (fun vs H Q E h=>Kc.de h fun _ h=>Kc.fT h rfl) (vh (C:=C) (by kernel_rfl));have a0:=cR (N:=Kc.lM) (ps:=Kc.sY) g9 (d9.def X d) (by decide+kernel) (fun _ _ _ _ _ _ f b=>by obtain⟨_,_,_,rfl⟩:=Kc.qR b;rfl) (sp:=Kc.zd) (fun vs H Q E h=>kN h fun _ _ _ _ h=>Kc.de h fun _ h=>Kc.fT h rfl) (Kc.Jd (by kernel_rfl) i2);have l:=cR (N:=K22.FK) (ps:=K22.p_clash) a0 (e0.def X d) (by decide+kernel) (fun _ _ _ _ _ _ f b=>by obtain⟨_,rfl⟩:=Kc.iI b;rfl) (sp:=K22.ze C (tb p)) (fun vs H Q E h=>Kc.de h fun _ h=>Kc.fT h rfl) (K22.Je (C:=C) (T:=tb p) (by kernel_rfl) (by kernel_rfl) (by kernel_rfl));have nt:K32.Cl K CE CC:=⟨⟨L,M,O⟩,i5,i6,i7,fI,mx⟩;have hi:=fh.mp init_ok;have a1:=l.addI (n:=3) (x:="Clash") (C:=CC) ⟨mx,⟨_,q,rfl⟩,kI⟩ (Ca q S hi.1 hi.2 l (sp:=K32.zb CC) (fun vs H Q E h=>Kc.de h fun _ h=>Kc.de h fun _ h=>Kc.de h fun _ h=>Kc.de h fun _ h=>Kc.fT h rfl) (K32.Jb (B:=CE) (C:=CC) (by kernel_rfl) nt)) (cO X d z) El .nil;have a2:=cR (N:=K32.nR) (ps:=K32.vJ) a1 (e1.def X d) (by decide+kernel) (fun _ _ _ _ _ _ f b=>by obtain⟨_,rfl⟩:=Kc.iI b;rfl) (sp:=K32.vt C CC (tb p)) (fun vs H Q E h=>Kc.de h fun _ h=>Kc.fT h rfl) (K32.GU (C:=C) (CC:=CC) (T:=tb p) (by kernel_rfl) (by kernel_rfl));have a3:=cR (N:=K32.vW) (ps:=K32.DW) a2 (e2.def X d) (by decide+kernel) (fun _ _ _ _ _ _ f b=>by obtain⟨_,_,rfl⟩:=Kc.gd b;rfl) (sp:=K32.zc) (fun vs H Q E h=>kN h fun _ _ _ _ h=>Kc.de h fun _ h=>Kc.fT h rfl) K32.Jc;have a4:=cR (N:=K32.BJ) (ps:=K32.KZ) a3 (e3.def X d) (by decide+kernel) (fun _ _ _ _ _ _ f b=>by obtain⟨_,_,rfl⟩:=Kc.gd b;rfl) (sp:=K32.nK K) (fun vs H Q E h=>kN h fun _ _ _ _ h=>Kc.fT h rfl) K32.GS;have a5:=cR (N:=K32.FJ) (ps:=K32.p_grown) a4 (e4.def X d) (by decide+kernel) (fun _ _ _ _ _ _ f b=>by obtain⟨_,rfl⟩:=Kc.iI b;rfl) (sp:=K32.vy) (fun vs H Q E h=>kN h fun _ _ _ _ h=>Kc.fT h rfl) (K32.GW (by kernel_rfl) (by kernel_rfl));have a6:=cR (N:=K32.Lb) (ps:=K32.p_tree) a5 (e5.def X d) (by decide+kernel) (fun _ _ _ _ _ _ f b=>by obtain⟨_,rfl⟩:=Kc.iI b;rfl) (sp:=K32.sS C CC (tb p)) (fun vs H Q E h=>Kc.de h fun _ h=>Kc.fT h rfl) (K32.wp_tree (C:=C) (CC:=CC) (T:=tb p) (by kernel_rfl) (by kernel_rfl) (by kernel_rfl));have a8:=cR (N:=K75.rB) (ps:=K75.zE) a6 (e6.def X d) (by decide+kernel) (fun _ _ _ _ _ _ f b=>by obtain⟨_,_,rfl⟩:=Kc.gd b;rfl) (sp:=K63.JK) (fun vs H Q E h=>Kc.de h fun _ h=>Kc.de h fun _ h=>Kc.de h fun _ h=>Kc.fT h rfl) (K63.wp_tgA (by kernel_rfl) (by kernel_rfl));have a9:=cR (N:=K75.nT) (ps:=K75.vL) a8 (e7.def X d) (by decide+kernel) (fun _ _ _ _ _ _ f b=>by obtain⟨_,_,rfl⟩:=Kc.gd b;rfl) (sp:=K63.JN) (fun vs H Q E h=>Kc.de h fun _ h=>Kc.de h fun _ h=>Kc.de h fun _ h=>Kc.fT h rfl) (K63.wp_atA (by kernel_rfl));have b0:=cR (N:=K63.mW) (ps:=K63.uG) a9 (e8.def X d) (by decide+kernel) (fun _ _ _ _ _ _ f b=>by obtain⟨_,_,rfl⟩:=Kc.gd b;rfl) (sp:=K63.Ba C CO) (fun vs H Q E h=>Kc.de h fun _ h=>Kc.de h fun _ h=>Kc.de h fun _ h=>Kc.fT h rfl) (K63.wp_ntA (C:=C) (CO:=CO) (by kernel_rfl) (by kernel_rfl) (by kernel_rfl) A (by kernel_rfl) xo);have b4:=cR (N:=K75.tX) (ps:=K75.Bn) b0 (e9.def X d) (by decide+kernel) (fun _ _ _ _ _ _ f b=>by obtain⟨_,_,rfl⟩:=Kc.gd b;rfl) (sp:=K75.JJ K) (fun vs H Q E h=>kN h fun _ _ _ _ h=>Kc.de h fun _ h=>Kc.de h fun _ h=>Kc.de h fun _ h=>Kc.fT h rfl) K75.wp_thr;have b5:=cR (N:=K75.rm) (ps:=K75.zy) b4 (f0.def X d) (by decide+kernel) (fun _ _ _ _ _ _ f b=>by obtain⟨_,_,rfl⟩:=Kc.gd b;rfl) (sp:=K75.JI K) (fun vs H Q E h=>kN h fun _ _ _ _ h=>Kc.de h fun _ h=>Kc.de h fun _ h=>Kc.de h fun _ h=>Kc.fT h rfl) (K75.wp_tn (by kernel_rfl));have b6:=cR (N:=K63.BK) (ps:=K63.K0) b5 (f4.def X d) (by decide+kernel) (fun _ _ _ _ _ _ f b=>by obtain⟨_,_,rfl⟩:=Kc.gd b;rfl) (sp:=K63.G3 (tb p) C CO CC) (fun vs H Q E h=>Kc.de h fun _ h=>Kc.de h fun _ h=>Kc.fT h rfl) (K63.wp_stA (T:=tb p) (by kernel_rfl) (by kernel_rfl) (by kernel_rfl));have b8:=cR (N:=K75.lL) (ps:=K75.sX) b6 (f5.def X d) (by decide+kernel) (fun _ _ _ _ _ _ f b=>by obtain⟨_,_,_,rfl⟩:=Kc.qR b;rfl) (sp:=K75.spUp K) (fun vs H Q E h=>kN h fun _ _ _ _ h=>kN h fun _ _ _ _ h=>Kc.de h fun _ h=>Kc.fT h rfl) K75.wp_up;have b9:=cR (N:=K75.rD) (ps:=K75.zG) b8 (f6.def X d) (by decide+kernel) (fun _ _ _ _ _ _ f b=>by obtain⟨_,_,rfl⟩:=Kc.gd b;rfl) (sp:=K63.G3 (tb p) C CO CC) (fun vs H Q E h=>Kc.de h fun _ h=>Kc.de h fun _ h=>Kc.fT h rfl) (K63.wp_frA (T:=tb p) (by kernel_rfl) (by kernel_rfl) (by kernel_rfl) (by kernel_rfl));have c0:=cR (N:=Lt.pP) (ps:=Lt.xC) b9 (f7.def X d) (by decide+kernel) (fun _ _ _ _ _ _ f b=>by obtain⟨_,_,rfl⟩:=Kc.gd b;rfl) (sp:=Lt.vB K) (fun vs H Q E h=>Kc.de h fun _ h=>Kc.de h fun _ h=>Kc.de h fun _ h=>Kc.fT h rfl) Lt.wp_cell;have c1:=cR (N:=Bt.tZ) (ps:=Bt.Bp) c0 (f8.def X d) (by decide+kernel) (fun _ _ _ _ _ _ f b=>by obtain⟨_,_,rfl⟩:=Kc.gd b;rfl) (sp:=Bt.Bb) (fun vs H Q E h=>Kc.de h fun _ h=>Kc.de h fun _ h=>Kc.fT h rfl) Bt.wp_mix;have c2:=cR (N:=Bt.rq) (ps:=Bt.zC) c1 (f9.def X d) (by decide+kernel) (fun _ _ _ _ _ _ f b=>by obtain⟨_,_,_,_,rfl⟩:=Aa b;rfl) (sp:=Bt.vx) (fun vs H Q E h=>kN h fun _ _ _ _ h=>Kc.de h fun _ h=>Kc.fT h rfl) Bt.GV;have c3:=cR (N:=Bt.t5) (ps:=Bt.Bq) c2 (h0.def X d) (by decide+kernel) (fun _ _ _ _ _ _ f b=>by obtain⟨_,_,rfl⟩:=Kc.gd b;rfl) (sp:=Bt.vz K) (fun vs H Q E h=>Kc.de h fun _ h=>Kc.de h fun _ h=>Kc.de h fun _ h=>Kc.fT h rfl) (Bt.GX (by kernel_rfl) (by kernel_rfl));have c4:=cR (N:=Bt.tY) (ps:=Bt.Bo) c3 (h1.def X d) (by decide+kernel) (fun _ _ _ _ _ _ f b=>by obtain⟨_,_,_,_,_,rfl⟩:=Gg b;rfl) (sp:=Bt.y8) (fun vs H Q E h=>kN h fun _ _ _ _ h=>Kc.de h fun _ h=>Kc.de h fun _ h=>Kc.de h fun _ h=>Kc.fT h rfl) Bt.Ja;have c5:=cR (N:=Bt.vT) (ps:=Bt.DT) c4 (h2.def X d) (by decide+kernel) (fun _ _ _ _ _ _ f b=>by obtain⟨_,_,rfl⟩:=Kc.gd b;rfl) (sp:=Bt.spNm) (fun vs H Q E h=>Kc.de h fun _ h=>Kc.de h fun _ h=>Kc.fT h rfl) Bt.wp_nm;have c6:=cR (N:=Bt.rA) (ps:=Bt.zD) c5 (h3.def X d) (by decide+kernel) (fun _ _ _ _ _ _ f b=>by obtain⟨_,_,_,_,_,rfl⟩:=Gg b;rfl) (sp:=Bt.vA) (fun vs H Q E h=>kN h fun _ _ _ _ h=>Kc.de h fun _ h=>Kc.de h fun _ h=>Kc.de h fun _ h=>Kc.fT h rfl) (Bt.GY (by kernel_rfl));have c7:=cR (N:=Bt.t7) (ps:=Bt.Br) c6 (h4.def X d) (by decide+kernel) (fun _ _ _ _ _ _ f b=>by obtain⟨_,_,rfl⟩:=Kc.gd b;rfl) (sp:=Bt.zf K) (fun vs H Q E h=>Kc.de h fun _ h=>Kc.de h fun _ h=>Kc.de h fun _ h=>Kc.fT h rfl) (Bt.Jf (by kernel_rfl) (by kernel_rfl) (by kernel_rfl) (by kernel_rfl) (by kernel_rfl) (by kernel_rfl));have c8:=cR (N:=K63.nS) (ps:=K63.vK) c7 (h5.def X d) (by decide+kernel) (fun _ _ _ _ _ _ f b=>by obtain⟨_,_,rfl⟩:=Kc.gd b;rfl) (sp:=K63.DC K) (fun vs H Q E h=>kN h fun _ _ _ _ h=>kN h fun _ _ _ _ h=>Kc.fT h rfl) K63.wp_noTb;have c9:=cR (N:=K63.kM) (ps:=K63.qX) c8 (h6.def X d) (by decide+kernel) (fun _ _ _ _ _ _ f b=>by obtain⟨_,_,rfl⟩:=Kc.gd b;rfl) (sp:=K63.JL) (fun vs H Q E h=>kN h fun _ _ _ _ h=>Kc.fT h rfl) K63.wp_noT;have I:∀k o,Xg (gam (vals C CE CC g CO kd) k o) CE C CO CC g:=fun k o=>⟨by kernel_rfl,by kernel_rfl,by kernel_rfl,by kernel_rfl,by kernel_rfl⟩;have d0:=cR (N:=K63.rp) (ps:=K63.zB) c9 (h7.def X d) (by decide+kernel) (fun _ _ _ _ _ _ f b=>by obtain⟨_,_,_,rfl⟩:=Kc.qR b;rfl) (sp:=K63.JH (tb p)) (fun vs H Q E h=>Kc.de h fun _ h=>Kc.de h fun _ h=>Kc.de h fun _ h=>Kc.fT h rfl) (K63.wp_trA (T:=tb p) (I _ _) D F G f1 f2 f3 (by kernel_rfl) (by kernel_rfl));have j:(pN K63.Lc K63.p_law (aO (top 53))&&qC (aO (top 53)) K63.Lc K63.MD (a7 (top 53)))=true:=by decide+kernel
 rw[az]at j;exact jm.calm (Gf (Es i3 c i0) j.1 j.2 d0 (fun vs H Q E h=>Kc.de h fun _ h=>Kc.de h fun _ h=>Kc.fT h rfl) (wp_law (T:=tb p) ⟨(by kernel_rfl),(by kernel_rfl),(by kernel_rfl),(by kernel_rfl),(by kernel_rfl),(by kernel_rfl)⟩))
end K63
open PySem PySem.W PyProof.Rows
set_option maxRecDepth 100000 in
set_option maxHeartbeats 0 in
theorem PySem.Challenge.cw_copykin_k63_refused_tellings_holds : PySem.Challenge.rw_copykin_k63_refused_tellings.Holds := by
 w_on;o_law
 refine PySem.W.holds_open (q:=K63.vw) (loose:=K63.loo) (Xt:=K63.xt)
  (XP:=PySem.W.XL K63.vw []) (Yf:=Dg (kH K63.B5 K63.B6 (fun _=>by kernel_rfl) [134])) (Ya:=Df (kH K63.B5 K63.B6 (fun _=>by kernel_rfl) [134]))
  (YP:=PySem.W.Hook.says (kH K63.B5 K63.B6 (fun _=>by kernel_rfl) [134])) (N:=4796) (fun w=>K63.both (K63.leftA w) (K63.leftB w)) (PySem.W.Hook.of _) (PySem.W.Hook.keeps _)
  (fun s e=>PySem.W.xl_of s (fh.mp e).1) PySem.W.XL.keeps
  (by rfl) (by rfl) (by rfl)
  (fun s e=>PySem.W.recFacts_of (fh.mp e).2) rfl (by assumption) (by decide+kernel)
  ⟨rfl,rfl,rfl,rfl,rfl,by decide+kernel⟩ ?hw ?hc
 (case hw=>w_witness2)
 k_fill
 refine Lm.Jg (l:=PySem.Challenge.rw_copykin_k63_refused_tellings) (n:=63) (k:=38) (x:="_law_script") (CX:=L2.CX0) (sp:=fun K=>fun vs H Q _=>K63.JM K (K63.tb 134) vs H Q L2.E0) (tabs:=[134]) rfl (by decide) rfl ⟨rfl,by decide,by decide⟩ (fun w h Y=>MY Y) ?T ?F (fun K H a ns hl ht hS=>⟨a,ns,rfl,hS,hl,.inl (ht 134 (aS.mpr rfl)),fun _=>rfl⟩) (fun _ _ _ _ z=>z)
 case T=>
  intro w s₀ mg mb h G Y p hp;obtain rfl:=aS.mp hp;have KX:=MY Y;have T:=PySem.W.km_tabs_of Y 134 (aS.mpr rfl);have F:∃c,K63.Az (L2.KOf KX) "table_list" (K63.top 18) c 134:=by
   dsimp only[L2.KOf];refine' K63.yr ?ta ?tl ?tk ?tq ?th;(case ta=>k_is);(case tl=>k_is);(case tk=>k_is);(case tq=>k_is);(case th=>first |k_is|kernel_rfl)
  obtain⟨c,_,_,_,_,_,_,_,_,_,_,_,_,_,q⟩:=F;exact⟨T,((GI KX q).tab T).isCodeTable,by kernel_rfl⟩
 case F=>
  intro w mg fa h KX G hmg;refine' K63.all_mk (p:=134) (fI:=41) (cdI:=.ref 40) KX G hmg ?v1 ?v2 ?v3 ?v4 ?v5 ?v6 ?v7 ?v8 ?v9 ?v10 ?xc ?xo ?F1 ?F2 ?F3 ?f1 ?f2 ?f3 ?kd0 ?mx ?kI ?lI ?cI ?b1 ?b2 ?b3 ?st1 ?st2 ?st3 ?bl ?h11 ?h12 ?h13 ?h14 ?h15 ?h16 ?h17 ?h19 ?h22 ?h23 ?h24 ?h26 ?h27 ?h28 ?h29 ?h31 ?h32 ?h33 ?h34 ?h36 ?h37 ?h38 ?h39 ?h41 ?h43 ?h44 ?h45 ?h46 ?h47 ?h48 ?h49 ?h50 ?h51 ?h52 ?h18 ?h53
  (case v1=>k_is);(case v2=>k_is);(case v3=>k_is);(case v4=>k_is);(case v5=>k_is);(case v6=>k_is);(case v7=>k_is);(case v8=>k_is);(case v9=>k_is);(case v10=>k_is)
  (case xc=>refine'⟨?x1,?x2⟩;(case x1=>k_is);(case x2=>k_exc))
  (case xo=>refine'⟨?x1,?x2⟩;(case x1=>k_is);(case x2=>k_exc))
  (case F1=>refine'⟨?o,?m,?kv,?k1,?k2,?k3,?k4⟩;(case o=>refine' K63.lP ?xa ?xb ?xc ?xd ?xe ?xf ?xg ?xh;(case xa=>k_is);(case xb=>k_is);(case xc=>k_is);(case xd=>k_is);(case xe=>k_is);(case xf=>k_is);(case xg=>k_is);(case xh=>k_is));(case m=>kts_exm);(case kv=>kit_is);(case k1=>kit_is);(case k2=>kit_is);(case k3=>kit_is);(case k4=>kit_is))
  (case F2=>refine'⟨?o,?m,?kv,?k1,?k2,?k3,?k4⟩;(case o=>refine' K63.lP ?xa ?xb ?xc ?xd ?xe ?xf ?xg ?xh;(case xa=>k_is);(case xb=>k_is);(case xc=>k_is);(case xd=>k_is);(case xe=>k_is);(case xf=>k_is);(case xg=>k_is);(case xh=>k_is));(case m=>kts_exm);(case kv=>kit_is);(case k1=>kit_is);(case k2=>kit_is);(case k3=>kit_is);(case k4=>kit_is))
  (case F3=>refine'⟨?o,?m,?kv,?k1,?k2,?k3,?k4⟩;(case o=>refine' K63.lP ?xa ?xb ?xc ?xd ?xe ?xf ?xg ?xh;(case xa=>k_is);(case xb=>k_is);(case xc=>k_is);(case xd=>k_is);(case xe=>k_is);(case xf=>k_is);(case xg=>k_is);(case xh=>k_is));(case m=>kts_exm);(case kv=>kit_is);(case k1=>kit_is);(case k2=>kit_is);(case k3=>kit_is);(case k4=>kit_is))
  (case f1=>refine' K63.wA (K63.lP ?xa ?xb ?xc ?xd ?xe ?xf ?xg ?xh) ?fb ?fc ?fd;(case xa=>k_is);(case xb=>k_is);(case xc=>k_is);(case xd=>k_is);(case xe=>k_is);(case xf=>k_is);(case xg=>k_is);(case xh=>k_is);(case fb=>k_is);(case fc=>k_is);(case fd=>rfl))
  (case f2=>refine' K63.wA (K63.lP ?xa ?xb ?xc ?xd ?xe ?xf ?xg ?xh) ?fb ?fc ?fd;(case xa=>k_is);(case xb=>k_is);(case xc=>k_is);(case xd=>k_is);(case xe=>k_is);(case xf=>k_is);(case xg=>k_is);(case xh=>k_is);(case fb=>k_is);(case fc=>k_is);(case fd=>rfl))
  (case f3=>refine' K63.wA (K63.lP ?xa ?xb ?xc ?xd ?xe ?xf ?xg ?xh) ?fb ?fc ?fd;(case xa=>k_is);(case xb=>k_is);(case xc=>k_is);(case xd=>k_is);(case xe=>k_is);(case xf=>k_is);(case xg=>k_is);(case xh=>k_is);(case fb=>k_is);(case fc=>k_is);(case fd=>rfl))
  (case kd0=>refine' K63.LG ?l ?l0 ?l1 ?l2 ?l3;(case l=>k_is);(case l0=>k_is);(case l1=>k_is);(case l2=>k_is);(case l3=>k_is))
  (case mx=>first |k_exc|kernel_rfl)
  (case kI=>k_is)
  (case lI=>k_is)
  (case cI=>k_is)
  (case b1=>k_is)
  (case b2=>first |k_is|kernel_rfl)
  (case b3=>first |k_is|kernel_rfl)
  (case st1=>refine'⟨?s1,?s2,?s3,?s4⟩;(case s1=>k_is);(case s2=>first |k_is|kernel_rfl);(case s3=>first |k_is|kernel_rfl);(case s4=>first |k_is|kernel_rfl))
  (case st2=>refine'⟨?s1,?s2,?s3,?s4⟩;(case s1=>k_is);(case s2=>first |k_is|kernel_rfl);(case s3=>first |k_is|kernel_rfl);(case s4=>first |k_is|kernel_rfl))
  (case st3=>refine'⟨?s1,?s2,?s3,?s4⟩;(case s1=>k_is);(case s2=>first |k_is|kernel_rfl);(case s3=>first |k_is|kernel_rfl);(case s4=>first |k_is|kernel_rfl))
  (case bl=>
   intro x hx;simp only[R.jj,aG,cu,or_false]at hx;rcases hx with rfl|rfl|rfl|rfl|rfl|rfl|rfl|rfl|rfl|rfl|rfl|rfl|rfl|rfl|rfl|rfl|rfl|rfl|rfl|rfl<;>k_is)
  (case h18=>refine' K63.yr ?ua ?ul ?uk ?uq ?uh;(case ua=>k_is);(case ul=>k_is);(case uk=>k_is);(case uq=>k_is);(case uh=>first |k_is|kernel_rfl))
  all_goals(refine' R.LV ?a ?l ?c ?k;(case a=>k_is);(case l=>k_is);(case c=>k_is);(case k=>k_is))
