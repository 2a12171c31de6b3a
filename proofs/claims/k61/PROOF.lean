import PyProof.Rows.All
import Wide.All
import OpenK.AllK
import Wide.FinOn
import Lean
import PyProof.EqAt
import PyProof.EqKinds
import PyProof.TupleCall
import PyProof.NeKinds
import PySem.Challenge.RW_copykin_k61_stands
open Array renaming length_toList → cu, getElem?_eq_some_iff → cA, perm_iff_toList_perm → eU, mem_toList_iff → jV, getElem?_setIfInBounds_self_of_lt → qf, find?_toList → tF, getElem?_toList → Gw, getD → Mj, forIn_toList → Ml, ext' → Mn
open Bool renaming false_ne_true → ao, and_eq_true → aE, false_eq_true → aW, false_or → bO, or_eq_true → cf, eq_iff_iff → cz, false_and → de, and_eq_true_iff → fm, true_and → fz, and_false → fP, not_true → gB, eq_false_iff → gJ, or_true → pb
open Classical renaming byContradiction → aN, not_forall → gA, not_imp → sf, em → sg, epsilon_spec → AK
open False renaming elim → gS
open ForInStep renaming yield → ip
open Int renaming toNat_natCast → aM, emod_lt_of_pos → bV, eq_ofNat_of_zero_le → b8, emod_nonneg → cC, zero_add → eE, fdiv_eq_ediv_of_nonneg → CQ
open Lean.Name renaming str → cg, anonymous → C7
open List renaming getElem?_eq_getElem → aa, getD_eq_getElem?_getD → ae, length_map → ai, getElem?_map → aA, size_toArray → aB, getElem?_eq_some_iff → aC, mem_map → aF, range → aG, mem_cons → aH, mem_of_getElem? → aI, mem_cons_of_mem → aJ, mem_cons_self → aL, length_eq_zero_iff → aV, mem_range → aY, lookup_cons → a6, mem_append_right → a7, length_range → ba, mem_singleton → bg, getElem_mem → bo, replicate → bp, length_append → bw, map_map → bD, length_cons → bG, getElem_map → bH, all_eq_true → bI, nodup_cons → bP, map_cons → bR, ext_getElem → bS, getElem?_append_right → bT, mem_iff_getElem? → bX, getElem?_eq_none → bY, getElem?_range → b9, any_eq_true → cB, mem_iff_getElem → cH, mem_append_left → cJ, getElem?_append_left → cK, length_drop → cN, map_congr_left → cO, lookup → cU, not_mem_nil → cV, pairwise_iff_getElem → cY, pairwise_map → cZ, mem_append → dh, length_take → dw, take_add_one → dM, replicate_succ → dN, mem_filter → dO, map_id → dP, map_append → dQ, foldl_cons → dR, length_singleton → dY, toArray → eA, take_of_length_le → eK, getElem_inj → eR, nodup_append → fk, getElem?_drop → fZ, take_length → hZ, length_pos_iff → iE, find?_cons → iY, getElem_range → i5, nodup_nil → jk, flatten_cons → jm, ext_getElem? → jo, length_replicate → jG, mem_reverse → jJ, length → jZ, range_succ → kA, append_nil → kB, filter_sublist → kL, length_eraseIdx_of_lt → lz, filter_append → lA, append_assoc → mJ, map_nil → o8, all_map → o9, length_nil → pA, filter_map → pB, length_filter_le → qd, perm_cons_erase → qC, mem_erase_of_ne → qD, getElem?_set_ne → qE, mem_map_of_mem → sr, filterMap_cons → sv, zip_cons_cons → ud, lookup_append → uf, find?_eq_none → ui, take_sublist → u5, reverse_cons → u6, filter_congr → u7, eraseIdx_eq_take_drop_succ → w8, nodup_range → xk, map_snd_zip → xl, filter_cons → xn, cons_append → xp, of_mem_zip → yT, nodup_iff_pairwise_ne → AO, forIn_nil → AQ, getElem?_take_of_lt → C4, any_cons → C5, all_cons → C6, range_succ_eq_map → Gj, pairwise_lt_range → Gk, getElem?_set_self → Gn, filter_eq_nil_iff → Gq, any_map → Gs, toList_toArray → Mf, flatMap_append → Mg
open List.Pairwise renaming nil → j6, and_mem → mn
open List.Perm renaming refl → d9, swap → w9
open List.cons renaming injEq → II
open Nat renaming le_refl → az, ne_of_lt → aK, le_trans → aP, lt_of_lt_of_le → aT, zero_le → aZ, lt_succ_of_lt → bL, not_lt_zero → dm, le_succ → dy, lt_irrefl → dJ, lt_succ_self → eh, ne_of_gt → eP, mod_eq_of_lt → eS, le_succ_of_le → fv, le_of_not_lt → fT, lt_trans → gf, succ_le_succ → iB, le_of_lt → jx, strongRecOn → kK, eq_of_testBit_eq → se, lt_of_le_of_lt → uH, zero_add → w6, le_add_right → xR, min_eq_left → AI, le_antisymm → AJ, mod_lt → CN, lt_succ_iff_lt_or_eq → ED, le_of_eq → IC, and_self → ID
open Nat.succ renaming inj → i4
open Ne renaming symm → bA
open Option renaming isSome_iff_exists → ck, bind_some → fG, isSome_some → fW, isNone_iff_eq_none → gY, map_eq_some_iff → i7, map_some → jY, getD_none → uZ, isSome_none → IH
open Option.some renaming inj → bj, injEq → kz
open PyProof.Rows renaming IntsAre → bZ, callWith_type1 → dc, listUpdate_at → fS, callWith_builtin1 → i3, AllBare → ph, subscriptTail_builtinR → r8, get?_update_seq → sj, seqEpoch_at → uF, boot_tuple → wZ, boot_list → xj, boot_int → xQ, StrsAre → AD, entry_list_sort → EA, slot_list_sort → Im, size_push' → Io, subscriptTail → L7
open PyProof.Rows.F renaming plain_set_update_loop → gm, entry_set_update_loop → mX
open PySem renaming wpAny_bind → af, wpAny_pure → aj, mem_of_lookup → bu, starEach → bz, SetTable → bC, mainGlobals → bF, wpAny_holding → bQ, wpAny_newObj_type → bW, wpAny_call_entry → cF, cellsFrom → cG, wpAny_mono → cX, wpAny_truthy_bool → dg, compareOp → dq, wpAny_setField_rec → dB, wpAny_callSpecial?_slot → dF, Fin → dI, NameKind → eD, codeAny_builtin → eM, FuncData → fh, bootBuiltins → fM, binaryOp → fN, plainId_quiet → fR, scanBound → gd, wpAny_field → gC, wpAny_Call_Name_kw → gF, sysModules → gG, codeAny → gH, wpAny_passesOwn → gQ, wpAny_attempt → gT, wpAny_setState_of → hW, wpAny_seqItems → iG, wpAny_rule → iH, wpAny_call → iI, strIterType → iJ, codeAny_call_builtin → iK, assignEach → iM, wpAny_askSetting → iX, wpAny_pyIter_tuple → jv, pickOrder → jy, wpAny_loadPart_at → jP, recursionLimit → jQ, foldedSetIterable → jS, codeAny_mono → jT, Value → jU, wpAny_isInstance → kF, call_meets → kG, Within → kH, sliceBounds → lu, GenState → ly, wpAny_richCompare_same_room → mI, noteFrame → mW, builtinsNs → m3, wpAny_pyIter_list → oV, wpAny_pyIter_enum → oW, wpAny_of_eq → oX, wpAny_letGo → oY, keywordEach → oZ, fits_of_scanBound → o4, excClassObj → o5, atKey_none_of_get → o6, wpAny_standAt → pq, wpAny_newList → pv, wpAny_eqBool_int → qx, tupleKind → qy, swapsWith → qz, relayAll → qA, bindArgs → qB, letOwnedTupleGo → si, wpAny_tryCatch → uB, wpAny_setField → uC, sizeLine_eq → uD, setField → uE, firstArgMember → uG, seqItems? → uX, attributeBase → xi, wpAny_typeOf → Ax, backToKw → AA, Addr → AH, setFlight → CC, onTheHeap → CD, checkBuiltinCall → CF, seqIndex_of → CW, Str → C2, wpAny_updateSeq → Ey, wpAny_execs_nil → Ez, codeAny_of_tree → EB, Shared → EC, callerA → Gf, wpAny_loadPart → Ij, wpAny_letOwnedTupleGo_enum → Ik, wpAny_Name → Il, setsByText → Ip, raiseNew → Iq, isSubtype_type → Ir, isSubtype_stop → Iu, isInstance → Iv, entryFor → Iw, dictSetDefault → Iy, closureFor → Iz, swapsWithSole → L6, behindInMarks → L8
open PySem.Around renaming under_plainId → du, under → C9
open PySem.AutoSeq1 renaming wpAny_loadPart' → lC
open PySem.Builtin renaming bitAnd → i6, bitXor → kM
open PySem.Builtin.Builtins renaming bindParams → fC
open PySem.Builtin.List renaming listTooLong → gL, listTouch → lB, listLengthHint → tB, listExtendWith → tE
open PySem.Builtin.SmallTypes renaming nextOf → fU
open PySem.Builtin.Str renaming occurrences → iq, strSliceIndices → um
open PySem.Calls renaming call_function_entry → mq, Name_function_global → AL, callWith_builtin → EE, spliced_cons → Mi
open PySem.Code renaming quiet_builtin → uj, isFrame → Gu
open PySem.EntryCells renaming newEntry → CV
open PySem.F renaming attrBase_ValueError → gh, slot_tuple_iterator_next → iC, slot_enumerate_next → j7, slot_tuple_lt → qG, slot_dict_setdefault → wY, excBase_ValueError → xP, plainAttrs_list → AN, args_tuple_iterator_next_1 → CU, entry_bexc_ga → C3, entry_tuple_iterator_next → C8, args_enumerate_next_1 → IJ, entry_enumerate_next → Mh
open PySem.Heap renaming get?_push_of_some → ag, lt_size → aw, get?_push_size → ay, get?_update_other → aR, size_push → bE, get?_update_self → b7, SameBut → di, size_update → m4, get?_none_of_le → qF, MadeExcOf → AR
open PySem.Heap.SameBut renaming update → bN
open PySem.IsL renaming update → IB
open PySem.Moved renaming trans → IE
open PySem.NameKind renaming free → bU, cell → cQ
open PySem.Obj renaming mapSeq → a8, data_mapFields → ff, mapFields → fB, isFreed_of_fields → jI, data_mapDictKeys → Me
open PySem.Paired renaming length → mr
open PySem.PyData renaming keyHash → ak
open PySem.SeqAt.EqAt renaming str_int → CY, int_str → CZ
open PySem.SetTable renaming below → cq, grown → fw, insertAt → sk, has → AM, orStandIn → Gg, relaid → L9
open PySem.SetTable.below renaming go → AE
open PySem.SetTable.probe renaming go → o7
open PySem.Str renaming ofString → bf, length → CH
open PySem.Value renaming ref → bB, none → bK, type → gR, builtin → iO, str → iZ, int → wW, bool → AB
open PySem.W renaming Frag → ah, fnOf → aD, keepIn → cL, kitOne → cP, kia_one → da, mg_of → dz, nsIn → dD, kas_sort → dG, findIn → eN, codeIn → eO, kas_sort → jw, kas_descPart → jR, kmHook → kJ, looks_findIn → r9, specialIn → tm, methodObj → tu, findObj → uY, instObj → wX, lookIn → xO, kas_rev → Az, mroIn → AF, cellsFrom_some → CM, looks_clsIn → Gh, codeHd_of_K → Gi, callWith_K → IA, kitx_list → IF, kitx_dict → IG, plainGet → Ma, openEnds → Mb, km_in_of → Mc, codeHdIn → Md
open PySem.W.Hook renaming val → C0, obs → C1
open PySem.W.KasT renaming ret → u9
open PySem.W.Looks renaming here → AG
open PySem.Within renaming cons → CJ
open PySem.pickOrder renaming go → Ay
open Sum renaming inl → dX, inr → fu
set_option Elab.async false
set_option linter.all false
set_option maxRecDepth 100000
set_option maxHeartbeats 0
variable {es es' es1:Array (Int×jU)}{osl s0 s2 s3 sl slI:Array (Option jU)}{acc items:Array jU}{led:Bool}{rows:List (List Int)}{ts:List (Nat×Int)}{pins pins' pn:List (AH×PySem.Obj)}{ns qs r:List Int}{ch fp tabs:List AH}{N ks loose ps:List C2}{args bmB ds its its' kv out rest us vs ws:List jU}{ep i j k m n p q t' v:Nat}{nf:Nat->C2}{anI d func o0 o1 o2 o3 od odI:Option AH}{C I L S T a ab ar b be c c' dx f fI fa it kS kd l nl pl x0:AH}{A:PySem.Around}{e iter o tg:PySem.Expr}{Qf:dI->EC->Prop}{base h h' h0 h1:PySem.Heap}{np pos pos' pp:PySem.Pos}{P prog:PySem.Program}{sc sc' scope:PySem.Scope}{s s':EC}{lx qual x z:C2}{mA mN mb mg:C2->Option jU}{cdv ct ctv dV doc oc pm u:jU}{E QQ Q₁ xe:jU->EC->Prop}{K:ah}{w:PySem.World}
namespace L2
open PySem
noncomputable def bh(s:Stmt):Arguments:=match s with
 |.FunctionDef _ a _ _ _ _ _ _ _ _=>a
 |_=>{posonlyargs:=[],args:=[],vararg:=none,kwonlyargs:=[],kw_defaults:=[],kwarg:=none,defaults:=[]}
noncomputable def aX(s:Stmt):List Stmt:=match s with
 |.FunctionDef _ _ b _ _ _ _ _ _ _=>b
 |_=>[]
noncomputable def aO(s:Stmt):Scope:=match s with
 |.FunctionDef _ _ _ _ _ _ sc _ _ _=>sc
 |_=>{kind:=.function,names:=[],isGenerator:=false,isCoroutine:=false}
end L2
namespace K61
open PySem PySem.Spec PySem.Calls PyProof.Rows
noncomputable def top(i:Nat):Stmt:=PySem.Challenge.pw_copykin_k61_stands.main.body.getD i (.Pass ⟨0,0,0,0⟩)
noncomputable def jE(i j:Nat):Stmt:=match top i with
 |.ClassDef _ _ _ b .. =>b.getD j (.Pass ⟨0,0,0,0⟩)
 |s=>s
noncomputable def vw:Program:=
 {PySem.Challenge.pw_copykin_k61_stands with main:={PySem.Challenge.pw_copykin_k61_stands.main with body:=[top 1,top 2,top 3,top 4,top 5,top 7,top 8,top 9,top 10,top 11,top 12,top 13,top 14,top 15,top 16,top 17,top 18,top 19,top 21,top 22,top 23,top 24,top 26,top 27,top 28,top 29,top 31,top 32,top 33,top 34,top 35,top 36,top 37,top 38,top 39,top 41,top 42,top 43,top 44,top 45,top 46,top 47,top 48,top 49,top 50,top 51,top 52,top 53,top 54,top 55,top 56]}}
noncomputable def loo:List Str:=[]
noncomputable def xt(s:Shared):Bool:=PySem.W.xlAt vw [] s&&PySem.W.recOk [] s
noncomputable def lhsA(w:World):=(Mb treeTable PySem.Challenge.pw_copykin_k61_stands w 4958).map
 (PySem.W.openSeen vw loo (importedModules PySem.Challenge.pw_copykin_k61_stands.main.body) xt true)
noncomputable def rhsA(_:World):=some (PySem.W.openGood vw loo)
noncomputable def seen.{u}{α:Type u}(_:α):Bool:=true
theorem laidA:(seen lhsA&&seen rhsA)=true:=by k_qdec
theorem leftA(w:World):lhsA w=rhsA w:=by
 have _:=laidA;rw[PySem.W.Fast.te5889369814653963127,PySem.W.Fast.te11537000029168974035]
 kernel_rfl
theorem both{c d e:Type}{o:Option c}{f:c->d}{g:c->e}{a:d}{b:e}(h:o.map f=some a)(k:o.map g=some b):(o.map fun s=>(f s,g s))=some (a,b):=by
 cases o with
 |none=>cases h
 |some x=>injection h with h;injection k with k;rw[<-h,<-k];rfl
end K61
namespace K61
open PySem PySem.Spec PySem.Calls PyProof.Rows L2
set_option hygiene false in
local macro_rules
 | `(#v[$x:str,$t,$r])=>`(⟨ak P $x,.str $x $t,.ref $r⟩)
 | `(#v[295])=>`(.str "copykin.tables" 295)
 | `(#v[364])=>`(.str "copykin.clashes" 364)
 | `(#v[401])=>`(.str "copykin.trees" 401)
 | `(#v[435])=>`(.str "copykin.standing" 435)
 | `(#v[506])=>`(.str "law_copykin_k61_stands" 506)
 | `(#v[$c:num,$x,$t,$e,$f,$l,$k,$a,$b,$d,$u,$v,$g:num,$i,$m,$z])=>`((nat_lit $c,⟨.type "code",none,(.fields #[.str $x $t,.str $x $e,.str "/claim/cut.py" $f,.int $l 0,.int $k 0,.int 0 0,.int 0 0,.int 3 0,.ref $a,.bool true,.int 181 0,.ref $b,.none,.none,.none,.ref $d,.int $u 0,.int $l 0,.str "/claim/cut.py" $v]),#[]⟩)::(nat_lit $g,⟨.type "function",none,(.func (aD $x $x (bh (top $i)) (aX (top $i)) (aO (top $i)) .none .none .none $m none (.ref $c) .none)),#[]⟩)::$z)
 | `(#v[$c:num,$x,$t,$e,$f,$l,$k,$a,$b,$d,$u,$v,$g:num,$i,$m,$o,$p,$z])=>`((nat_lit $c,⟨.type "code",none,(.fields #[.str $x $t,.str $x $e,.str "/claim/cut.py" $f,.int $l 0,.int $k 0,.int 0 0,.int 0 0,.int 3 0,.ref $a,.bool true,.int 181 0,.ref $b,.none,.ref $o,.ref $p,.ref $d,.int $u 0,.int $l 0,.str "/claim/cut.py" $v]),#[]⟩)::(nat_lit $g,⟨.type "function",none,(.func (aD $x $x (bh (top $i)) (aX (top $i)) (aO (top $i)) .none .none .none $m none (.ref $c) .none)),#[]⟩)::$z)
noncomputable def BX(P:PySem.Params):ah:=
 (nat_lit 2,⟨.none,none,(.dict #[] 0),#[]⟩)::
 (nat_lit 3,⟨.type "dict",none,(.dict #[⟨ak P "__name__",.str "__name__" 165,.str "law_copykin_k61_stands" 506⟩,⟨ak P "__doc__",.str "__doc__" 166,.none⟩,⟨ak P "__package__",.str "__package__" 167,.none⟩,⟨ak P "__loader__",.str "__loader__" 168,.builtin "__main__.__loader__#opaque"⟩,⟨ak P "__spec__",.str "__spec__" 169,.none⟩,#v["__annotations__",170,6],#v["__builtins__",171,4],⟨ak P "__file__",.str "__file__" 173,.str "/claim/cut.py" 172⟩,⟨ak P "__cached__",.str "__cached__" 174,.none⟩,#v["KinError",206,24],#v["Clash",235,44],#v["Torn",262,63],#v["NoTable",278,75],#v["NoTelling",294,87],⟨ak P "LETTERS",.str "LETTERS" 298,.str "abcdefghijklmnopqrstuvwxyz" 297⟩,⟨ak P "LONGEST_NAME",.str "LONGEST_NAME" 300,.int 8 299⟩,⟨ak P "MOST_PLACES",.str "MOST_PLACES" 302,.int 60 301⟩,⟨ak P "MOST_COPIES",.str "MOST_COPIES" 304,.int 40 303⟩,#v["is_whole",311,96],#v["is_name",317,101],#v["is_reading",324,108],#v["are_readings",330,113],#v["is_copy",337,120],#v["is_table",343,125],#v["need_table",350,132],#v["table_list",356,137],#v["place_count",363,144],#v["KINDS",374,149],#v["first_of_kinds",380,154],#v["clash",392,161],#v["refuse_clash",400,168],#v["group_at",414,175],#v["turned",420,180],#v["grown",426,185],#v["tree",434,192],#v["is_telling",444,199],#v["are_tellings",450,204],#v["need_tellings",459,211],#v["that_read",465,216],#v["refuse_torn",476,223],#v["told_nodes",485,230],#v["stands",493,237],#v["unknown_places",499,242],#v["first_read",505,247],#v["_law_cell_at",515,254],#v["_law_whole",522,261],#v["_law_mixed",530,268],#v["_law_owners",536,273],#v["_law_grown",551,280],#v["_law_nodes",557,285],#v["_law_name",567,292],#v["_law_copies",573,297],#v["_law_built",579,302],#v["_law_tellings",585,307],#v["_law_bears",591,312],#v["_law_stands",597,317],#v["_law_turned",609,324],#v["_law_torn",619,331],#v["_law_refused",630,338],#v["law",647,345]] 60),#[]⟩)::
 (nat_lit 23,⟨.type "dict",none,(.dict #[⟨ak P "__module__",.str "__module__" 196,.str "copykin.errors" 187⟩,⟨ak P "__firstlineno__",.str "__firstlineno__" 200,.int 2 199⟩,#v["__static_attributes__",201,22],#v["__weakref__",203,25],⟨ak P "__doc__",.str "__doc__" 204,.none⟩] 3),#[]⟩)::
 (nat_lit 24,⟨.type "type",none,(.cls {name:="KinError",bases:=[.type "ValueError"],mro:=[.ref 24,.type "ValueError",.type "Exception",.type "BaseException",.type "object"],ns:=23,qualname:="KinError",hasDict:=true,slotNames:=[],subclasses:=[.ref 44,.ref 63,.ref 75,.ref 87],abstract:=false,collection:=none,hasDel:=false}),#[(some (.ref 15)),none,(some (.str "KinError" 189)),(some (.str "KinError" 197)),(some (.builtin "ValueError.__new__")),(some (.bool true))]⟩)::
 (nat_lit 59,⟨.type "code",none,(.fields #[.str "__init__" 248,.str "Torn.__init__" 249,.str "/claim/cut.py" 250,.int 13 0,.int 3 0,.int 0 0,.int 0 0,.int 3 0,.ref 54,.bool true,.int 181 0,.ref 55,.none,.ref 56,.ref 57,.ref 58,.int 254 0,.int 13 0,.str "/claim/cut.py" 255]),#[]⟩)::
 (nat_lit 60,⟨.type "function",none,(.func (aD "__init__" "Torn.__init__" (bh (jE 3 0)) (aX (jE 3 0)) (aO (jE 3 0)) .none .none .none (.str "copykin.errors" 187) none (.ref 59) .none)),#[]⟩)::
 (nat_lit 62,⟨.type "dict",none,(.dict #[⟨ak P "__module__",.str "__module__" 243,.str "copykin.errors" 187⟩,⟨ak P "__firstlineno__",.str "__firstlineno__" 247,.int 11 246⟩,#v["__init__",256,60],#v["__static_attributes__",259,61],⟨ak P "__doc__",.str "__doc__" 260,.none⟩] 2),#[]⟩)::
 (nat_lit 63,⟨.type "type",none,(.cls {name:="Torn",bases:=[.ref 24],mro:=[.ref 63,.ref 24,.type "ValueError",.type "Exception",.type "BaseException",.type "object"],ns:=62,qualname:="Torn",hasDict:=true,slotNames:=[],subclasses:=[],abstract:=false,collection:=none,hasDel:=false}),#[(some (.ref 47)),none,(some (.str "Torn" 236)),(some (.str "Torn" 244)),(some (.builtin "ValueError.__new__")),(some (.bool true))]⟩)::
 #v[95,"is_whole",305,306,307,26,1,90,91,94,309,310,96,11,#v[295],92,93,
 #v[100,"is_name",312,313,314,28,1,97,98,99,315,316,101,12,#v[295],
 #v[107,"is_reading",318,319,320,34,1,102,103,106,322,323,108,13,#v[295],104,105,
 #v[112,"are_readings",325,326,327,36,1,109,110,111,328,329,113,14,#v[295],
 #v[119,"is_copy",331,332,333,40,1,114,115,118,335,336,120,15,#v[295],116,117,
 #v[124,"is_table",338,339,340,44,1,121,122,123,341,342,125,16,#v[295],
 #v[131,"need_table",344,345,346,52,1,126,127,130,348,349,132,17,#v[295],128,129,
 #v[136,"table_list",351,352,353,55,1,133,134,135,354,355,137,18,#v[295],
 #v[143,"place_count",357,358,359,59,1,138,139,142,361,362,144,19,#v[295],140,141,
 (nat_lit 145,⟨.type "tuple",none,(.seq #[.int 0 366,.int 0 367] 0),#[]⟩)::
 (nat_lit 146,⟨.type "tuple",none,(.seq #[.int 0 368,.int 1 369] 0),#[]⟩)::
 (nat_lit 147,⟨.type "tuple",none,(.seq #[.int 1 370,.int 0 371] 0),#[]⟩)::
 (nat_lit 148,⟨.type "tuple",none,(.seq #[.int 1 372,.int 1 373] 0),#[]⟩)::
 (nat_lit 149,⟨.type "tuple",none,(.seq #[.ref 145,.ref 146,.ref 147,.ref 148] 0),#[]⟩)::
 #v[153,"first_of_kinds",375,376,377,66,3,150,151,152,378,379,154,22,#v[364],
 #v[160,"clash",381,382,383,73,1,155,156,159,390,391,161,23,#v[364],157,158,
 #v[167,"refuse_clash",393,394,395,82,1,162,163,166,398,399,168,24,#v[364],164,165,
 #v[174,"group_at",403,404,405,87,2,169,170,173,412,413,175,26,#v[401],171,172,
 #v[179,"turned",415,416,417,93,2,176,177,178,418,419,180,27,#v[401],
 #v[184,"grown",421,422,423,95,1,181,182,183,424,425,185,28,#v[401],
 #v[191,"tree",427,428,429,110,1,186,187,190,432,433,192,29,#v[401],188,189,
 #v[198,"is_telling",437,438,439,117,2,193,194,197,442,443,199,31,#v[435],195,196,
 #v[203,"are_tellings",445,446,447,123,2,200,201,202,448,449,204,32,#v[435],
 #v[210,"need_tellings",451,452,453,129,2,205,206,209,457,458,211,33,#v[435],207,208,
 #v[215,"that_read",460,461,462,135,2,212,213,214,463,464,216,34,#v[435],
 #v[222,"refuse_torn",466,467,468,137,2,217,218,221,474,475,223,35,#v[435],219,220,
 #v[229,"told_nodes",477,478,479,142,2,224,225,228,483,484,230,36,#v[435],226,227,
 #v[236,"stands",486,487,488,147,2,231,232,235,491,492,237,37,#v[435],233,234,
 #v[246,"first_read",500,501,502,157,2,243,244,245,503,504,247,39,#v[435],
 #v[253,"_law_cell_at",508,509,510,164,2,248,249,252,513,514,254,41,#v[506],250,251,
 #v[267,"_law_mixed",523,524,525,170,2,262,263,266,528,529,268,43,#v[506],264,265,
 #v[272,"_law_owners",531,532,533,172,4,269,270,271,534,535,273,44,#v[506],
 #v[279,"_law_grown",537,538,539,191,2,274,275,278,549,550,280,45,#v[506],276,277,
 #v[284,"_law_nodes",552,553,554,203,5,281,282,283,555,556,285,46,#v[506],
 #v[291,"_law_name",558,559,560,213,2,286,287,290,565,566,292,47,#v[506],288,289,
 #v[296,"_law_copies",568,569,570,217,5,293,294,295,571,572,297,48,#v[506],
 #v[301,"_law_built",574,575,576,233,2,298,299,300,577,578,302,49,#v[506],
 #v[306,"_law_tellings",580,581,582,248,3,303,304,305,583,584,307,50,#v[506],
 #v[311,"_law_bears",586,587,588,262,2,308,309,310,589,590,312,51,#v[506],
 #v[316,"_law_stands",592,593,594,264,2,313,314,315,595,596,317,52,#v[506],
 #v[323,"_law_turned",598,599,600,266,2,318,319,322,607,608,324,53,#v[506],320,321,
 #v[330,"_law_torn",610,611,612,274,2,325,326,329,617,618,331,54,#v[506],327,328,
 #v[337,"_law_refused",620,621,622,280,3,332,333,336,628,629,338,55,#v[506],334,335,
 #v[344,"law",631,632,633,291,1,339,340,343,645,646,345,56,#v[506],341,342,
 []]]]]]]]]]]]]]]]]]]]]]]]]]]]]]]]]]]]]]]]
noncomputable def BY:List Addr:=[2,3,23,24,59,60,62,63,95,96,100,101,107,108,112,113,119,120,124,125,131,132,136,137,143,144,145,146,147,148,149,153,154,160,161,167,168,174,175,179,180,184,185,191,192,198,199,203,204,210,211,215,216,222,223,229,230,236,237,246,247,253,254,267,268,272,273,279,280,284,285,291,292,296,297,301,302,306,307,311,312,316,317,323,324,330,331,337,338,344,345]
noncomputable def lhsB(k:PySem.W.Hook)(w:World):=(Mb treeTable PySem.Challenge.pw_copykin_k61_stands w 4958).map (C1 k)
noncomputable def rhsB(k:PySem.W.Hook)(w:World):=some (C0 k w)
theorem laidB:(seen lhsB&&seen rhsB)=true:=by k_qdec
theorem leftB(w:World):lhsB (kJ K61.BX K61.BY (fun _=>by kernel_rfl) [134]) w=rhsB (kJ K61.BX K61.BY (fun _=>by kernel_rfl) [134]) w:=by
 have _:=laidB;rw[PySem.W.Fast.te5597644228545249315]
 kernel_rfl
end K61
namespace L2
open PySem PySem.Spec PyProof.Rows
noncomputable abbrev Key:=Sum Int Str
noncomputable def v9:Key->Value->Bool
 |.inl k,v=>Value.isInt k v
 |.inr x,v=>Value.isStrOf x v
noncomputable def keyH(w:World):Key->Int
 |.inl k=>hashInt k
 |.inr x=>hashStr w x
theorem eY:∀{k:Key}{v:Value},v9 k v=true->(∃i t,k=dX i/\v=wW i t)\/(∃x t,k=fu x/\v=iZ x t)
 |.inl i,v,h=>by obtain⟨t,e⟩:=Value.isInt_shape (k:=i) (v:=v) h;exact .inl ⟨i,t,rfl,e⟩
 |.inr x,v,h=>by obtain⟨t,e⟩:=Value.isStrOf_shape (x:=x) (v:=v) h;exact .inr ⟨x,t,rfl,e⟩
theorem Hz(i:Int)(t:Tok):v9 (.inl i) (.int i t)=true:=by simp[v9,Value.isInt]
theorem Hy(x:Str)(t:Tok):v9 (.inr x) (.str x t)=true:=by simp[v9,Value.isStrOf]
theorem key_ll(a b:Int):decide ((dX a:Key)=dX b)=(a==b):=by
 by_cases e:a=b;·subst e;simp
 ·have h:¬(dX a:Key)=dX b:=fun q=>e (dX.inj q);rw[decide_eq_false h];exact(beq_eq_false_iff_ne.mpr e).symm
theorem key_rr(a b:Str):decide ((fu a:Key)=fu b)=decide (a=b):=by
 by_cases e:a=b;·subst e;simp
 ·have h:¬(fu a:Key)=fu b:=fun q=>e (fu.inj q);rw[decide_eq_false h,decide_eq_false e]
theorem key_lr(a:Int)(b:Str):decide ((dX a:Key)=fu b)=false:=decide_eq_false (fun q=>nomatch q)
theorem key_rl(a:Str)(b:Int):decide ((fu a:Key)=dX b)=false:=decide_eq_false (fun q=>nomatch q)
noncomputable def cw(prog:Program)(w:World):PySem.KeyKind prog w Key where
 is:=v9
 hash:=keyH w
 inj:=fun v a b f d=>by
  rcases eY f with⟨i,t,rfl,rfl⟩ |⟨x,t,rfl,rfl⟩
  ·rcases eY d with⟨j,u,rfl,e⟩ |⟨y,u,rfl,e⟩;·injection e with e1 _;rw[e1]
   ·exact nomatch e
  ·rcases eY d with⟨j,u,rfl,e⟩ |⟨y,u,rfl,e⟩;·exact nomatch e
   ·injection e with e1 _;rw[e1]
 byValue:=fun k v h=>by rcases eY h with⟨i,t,rfl,rfl⟩ |⟨x,t,rfl,rfl⟩<;>rfl
 pyHash:=fun c h=>by
  rcases eY c with⟨i,t,rfl,rfl⟩ |⟨x,t,rfl,rfl⟩;·exact wpAny_pyHash_int h
  ·exact wpAny_pyHash_str h
 eqBool:=fun g c h=>by
  rcases eY g with⟨i,t,rfl,rfl⟩ |⟨x,t,rfl,rfl⟩
  ·rcases eY c with⟨j,u,rfl,rfl⟩ |⟨y,u,rfl,rfl⟩;·rw[key_ll]at h;exact qx h
   ·rw[key_lr]at h;exact CZ i t y u _ _ _ _ h
  ·rcases eY c with⟨j,u,rfl,rfl⟩ |⟨y,u,rfl,rfl⟩;·rw[key_rl]at h;exact CY x t j u _ _ _ _ h
   ·rw[key_rr]at h;exact wpAny_eqBool_str h
 «strs»:=fun k x t v h=>by
  rcases eY h with⟨i,u,rfl,e⟩ |⟨y,u,rfl,e⟩;·exact nomatch e
  ·injection e with e1 _
   subst e1;cases v<;>rfl
theorem DO(prog:Program)(w:World)(k:Key)(v:Value):(cw prog w).is k v=v9 k v:=rfl
theorem ny(prog:Program)(w:World)(i:Int)(t:Tok):(cw prog w).is (.inl i) (.int i t)=true:=Hz i t
theorem BF(prog:Program)(w:World)(x:Str)(t:Tok):(cw prog w).is (.inr x) (.str x t)=true:=Hy x t
inductive V where
 |non|bl (b:Bool) |int (i:Int) |str (x:Str) |byt (b:Array UInt8) |flt (b:UInt64) |ref (a:Addr) |ty (n:String)
 deriving DecidableEq
noncomputable def RelV:V->Value->Prop
 |.non,u=>u=bK
 |.bl b,u=>u=AB b
 |.int i,u=>∃t,u=wW i t
 |.str x,u=>∃t,u=iZ x t
 |.byt b,u=>∃t,u=Value.bytes b t
 |.flt b,u=>∃t,u=Value.float b t
 |.ref a,u=>u=bB a
 |.ty n,u=>u=gR n
noncomputable abbrev bM:List V->List Value->Prop:=Paired RelV
theorem bM.length{xs:List V}(r:bM xs us):xs.length=us.length:=mr r
theorem bM.get:∀{xs:List V}{us:List Value}{i:Nat}{x:V},bM xs us->xs[i]? =some x->∃u,us[i]? =some u/\RelV x u
 |_,_,_,_,.nil,e=>by simp at e
 |_,_,0,_,.cons r _,e=>by simp at e;subst e;exact⟨_,rfl,r⟩
 |_,_,i+1,x,.cons _ t,e=>by obtain⟨u,a,b⟩:=bM.get (i:=i) (x:=x) t (by simpa using e);exact⟨u,by simpa using a,b⟩
theorem bM.append:∀{xs ys:List V}{us ws:List Value},bM xs us->bM ys ws->bM (xs++ys) (us++ws)
 |_,_,_,_,.nil,s=>s
 |_,_,_,_,.cons r t,s=>.cons r (bM.append t s)
theorem bM.take:∀{xs:List V}{us:List Value}(n:Nat),bM xs us->bM (xs.take n) (us.take n)
 |_,_,0,_=>.nil
 |_,_,_+1,.nil=>.nil
 |_,_,n+1,.cons r t=>.cons r (bM.take n t)
theorem bM.drop:∀{xs:List V}{us:List Value}(n:Nat),bM xs us->bM (xs.drop n) (us.drop n)
 |_,_,0,r=>r
 |_,_,_+1,.nil=>.nil
 |_,_,n+1,.cons _ t=>bM.drop n t
noncomputable def tf:Option V->Option Value->Prop
 |some v,some u=>RelV v u
 |none,none=>True
 |_,_=>False
noncomputable def KV{κ:Type}:List (κ×V)->List (κ×Value)->Prop:=Paired fun(p:κ×V)(q:κ×Value)=>p.1=q.1/\RelV p.2 q.2
noncomputable def kV:Key->V
 |.inl i=>.int i
 |.inr x=>.str x
inductive HO where
 |lst (xs:List V)
 |tup (xs:List V)
 |dK (kvs:List (Key×V)) |dT (kvs:List (List Key×V))
 |set (S:Int->Bool) (n:Nat)
 |ins (C dx:Addr) (fs:List (Str×V))
 |own (x:Addr)
 |xd (fs:List (Str×V))
 |met (f x:Addr)
 |rng (lo hi:Int)
 |frz (o:Obj) (u:HO)
 |tbl (ps:Array Value)
 |ext (φ:Heap->Prop)
noncomputable abbrev Hp:=Addr->Option HO
noncomputable def upd(H:Hp)(a:Addr)(o:HO):Hp:=fun b=>if b=a then some o else H b
theorem au{H:Hp}{o:HO}:upd H a o a=some o:=by unfold upd;rw[if_pos rfl]
theorem aS{H:Hp}{o:HO}(h:b≠a):upd H a o b=H b:=by unfold upd;rw[if_neg h]
theorem Fg{H:Hp}{o u:HO}(h:H a=some o)(h':H b=some u)(d:o≠u):a≠b:=by intro e;subst e;rw[h]at h';exact d (bj h')
theorem a9{H:Hp}{o:HO}(h:H a=some o)(h':H b=none):a≠b:=by intro e;subst e;rw[h]at h';cases h'
section
variable(P:Program)(w:World)
noncomputable def dU(H:Hp)(h:Heap)(a:Addr):HO->Prop
 |.lst xs=>xs.length<=sizeLine/\∃(its:List Value)(n:Nat),bM xs its/\h.get? a=some {cls:=.type "list",data:=.seq its.toArray n}
 |.tup xs=>xs.length<=sizeLine/\∃its:List Value,bM xs its/\IsTup h a its.toArray
 |.dK kvs=>kvs.length<=sizeLine/\(a==gG)=false/\∃vs,KV kvs vs/\h.DictOf (cw P w) a vs
 |.dT kvs=>kvs.length<=sizeLine/\(a==gG)=false/\∃xs:List (List Key×Addr×Value),
   Paired (fun(p:List Key×V)(q:List Key×Addr×Value)=>p.1=q.1/\H q.2.1=some (.tup (p.1.map kV))/\RelV p.2 q.2.2) kvs xs/\
   ∃o es ep,h.get? a=some o/\o.ExactDict/\o.data=.dict es ep/\es.toList=xs.map (entryOfKey (qy (cw P w)))/\(xs.map (·.1)).Nodup
 |.set S n=>h.SetOf (intKind P w) a S n
 |.ins C dx fs=>H dx=some (.own a)/\fs.length<=1000/\dx≠a/\h.get? a=some (wX C dx)/\
   ∃mA,h.Ns1 dx mA/\(∀f,tf (fs.lookup f) (mA f))/\kH mA (fs.map (·.1))
 |.own _=>∃o,h.get? a=some o
 |.xd fs=>∃mA,h.Ns1 a mA/\∀f,tf (fs.lookup f) (mA f)
 |.rng lo hi=>∃t u v,h.get? a=some {cls:=.type "range",data:=.fields #[.int lo t,.int hi u,.int 1 v]}
 |.frz o u=>h.get? a=some o/\dU H h a u
 |.tbl ps=>h.get? a=some {cls:=.none,data:=.fields ps}
 |.met f x=>h.get? a=some (tu (.ref f) (.ref x))
 |.ext φ=>φ h/\(∃o,h.get? a=some o)/\∀h1 h2:Heap,φ h1->(∀o,h1.get? a=some o->h2.get? a=some o)->φ h2
def HOk(H:Hp)(h:Heap):Prop:=∀a o,H a=some o->dU P w H h a o
end
section
variable {P:Program}{w:World}{H H':Hp}{h h':Heap}{a:Addr}{o:HO}
theorem dU.lt(x:dU P w H h a o):a<h.objs.size:=by
 cases o with
 |lst xs=>obtain⟨_,_,_,_,e⟩:=x;exact aw e
 |tup xs=>obtain⟨_,_,_,p⟩:=x;exact p.lt
 |dK kvs=>obtain⟨_,_,_,_,o,_,_,e,_⟩:=x;exact aw e
 |dT kvs=>obtain⟨_,_,_,_,o,_,_,e,_⟩:=x;exact aw e
 |set S n=>obtain⟨o,_,_,_,e,_⟩:=x;exact aw e
 |ins C dx fs=>obtain⟨_,_,_,e,_⟩:=x;exact aw e
 |own y=>obtain⟨_,e⟩:=x;exact aw e
 |xd fs=>obtain⟨_,⟨_,_,_,e,_⟩,_⟩:=x;exact aw e
 |rng lo hi=>obtain⟨_,_,_,e⟩:=x;exact aw e
 |frz ob u=>obtain⟨e,_⟩:=x;exact aw e
 |tbl ps=>exact aw (show h.get? a=some _ from x)
 |met f y=>exact aw (show h.get? a=some _ from x)
 |ext φ=>obtain⟨_,⟨_,e⟩,_⟩:=x;exact aw e
theorem Paired.jM{e g:Type}{F G:e->g->Prop}:∀{c:List e}{d:List g},Paired F c d->(∀a b,F a b->G a b)->Paired G c d
 |_,_,.nil,_=>.nil
 |_,_,.cons r t,f=>.cons (f _ _ r) (Paired.jM t f)
theorem dU.lE(x:dU P w H h a o)(k:∀b u,(b=a\/H b=some (.own a))->h.get? b=some u->h'.get? b=some u)
  (D:∀b,H b=some (.own a)->H' b=some (.own a))(E:∀b xs,H b=some (.tup xs)->H' b=some (.tup xs)):dU P w H' h' a o:=by
 induction o with
 |lst xs=>obtain⟨z,l,n,r,e⟩:=x;exact⟨z,l,n,r,k _ _ (.inl rfl) e⟩
 |tup xs=>obtain⟨z,l,r,g,e,c⟩:=x;exact⟨z,l,r,g,k _ _ (.inl rfl) e,c⟩
 |dK kvs=>obtain⟨z,y,F,r,g,j,i,e,c⟩:=x;exact⟨z,y,F,r,g,j,i,k _ _ (.inl rfl) e,c⟩
 |dT kvs=>obtain⟨z,y,xs,r,g,j,i,e,c⟩:=x;exact⟨z,y,xs,Paired.jM r fun p q z=>⟨z.1,E _ _ z.2.1,z.2.2⟩,g,j,i,k _ _ (.inl rfl) e,c⟩
 |set S n=>obtain⟨g,j,i,t,e,c⟩:=x;exact⟨g,j,i,t,k _ _ (.inl rfl) e,c⟩
 |ins C dx fs=>obtain⟨d,z,ne,e,m,⟨s,j,i,B,c⟩,r⟩:=x;exact⟨D _ d,z,ne,k _ _ (.inl rfl) e,m,⟨s,j,i,k _ _ (.inr d) B,c⟩,r⟩
 |own y=>obtain⟨g,e⟩:=x;exact⟨g,k _ _ (.inl rfl) e⟩
 |xd fs=>obtain⟨m,⟨s,j,i,e,c⟩,r⟩:=x;exact⟨m,⟨s,j,i,k _ _ (.inl rfl) e,c⟩,r⟩
 |rng lo hi=>obtain⟨t,u,v,e⟩:=x;exact⟨t,u,v,k _ _ (.inl rfl) e⟩
 |frz g u ih=>obtain⟨e,q⟩:=x;exact⟨k _ _ (.inl rfl) e,ih q⟩
 |tbl ps=>have e:h.get? a=some {cls:=.none,data:=.fields ps}:=x;show h'.get? a=some {cls:=.none,data:=.fields ps};exact k a _ (.inl rfl) e
 |met f y=>have e:h.get? a=some (tu (.ref f) (.ref y)):=x;show h'.get? a=some (tu (.ref f) (.ref y));exact k a _ (.inl rfl) e
 |ext φ=>obtain⟨p,⟨o,e⟩,A⟩:=x;exact⟨A _ _ p fun o q=>k _ _ (.inl rfl) q,⟨o,k _ _ (.inl rfl) e⟩,A⟩
theorem HOk.lt(x:HOk P w H h)(e:H a=some o):a<h.objs.size:=(x a o e).lt
theorem HOk.fresh(x:HOk P w H h)(e:h.objs.size<=a):H a=none:=by
 cases q:H a with
 |none=>rfl
 |some u=>exact absurd (aT (x.lt q) e) (dJ _)
theorem HOk.kept(x:HOk P w H h)(k:∀b u,h.get? b=some u->h'.get? b=some u):HOk P w H h':=fun a o e=>
 (x a o e).lE (fun b u _ q=>k b u q) (fun _ q=>q) fun _ _ q=>q
theorem HOk.laid(x:HOk P w H h)(k:∀b u,h.get? b=some u->h'.get? b=some u)(hp:h.objs.size<=a)(new:dU P w (upd H a o) h' a o):HOk P w (upd H a o) h':=fun b u e=>by
 have d:=x.fresh hp;by_cases hb:b=a;·subst hb;rw[au]at e;cases e;exact new
 ·rw[aS hb]at e;exact(x b u e).lE (fun c v _ q=>k c v q) (fun c q=>by rw[aS (a9 q d)];exact q) fun c f q=>by rw[aS (a9 q d)];exact q
end
def Rd(H:Hp)(a:Addr)(u:HO):Prop:=H a=some u\/∃o,H a=some (.frz o u)
theorem Rd.ok{H:Hp}{u:HO}(r:Rd H a u)(x:HOk P w H h):dU P w H h a u:=by
 rcases r with r|⟨o,r⟩;·exact x a u r
 ·obtain⟨_,q⟩:=x a _ r;exact q
noncomputable def Mut:Option HO->Prop
 |some (.lst _)=>True
 |some (.dK _)=>True
 |some (.dT _)=>True
 |some (.set _ _)=>True
 |some (.ins _ _ _)=>True
 |some (.ext _)=>True
 |_=>False
section
variable {P:Program}{w:World}{H:Hp}{h h':Heap}{x e:Addr}{o':HO}
theorem HOk.write(ok:HOk P w H h)(a:Mut (H x))(f:e=x\/H e=some (.own x))(k:∀b u,b≠e->h.get? b=some u->h'.get? b=some u)(j:∃u,h'.get? e=some u)
  (new:dU P w (upd H x o') h' x o'):HOk P w (upd H x o') h':=fun b u q=>by
 have g:∀c y,H c=some (.own y)->c≠x:=fun c y r z=>by subst z;rw[r]at a;exact a
 have m:∀c d,H c=some (.tup d)->c≠x:=fun c d r z=>by subst z;rw[r]at a;exact a
 by_cases hb:b=x;·subst hb;rw[au]at q;cases q;exact new
 ·rw[aS hb]at q;by_cases hbe:b=e
  ·have i:H b=some (.own x):=by
    rcases f with z|z;·exact absurd (hbe.trans z) hb
    ·rw[hbe];exact z
   rw[q]at i;cases i;obtain⟨v,l⟩:=j;exact⟨v,by rw[hbe];exact l⟩
  ·refine(ok b u q).lE (fun c v hc r=>k c v ?_ r) (fun c r=>by rw[aS (g c b r)];exact r) fun c d r=>by rw[aS (m c d r)];exact r
   rcases hc with rfl|hc;·exact hbe
   ·rintro rfl;rcases f with z|z;·exact g c b hc z
    ·rw[hc]at z;cases z;exact hb rfl
end
structure Un(fs ex:List Addr)(H H':Hp)(h h':Heap):Prop where
 keep:∀b o,h.get? b=some o->H b=none->b∉fs->b∉ex->h'.get? b=some o
 slot:∀b o,h.get? b=some o->H b=none->b∈fs->b∉ex->∃sl,h'.get? b=some {o with slots:=sl}
 free:∀b o,h.get? b=some o->H b=none->b∉ex->H' b=none
 there:∀b o,h.get? b=some o->b∉ex->∃o',h'.get? b=some o'
 tups:∀b xs,H b=some (.tup xs)->H' b=some (.tup xs)
 frzs:∀b o u,H b=some (.frz o u)->H' b=some (.frz o u)
 tbls:∀b ps,H b=some (.tbl ps)->∃more,H' b=some (.tbl (ps++more))
section
variable {fs fs' ex ex':List Addr}{H H1 H2:Hp}{h h1 h2 h':Heap}{a x e:Addr}{o:HO}
theorem Un.any(u:Un fs ex H H1 h h1){ob:Obj}(q:h.get? b=some ob)(n:H b=none)(a:b∉ex):∃sl,h1.get? b=some {ob with slots:=sl}:=by
 by_cases hb:b∈fs;·exact u.slot b ob q n hb a
 ·exact⟨ob.slots,u.keep b ob q n hb a⟩
theorem Un.kept(k:∀b u,h.get? b=some u->h'.get? b=some u):Un fs ex H H h h':=
 ⟨fun b a q _ _ _=>k b a q,fun b a q _ _ _=>⟨a.slots,k b a q⟩,fun _ _ _ n _=>n,fun b a q _=>⟨a,k b a q⟩,fun _ _ q=>q,fun _ _ _ q=>q,fun _ c q=>⟨#[],by rw[q];simp⟩⟩
theorem Un.refl:Un fs ex H H h h:=Un.kept fun _ _ q=>q
theorem Un.laid(k:∀b u,h.get? b=some u->h'.get? b=some u)(hp:h.objs.size<=a)(c:H a=none):Un fs ex H (upd H a o) h h' where
 keep:=fun b u q _ _ _=>k b u q
 slot:=fun b u q _ _ _=>⟨u.slots,k b u q⟩
 free:=fun b u q n _=>by rw[aS (aK (aT (aw q) hp))];exact n
 there:=fun b u q _=>⟨u,k b u q⟩
 tups:=fun b d q=>by rw[aS (a9 q c)];exact q
 frzs:=fun b u d q=>by rw[aS (a9 q c)];exact q
 tbls:=fun b e q=>⟨#[],by rw[aS (a9 q c),q];simp⟩
theorem Un.write(a:Mut (H x))(g:e=x\/H e=some (.own x))(k:∀b u,b≠e->h.get? b=some u->h'.get? b=some u)(i:∃u,h'.get? e=some u):Un fs ex H (upd H x o) h h':=by
 have f:∀b,H b=none->b≠x:=fun b n z=>by subst z;rw[n]at a;exact a
 have d:∀b,H b=none->b≠e:=fun b n z=>by
  subst z;rcases g with r|r;·exact f b n r
  ·rw[n]at r;cases r
 have c:∀b u,H b=some u->¬Mut (some u)->b≠x:=fun b u q j z=>by subst z;rw[q]at a;exact j a
 refine⟨fun b u q n _ _=>k b u (d b n) q,fun b u q n _ _=>⟨u.slots,k b u (d b n) q⟩,fun b u q n _=>by rw[aS (f b n)];exact n,fun b u q _=>?_,
  fun b l q=>by rw[aS (c b _ q fun z=>z)];exact q,fun b u l q=>by rw[aS (c b _ q fun z=>z)];exact q,fun b m q=>⟨#[],by rw[aS (c b _ q fun z=>z),q];simp⟩⟩
 by_cases hbe:b=e;·subst hbe;exact i
 ·exact⟨u,k b u hbe q⟩
end
noncomputable def trk(h:Heap)(H:Hp):List Addr:=(aG h.objs.size).filter fun a=>(H a).isSome
noncomputable def BW(h:Heap)(H:Hp):Heap:=PySem.W.hideAll h (trk h H)
theorem HF(h:Heap)(H:Hp):(BW h H).objs.size=h.objs.size:=PySem.W.hideAll_size _ _
theorem wc{H:Hp}{o:Obj}(e:h.get? b=some o)(n:H b=none):(BW h H).get? b=some o:=
 PySem.W.hideAll_get _ e fun a=>by have q:(H b).isSome=true:=(dO.mp a).2;rw[n]at q;simp at q
theorem of_hidT{H:Hp}{o:Obj}(e:(BW h H).get? b=some o):h.get? b=some o/\H b=none:=by
 have a:h.get? b=some o:=PySem.W.of_hideAll (trk h H) e;refine⟨a,?_⟩;cases q:H b with
 |none=>rfl
 |some x=>have c:b∈trk h H:=dO.mpr ⟨aY.mpr (aw a),by simp[q]⟩;have z:(BW h H).get? b=none:=PySem.W.hideAll_none (trk h H) c;rw[z]at e;cases e
structure Mod(K:ah)(mg:Str->Option Value)(base:Heap):Prop where
 kin:K.In base
 glob:base.Ns bF mg
 blt:∃mb,base.Ns m3 mb/\∀x:Str,x≠"__name__"->mb x=fM x
 nolimit:base.NoLimit
structure Cx where
 prog:Program
 w:World
 K:ah
 mg:Str->Option Value
 base:Heap
 A:Around
 N:List Str
 s₀:Shared
 H₀:Hp
 env:Env
 outer:List Env
 stack:List Env
 ex:List Addr
 fn:Str->Bool
 calm:Bool
 pn:List (Addr×Obj)
 xe:Value->Shared->Prop
noncomputable def frs(l:List Env):List Addr:=l.filterMap (·.frame)
noncomputable abbrev Cx.fs(X:Cx):List Addr:=frs X.outer
def Vis(sc:Scope)(x:Str):Prop:=sc.names.lookup x=some .local\/sc.names.lookup x=some .cell\/sc.names.lookup x=some .free
def Loc(sc:Scope)(x:Str):Prop:=sc.names.lookup x=some .local\/sc.names.lookup x=some .cell
def Look(env:Env)(h:Heap)(m:Str->Option Value)(x:Str)(u:Value):Prop:=
 (env.kindOf x=some .local/\m x=some u)\/((env.kindOf x=some .cell\/env.kindOf x=some .free)/\∃c,env.cells.lookup x=some c/\h.IsCell c (some u))
structure Cx.Ok(X:Cx):Prop where
 mod:Mod X.K X.mg X.base
 kind:X.env.scope.kind=.function
 glob:X.env.globals=bF
 blt:X.env.builtins=m3
 above:X.s₀.heap.objs.size<=X.env.locals
 inj:∀x y c,X.env.cells.lookup x=some c->X.env.cells.lookup y=some c->x=y
 has:∀x,(X.env.kindOf x=some .cell\/X.env.kindOf x=some .free)->∃c,X.env.cells.lookup x=some c
 cab:∀x c,X.fn x=true->X.env.cells.lookup x=some c->X.s₀.heap.objs.size<=c
 hd:X.calm=true->X.A.handled=none
 frames:X.A.frames=some X.stack
 stk:X.stack=X.outer\/(X.stack=X.env::X.outer/\X.env.frame=some X.env.locals)
 exf:∀b∈X.ex,b≠X.env.locals/\∀x c,X.env.cells.lookup x=some c->c≠b
 bs:∀b o,X.base.get? b=some o->X.s₀.heap.get? b=some o/\X.H₀ b=none
 bsz:X.base.objs.size<=X.s₀.heap.objs.size
 noex:∀b o,X.base.get? b=some o->b∉X.ex
 exfs:∀b∈X.ex,b∉X.fs
 wk:X.s₀.heap.FunFrames X.base X.outer
 frf:∀b∈X.fs,X.H₀ b=none
structure Inv(X:Cx)(pins:List (Addr×Obj))(σ:List (Option V))(H:Hp)(s:Shared):Prop where
 ok:X.Ok
 os:s.os=X.s₀.os
 bare:ph s.gens
 base:Un X.fs X.ex X.H₀ H X.s₀.heap s.heap
 loc:∃m,s.heap.Ns X.env.locals m/\∀(i:Nat)(x:Str)(v:V),X.N[i]? =some x->σ[i]? =some (some v)->Vis X.env.scope x->∃u,RelV v u/\Look X.env s.heap m x u
 cell:∀x c,X.env.cells.lookup x=some c->∃v,s.heap.IsCell c v
 free:H X.env.locals=none
 freeC:∀x c,X.env.cells.lookup x=some c->H c=none
 pin:∀p∈X.pn++pins,s.heap.get? p.1=some p.2/\H p.1=none/\p.1≠X.env.locals/\p.1∉X.fs/\∀v,p.2.data≠.cell v
 hok:HOk X.prog X.w H s.heap
 len:σ.length=X.N.length
section
variable {X:Cx}{pins:List (Addr×Obj)}{σ:List (Option V)}{H H':Hp}{s:Shared}{h':Heap}
theorem Cx.Ok.nofr(ok:X.Ok){o:Obj}(e:X.base.get? b=some o):b∉X.fs:=fun a=>by have :=(ok.wk.mem a).1;rw[e]at this;cases this
theorem Inv.bs(I:Inv X pins σ H s):∀b o,X.base.get? b=some o->s.heap.get? b=some o/\H b=none:=fun b o e=>
 ⟨I.base.keep b o (I.ok.bs b o e).1 (I.ok.bs b o e).2 (I.ok.nofr e) (I.ok.noex b o e),I.base.free b o (I.ok.bs b o e).1 (I.ok.bs b o e).2 (I.ok.noex b o e)⟩
theorem Inv.bk(I:Inv X pins σ H s):∀b o,X.base.get? b=some o->s.heap.get? b=some o:=fun b o e=>(I.bs b o e).1
theorem Inv.mod(I:Inv X pins σ H s):Mod X.K X.mg X.base:=I.ok.mod
theorem Inv.kIn(I:Inv X pins σ H s):X.K.In s.heap:=I.ok.mod.kin.keeps I.bk
theorem Inv.nolimit(I:Inv X pins σ H s):s.heap.NoLimit:=I.ok.mod.nolimit.keeps I.bk
theorem Inv.lt(I:Inv X pins σ H s):X.env.locals<s.heap.objs.size:=let⟨_,hn,_⟩:=I.loc;hn.lt
theorem Inv.sz(I:Inv X pins σ H s):X.s₀.heap.objs.size<=s.heap.objs.size:=aP I.ok.above (jx I.lt)
theorem Inv.nofs(I:Inv X pins σ H s)(h:s.heap.objs.size<=a):a∉X.fs:=fun b=>by obtain⟨_,o,c,_⟩:=I.ok.wk.mem b;exact absurd (aT (aw c) (aP I.sz h)) (dJ _)
theorem Inv.cne(I:Inv X pins σ H s):∀x c,X.env.cells.lookup x=some c->c≠X.env.locals:=fun x c e z=>by obtain⟨v,o,b,a⟩:=I.cell x c e;obtain⟨m,⟨i,h,g,f,d,_⟩,_⟩:=I.loc;rw[z,f]at b;cases b;rw[d]at a;cases a
theorem Inv.wk(I:Inv X pins σ H s):s.heap.FunFrames X.base X.outer:=by
 have all:∀(l:List Env),(∀b∈frs l,b∈X.fs)->X.s₀.heap.FunFrames X.base l->s.heap.FunFrames X.base l:=by
  intro l
  induction l with
  |nil=>intro _ _;trivial
  |cons env r ih=>intro d h;obtain⟨g,⟨L,o,hf,i,j,f⟩,k⟩:=h;have a:L∈X.fs:=d L (by unfold frs;rw[sv,hf];exact aL);obtain⟨m,e⟩:=I.base.slot L o j (I.ok.frf L a) a fun z=>I.ok.exfs L z a;exact⟨g,⟨L,_,hf,i,e,f⟩,ih (fun b c=>d b (by unfold frs;rw[sv,hf];exact aJ _ c)) k⟩
 exact all X.outer (fun _ c=>c) I.ok.wk
theorem Inv.stack(I:Inv X pins σ H s):s.heap.FunFrames X.base X.stack:=by
 rcases I.ok.stk with e|⟨e,hf⟩;·rw[e];exact I.wk
 ·rw[e];obtain⟨m,a,_⟩:=I.loc;refine .cons (by rw[I.ok.kind];decide) hf a ?_ I.wk;exact qF (aP I.ok.bsz I.ok.above)
theorem Inv.Dm(I:Inv X pins σ H s):∀b∈frs X.stack,b∈X.env.locals::X.fs:=fun b a=>by
 rcases I.ok.stk with e|⟨e,hf⟩;·rw[e]at a;exact aJ _ a
 ·rw[e]at a;unfold frs at a;rw[sv,hf]at a;exact a
theorem Inv.y6(I:Inv X pins σ H s):∀b∈frs X.stack,H b=none:=fun b hb=>by
 rcases aH.mp (I.Dm b hb)with e|hb;·rw[e];exact I.free
 ·obtain⟨_,o,a,_⟩:=I.ok.wk.mem hb;exact I.base.free b o a (I.ok.frf b hb) fun z=>I.ok.exfs b z hb
theorem Inv.step{g':Array ly}{d':Drawn}(I:Inv X pins σ H s)
  (t:∀b∈ch,(b∈X.ex\/X.s₀.heap.objs.size<=b)/\b≠X.env.locals/\(∀x c,X.env.cells.lookup x=some c->c≠b)/\∀p∈X.pn++pins,p.1≠b)
  (B:∀b o,b≠X.env.locals->b∉X.fs->b∉ch->s.heap.get? b=some o->H b=none->h'.get? b=some o)
  (slot:∀b o,b≠X.env.locals->b∈X.fs->b∉ch->s.heap.get? b=some o->H b=none->∃sl,h'.get? b=some {o with slots:=sl}) (free:∀b o,b∉ch->s.heap.get? b=some o->H b=none->H' b=none)
  (there:∀b o,b∉ch->s.heap.get? b=some o->∃o',h'.get? b=some o')
  (R:∀b xs,H b=some (.tup xs)->H' b=some (.tup xs)) (F:∀b o u,H b=some (.frz o u)->H' b=some (.frz o u)) (Q:∀b ps,H b=some (.tbl ps)->∃more,H' b=some (.tbl (ps++more)))
  (O:∀m,s.heap.Ns X.env.locals m->h'.Ns X.env.locals m) (L:HOk X.prog X.w H' h') (G:ph g'):
  Inv X pins σ H' {s with heap:=h',gens:=g',drawn:=d',toks:=t'}:=by
 have neL:∀b o,X.s₀.heap.get? b=some o->b≠X.env.locals:=fun b o e=>aK (aT (aw e) I.ok.above);have y:∀b o,X.s₀.heap.get? b=some o->b∉X.ex->b∉ch:=fun b o e a g=>by
  rcases(t b g).1 with z|z;·exact a z
  ·exact absurd (aT (aw e) z) (dJ _)
 have C:∀x c,X.env.cells.lookup x=some c->∀v,s.heap.IsCell c v->h'.IsCell c v:=fun x c e v ⟨o,h,A⟩=>by
  have w:c∉ch:=fun z=>(t c z).2.2.1 x c e rfl;by_cases hc:c∈X.fs;·obtain⟨sl,q⟩:=slot c o (I.cne x c e) hc w h (I.freeC x c e);exact⟨_,q,A⟩
  ·exact⟨o,B c o (I.cne x c e) hc w h (I.freeC x c e),A⟩
 refine⟨I.ok,I.os,G,⟨fun b o e n g a=>?_,fun b o e n g a=>?_,fun b o e n a=>?_,fun b o e a=>?_,fun b xs e=>R b xs (I.base.tups b xs e),fun b o xs e=>F b o xs (I.base.frzs b o xs e),fun b ps e=>?_⟩,?_,fun x c e=>?_,?_,fun x c e=>?_,fun p hp=>?_,L,I.len⟩;·exact B b o (neL b o e) g (y b o e a) (I.base.keep b o e n g a) (I.base.free b o e n a)
 ·obtain⟨sl,f⟩:=I.base.slot b o e n g a;obtain⟨P,j⟩:=slot b _ (neL b o e) g (y b o e a) f (I.base.free b o e n a);exact⟨P,j⟩
 ·obtain⟨o',f⟩:=I.base.there b o e a;exact free b o' (y b o e a) f (I.base.free b o e n a)
 ·obtain⟨o',f⟩:=I.base.there b o e a;exact there b o' (y b o e a) f
 ·obtain⟨M,f⟩:=I.base.tbls b ps e;obtain⟨N,j⟩:=Q b _ f;exact⟨M++N,by rw[j,Array.append_assoc]⟩
 ·obtain⟨m,K,J⟩:=I.loc;refine⟨m,O m K,fun i x v f j E=>?_⟩;obtain⟨u,r,l⟩:=J i x v f j E;refine⟨u,r,?_⟩;rcases l with l|⟨k,c,e,z⟩;·exact .inl l
  ·exact .inr ⟨k,c,e,C x c e _ z⟩
 ·obtain⟨v,z⟩:=I.cell x c e;exact⟨v,C x c e v z⟩
 ·obtain⟨m,⟨o,_,_,h,_⟩,_⟩:=I.loc;exact free _ o (fun z=>(t _ z).2.1 rfl) h I.free
 ·obtain⟨v,o,h,A⟩:=I.cell x c e;exact free c o (fun z=>(t c z).2.2.1 x c e rfl) h (I.freeC x c e)
 ·obtain⟨e,n,ne,D,d⟩:=I.pin p hp;have w:p.1∉ch:=fun z=>(t p.1 z).2.2.2 p hp rfl;exact⟨B p.1 p.2 ne D w e n,free p.1 p.2 w e n,ne,D,d⟩
theorem Inv.un(I:Inv X pins σ H s)(u:Un X.fs [] H H' s.heap h')(j:HOk X.prog X.w H' h'):Inv X pins σ H' {s with heap:=h',toks:=t'}:=by obtain⟨m,⟨o,p,l,c,r⟩,_⟩:=id I.loc;obtain⟨v,h⟩:=u.any c I.free (by simp);exact I.step (g':=s.gens) (d':=s.drawn) (ch:=[]) (fun _ z=>nomatch z) (fun b o _ a _ e n=>u.keep b o e n a (by simp)) (fun b o _ a _ e n=>u.slot b o e n a (by simp)) (fun b o _ e n=>u.free b o e n (by simp)) (fun b o _ e=>u.there b o e (by simp)) u.tups u.frzs u.tbls (fun q i=>by obtain⟨t,g,f,d,k⟩:=i;rw[c]at d;cases d;exact⟨_,g,f,h,k⟩) j I.bare
theorem Inv.call{g':Array ly}{d':Drawn}(I:Inv X pins σ H s)(u:Un (frs X.stack) ch H H' s.heap h')(t:HOk X.prog X.w H' h')(l:ph g')
  (f:∀b∈ch,(b∈X.ex\/X.s₀.heap.objs.size<=b)/\b≠X.env.locals/\(∀x c,X.env.cells.lookup x=some c->c≠b)/\∀p∈X.pn++pins,p.1≠b):
  Inv X pins σ H' {s with heap:=h',gens:=g',drawn:=d',toks:=t'}:=by
 obtain⟨m,⟨o,y,w,g,r⟩,_⟩:=id I.loc;obtain⟨C,d⟩:=u.any g I.free fun z=>(f _ z).2.1 rfl;exact I.step (ch:=ch) f (fun b o d k a e n=>u.keep b o e n (fun z=>(aH.mp (I.Dm b z)).elim d k) a) (fun b o _ _ a e n=>u.any e n a) (fun b o a e n=>u.free b o e n a) (fun b o a e=>u.there b o e a) u.tups u.frzs u.tbls (fun A q=>by obtain⟨B,j,i,h,v⟩:=q;rw[g]at h;cases h;exact⟨_,j,i,d,v⟩) t l
theorem Inv.turned(I:Inv X pins σ H s)(k:∀b o,b≠it->s.heap.get? b=some o->h'.get? b=some o)(y:H it=none)(d:it≠X.env.locals)
  (i:it∈X.ex\/X.s₀.heap.objs.size<=it)(j:∀x c,X.env.cells.lookup x=some c->c≠it)(l:∀p∈X.pn++pins,p.1≠it):Inv X pins σ H {s with heap:=h',toks:=t'}:=by
 have f:∀b u,H b=some u->b≠it:=fun b u e z=>by rw[z,y]at e;cases e
 refine I.step (g':=s.gens) (d':=s.drawn) (ch:=[it]) (fun b t=>?_) (fun b o _ _ a e _=>k b o (fun z=>a (by simp[z])) e) (fun b o _ _ a e _=>⟨o.slots,k b o (fun z=>a (by simp[z])) e⟩) (fun _ _ _ _ n=>n)
  (fun b o a e=>⟨o,k b o (fun z=>a (by simp[z])) e⟩) (fun _ _ e=>e) (fun _ _ _ e=>e) (fun b B e=>⟨#[],by rw[e];simp⟩) (fun m w=>?_) (fun b u e=>?_) I.bare
 ·have e:b=it:=by simpa using t
  subst e;exact⟨i,d,j,l⟩
 ·obtain⟨o,h,g,A,r⟩:=w;exact⟨o,h,g,k _ o (bA d) A,r⟩
 ·refine(I.hok b u e).lE (fun c v a q=>k c v ?_ q) (fun _ q=>q) fun _ _ q=>q;rcases a with z|z;·rw[z];exact f b u e
  ·exact f c _ z
theorem Inv.tok(I:Inv X pins σ H s)(t:Nat):Inv X pins σ H {s with toks:=t}:=I.un (h':=s.heap) (t':=t) Un.refl I.hok
theorem Inv.kept(I:Inv X pins σ H s)(k:∀b u,s.heap.get? b=some u->h'.get? b=some u):Inv X pins σ H {s with heap:=h',toks:=t'}:=I.un (Un.kept k) (I.hok.kept k)
theorem Inv.laid{o:HO}(I:Inv X pins σ H s)(k:∀b u,s.heap.get? b=some u->h'.get? b=some u)(hp:s.heap.objs.size<=a)(new:dU X.prog X.w (upd H a o) h' a o):
  Inv X pins σ (upd H a o) {s with heap:=h',toks:=t'}:=I.un (Un.laid k hp (I.hok.fresh hp)) (I.hok.laid k hp new)
theorem Inv.write{x e:Addr}{o:HO}(I:Inv X pins σ H s)(d:Mut (H x))(a:e=x\/H e=some (.own x))(k:∀b u,b≠e->s.heap.get? b=some u->h'.get? b=some u)(c:∃u,h'.get? e=some u)
  (new:dU X.prog X.w (upd H x o) h' x o):Inv X pins σ (upd H x o) {s with heap:=h',toks:=t'}:=I.un (Un.write d a k c) (I.hok.write d a k c new)
theorem Inv.zy(I:Inv X pins σ H s)(h:∀p∈pins',s.heap.get? p.1=some p.2/\H p.1=none/\p.1≠X.env.locals/\p.1∉X.fs/\∀v,p.2.data≠.cell v):Inv X pins' σ H s:=
 ⟨I.ok,I.os,I.bare,I.base,I.loc,I.cell,I.free,I.freeC,fun p hp=>(dh.mp hp).elim (fun z=>I.pin p (cJ _ z)) (h p),I.hok,I.len⟩
theorem vM(e:N.Nodup)(a:N[i]? =some x)(b:N[j]? =some x):i=j:=by obtain⟨f,c⟩:=aC.mp a;obtain⟨g,d⟩:=aC.mp b;exact(eR e).mp (c.trans d.symm)
theorem GJ{M:Model}{v:V}{Q:Unit->Shared->Prop}(I:Inv X pins σ H s)(R:X.N.Nodup)(hi:X.N[i]? =some x)(l:Loc X.env.scope x)(r:RelV v u)
  (h:∀s',Inv X pins (σ.set i (some v)) H s'->(∃a,di a s.heap s'.heap/\(a=X.env.locals\/X.env.cells.lookup x=some a))->Q () s')(hf:X.fn x=true\/X.env.scope.names.lookup x=some .local:=by first |exact .inl rfl|exact .inr rfl|assumption):wpAny M A (storeName X.env x u) Q E s:=by
 obtain⟨a5,G,W⟩:=id I.loc;have a1:(X.env.scope.kind== .class||(X.env.scope.kind== .module&&X.env.locals != X.env.globals))=false:=by rw[I.ok.kind];rfl
 have U:i<σ.length:=by rw[I.len];exact(aC.mp hi).1
 have cne:=I.cne;have a0:∀{a:Addr}{w:Heap},(∃o,s.heap.get? a=some o/\H a=none)->di a s.heap w->HOk X.prog X.w H w:=fun{a w} ha f b ob e=>by
  obtain⟨_,_,T⟩:=ha;refine(I.hok b ob e).lE (fun c C hc q=>(f.2 c ?_).trans q) (fun _ q=>q) fun _ _ q=>q;rintro rfl;rcases hc with rfl|hc;·rw[T]at e;cases e
  ·rw[T]at hc;cases hc
 rcases l with hk|hk
 ·refine wpAny_storeName_local hk G (fun w a2 f=>?_) a1;obtain⟨oL,_,_,a3,_⟩:=id G;refine h _ ⟨I.ok,I.os,I.bare,⟨fun b o e n t l=>?_,fun b o e n t l=>?_,I.base.free,fun b o e l=>?_,I.base.tups,I.base.frzs,I.base.tbls⟩,⟨_,a2,fun j y P g m D=>?_⟩,fun y c e=>?_,I.free,I.freeC,fun p hp=>?_,a0 ⟨oL,a3,I.free⟩ f,by simpa using I.len⟩ ⟨_,f,.inl rfl⟩;·exact(f.2 b (aK (aT (aw e) I.ok.above))).trans (I.base.keep b o e n t l)
  ·obtain⟨N,g⟩:=I.base.slot b o e n t l;exact⟨N,(f.2 b (aK (aT (aw e) I.ok.above))).trans g⟩
  ·obtain⟨K,g⟩:=I.base.there b o e l;exact⟨K,(f.2 b (aK (aT (aw e) I.ok.above))).trans g⟩
  ·by_cases hj:j=i;·subst hj;rw[hi]at g;cases g;rw[Gn U]at m;cases m;exact⟨u,r,.inl ⟨hk,by simp⟩⟩
   ·rw[qE (bA hj)]at m;obtain⟨O,L,q⟩:=W j y P g m D;refine⟨O,L,?_⟩;rcases q with⟨k,e⟩ |⟨k,c,e,z⟩;·refine .inl ⟨k,?_⟩;have :y≠x:=fun e=>hj (vM R g (e▸hi));simp[this,e]
    ·exact .inr ⟨k,c,e,z.sameBut f (cne y c e)⟩
  ·obtain⟨C,z⟩:=I.cell y c e;exact⟨C,z.sameBut f (cne y c e)⟩
  ·obtain⟨e,n,ne,J,d⟩:=I.pin p hp;exact⟨(f.2 p.1 ne).trans e,n,ne,J,d⟩
 ·have F:X.fn x=true:=by
   rcases hf with z|z;·exact z
   ·rw[z]at hk;cases hk
  obtain⟨c,hc⟩:=I.ok.has x (.inl hk);obtain⟨C,z⟩:=I.cell x c hc;refine wpAny_storeName_cell I.ok.kind hk hc z (fun w S f=>?_);obtain⟨Z,Y,a4⟩:=id z;refine h {s with heap:=w} ⟨I.ok,I.os,I.bare,⟨fun b o e n t l=>?_,fun b o e n t l=>?_,I.base.free,fun b o e l=>?_,I.base.tups,I.base.frzs,I.base.tbls⟩,⟨a5,G.sameBut f (bA (cne x c hc)),fun j y P g m D=>?_⟩,fun y B e=>?_,I.free,I.freeC,fun p hp=>?_,a0 ⟨Z,Y,I.freeC x c hc⟩ f,by simpa using I.len⟩ ⟨c,f,.inr hc⟩;·exact(f.2 b (aK (aT (aw e) (I.ok.cab x c F hc)))).trans (I.base.keep b o e n t l)
  ·obtain⟨N,g⟩:=I.base.slot b o e n t l;exact⟨N,(f.2 b (aK (aT (aw e) (I.ok.cab x c F hc)))).trans g⟩
  ·obtain⟨K,g⟩:=I.base.there b o e l;exact⟨K,(f.2 b (aK (aT (aw e) (I.ok.cab x c F hc)))).trans g⟩
  ·by_cases hj:j=i;·subst hj;rw[hi]at g;cases g;rw[Gn U]at m;cases m;exact⟨u,r,.inr ⟨.inl hk,c,hc,S⟩⟩
   ·rw[qE (bA hj)]at m;obtain⟨O,L,q⟩:=W j y P g m D;refine⟨O,L,?_⟩;rcases q with q|⟨k,B,e,z'⟩;·exact .inl q
    ·refine .inr ⟨k,B,e,z'.sameBut f ?_⟩;rintro rfl;exact hj (vM R g (I.ok.inj _ _ _ e hc▸hi))
  ·by_cases hcc:B=c;·subst hcc;exact⟨_,S⟩
   ·obtain⟨w2,z2⟩:=I.cell y B e;exact⟨w2,z2.sameBut f hcc⟩
  ·obtain⟨e,n,ne,J,d⟩:=I.pin p hp;refine⟨(f.2 p.1 ?_).trans e,n,ne,J,d⟩;intro q;rw[q,Y]at e;have q':Z=p.2:=bj e;exact d C (by rw[<-q'];exact a4)
theorem vj{M:Model}{v:V}{Q:Unit->Shared->Prop}(I:Inv X pins σ H s)(b:X.N.Nodup)(hi:X.N[i]? =some x)(c:Loc X.env.scope x)(r:RelV v u)
  (h:∀s',Inv X pins (σ.set i (some v)) H s'->Q () s')(hf:X.fn x=true\/X.env.scope.names.lookup x=some .local:=by first |exact .inl rfl|exact .inr rfl|assumption):wpAny M A (storeName X.env x u) Q E s:=
 GJ I b hi c r (fun s' a _=>h s' a) hf
theorem Inv.call'(I:Inv X pins σ H s)(f:s'.os=s.os)(u:Un (frs X.stack) ch H H' s.heap s'.heap)(g:HOk X.prog X.w H' s'.heap)(d:ph s'.gens)
  (a:∀b∈ch,(b∈X.ex\/X.s₀.heap.objs.size<=b)/\b≠X.env.locals/\(∀x c,X.env.cells.lookup x=some c->c≠b)/\∀p∈X.pn++pins,p.1≠b):Inv X pins σ H' s':=by
 obtain⟨i,g',d',t',h⟩:=s';have e:h=s.os:=f;subst e;exact I.call (g':=g') (t':=t') (d':=d') u g d a
end
noncomputable abbrev XK:=Value->Option Addr->Hp->Prop
noncomputable abbrev St:=List (Option V)
noncomputable abbrev VK:=V->Hp->Prop
noncomputable abbrev TE:=St->Hp->VK->Prop
noncomputable abbrev TT:=St->Hp->(Bool->Hp->Prop)->Prop
noncomputable abbrev TA:=St->Hp->(List V->Hp->Prop)->Prop
structure Ends where
 nx:St->Hp->Prop
 rt:VK
 bk:St->Hp->Prop:=fun _ _=>False
 ct:St->Hp->Prop:=fun _ _=>False
noncomputable abbrev TS:=Ends->St->Hp->Prop
def EP(X:Cx)(pins:List (Addr×Obj))(σ:St)(Q:VK)(u:Value)(s':Shared):Prop:=∃v H',Inv X pins σ H' s'/\RelV v u/\Q v H'
def TP(X:Cx)(pins:List (Addr×Obj))(σ:St)(Q:Bool->Hp->Prop)(b:Bool)(s':Shared):Prop:=∃H',Inv X pins σ H' s'/\Q b H'
def AP(X:Cx)(pins:List (Addr×Obj))(σ:St)(Q:List V->Hp->Prop)(us:List Value)(s':Shared):Prop:=∃vs H',Inv X pins σ H' s'/\bM vs us/\Q vs H'
def SP(X:Cx)(pins:List (Addr×Obj))(D:Ends)(f:Flow)(s':Shared):Prop:=
 match f with
 |.next=>∃a H',Inv X pins a H' s'/\D.nx a H'
 |.brk=>∃a H',Inv X pins a H' s'/\D.bk a H'
 |.cont=>∃a H',Inv X pins a H' s'/\D.ct a H'
 |.ret u=>∃v a H',Inv X pins a H' s'/\RelV v u/\D.rt v H'
def PE(X:Cx)(e:Expr)(t:TE):Prop:=
 ∀(pins:List (Addr×Obj))(s:Shared)(σ:St)(H:Hp)(Q:VK),Inv X pins σ H s->t σ H Q->wpAny (model X.prog X.w) X.A (eval e X.env) (EP X pins σ Q) X.xe s
def PT(X:Cx)(e:Expr)(t:TT):Prop:=
 ∀(pins:List (Addr×Obj))(s:Shared)(σ:St)(H:Hp)(Q:Bool->Hp->Prop),Inv X pins σ H s->t σ H Q->wpAny (model X.prog X.w) X.A (isTrue e X.env (eval e X.env)) (TP X pins σ Q) X.xe s
def PW(X:Cx)(e:Expr)(t:TT):Prop:=
 ∀(a:Sem Value)(pins:List (Addr×Obj))(s:Shared)(σ:St)(H:Hp)(Q:Bool->Hp->Prop),Inv X pins σ H s->t σ H Q->wpAny (model X.prog X.w) X.A (isTrue e X.env a) (TP X pins σ Q) X.xe s
theorem PW.pt{X:Cx}{t:TT}(h:PW X e t):PT X e t:=h _
def PA(X:Cx)(es:List Expr)(t:TA):Prop:=
 ∀(pos:Pos)(pins:List (Addr×Obj))(s:Shared)(σ:St)(H:Hp)(Q:List V->Hp->Prop),Inv X pins σ H s->t σ H Q->wpAny (model X.prog X.w) X.A (spliced (backTo pos (bz es X.env))) (AP X pins σ Q) X.xe s
def PS(X:Cx)(st:Stmt)(t:TS):Prop:=
 ∀(pins:List (Addr×Obj))(s:Shared)(σ:St)(H:Hp)(D:Ends),Inv X pins σ H s->t D σ H->wpAny (model X.prog X.w) X.A (exec st X.env) (SP X pins D) X.xe s
def PSs(X:Cx)(st:List Stmt)(t:TS):Prop:=
 ∀(pins:List (Addr×Obj))(s:Shared)(σ:St)(H:Hp)(D:Ends),Inv X pins σ H s->t D σ H->wpAny (model X.prog X.w) X.A (execs st X.env) (SP X pins D) X.xe s
theorem thn{c:Type}{t:Sem c}{Q b:c->Shared->Prop}{M:Model}(h:wpAny M A t Q E s)(d:∀a s,Q a s->b a s):wpAny M A t b E s:=cX h d fun _ _ x=>x
section
variable {X:Cx}
def xw(i:Nat):TE:=fun σ H Q=>∃v,σ[i]? =some (some v)/\Q v H
def tC(v:V):TE:=fun _ H Q=>Q v H
theorem J8(g:X.N[i]? =some x)(p:Vis X.env.scope x)(b:(x==("__debug__":Str))=false:=by decide) (j:(x==("__classdict__":Str))=false:=by decide):PE X (.Name x pos) (xw i):=by
 intro q s t H Q I h;obtain⟨v,e,h⟩:=h;obtain⟨m,o,k⟩:=I.loc;obtain⟨u,r,l⟩:=k i x v g e p;have a:EP X q t Q u s:=⟨v,H,I,r,h⟩;rcases l with⟨hk,n⟩ |⟨hk,c,d,f⟩;·exact Il (wpAny_loadName_local I.ok.kind hk o n a) b
 ·rcases hk with hk|hk;·exact Il (wpAny_loadName_cell I.ok.kind hk d f a) b
  ·exact Il (wpAny_loadName_free I.ok.kind hk d f a j) b
theorem pe_int{i j pos}:PE X (.Constant (.int i) j pos) (tC (.int i)):=fun _ _ _ H _ I h=>wpAny_Constant_int ⟨.int i,H,I.tok _,⟨_,rfl⟩,h⟩
theorem pe_bl{b j pos}:PE X (.Constant (.bool b) j pos) (tC (.bl b)):=fun _ _ _ H _ I h=>Constant_bool ⟨.bl b,H,I,rfl,h⟩
theorem pe_non{j pos}:PE X (.Constant .none j pos) (tC .non):=fun _ _ _ H _ I h=>Constant_none ⟨.non,H,I,rfl,h⟩
theorem pe_str{x j pos}:PE X (.Constant (.str x) j pos) (tC (.str x)):=fun _ _ _ H _ I h=>Calls.Constant_str ⟨.str x,H,I.tok _,⟨_,rfl⟩,h⟩
def Gl(X:Cx)(x:Str):Prop:=X.env.kindOf x=some .globalImplicit
theorem oO{d:St}{H:Hp}{Q:Value->Shared->Prop}(I:Inv X pins d H s)(b:Gl X x)(c:X.mg x=some u)(h:Q u s)
  (a:(x==("__debug__":Str))=false:=by decide):wpAny (model X.prog X.w) X.A (eval (.Name x pos) X.env) Q E s:=
 AL I.ok.kind b (Calls.loadGlobal_global (by rw[I.ok.glob];exact I.mod.glob.keeps I.bk) c h) a
theorem k9{i:St}{H:Hp}{Q:Value->Shared->Prop}(I:Inv X pins i H s)(d:Gl X x)(e:X.mg x=none)(g:fM x=some u)(h:Q u s)
  (f:x≠"__name__":=by decide) (c:(x==("__debug__":Str))=false:=by decide):wpAny (model X.prog X.w) X.A (eval (.Name x pos) X.env) Q E s:=by
 obtain⟨j,a,b⟩:=I.mod.blt;exact AL I.ok.kind d (Calls.loadGlobal_builtin (by rw[I.ok.glob];exact I.mod.glob.keeps I.bk) e (by rw[I.ok.blt];exact a.keeps I.bk) ((b x f).trans g) h) c
theorem E8{v:V}(b:Gl X x)(c:X.mg x=some u)(r:RelV v u)(a:(x==("__debug__":Str))=false:=by decide):PE X (.Name x pos) (tC v):=
 fun _ _ _ H _ I h=>oO I b c ⟨v,H,I,r,h⟩ a
theorem Fb{v:V}(b:Gl X x)(c:X.mg x=none)(e:fM x=some u)(r:RelV v u)(d:x≠"__name__":=by decide) (a:(x==("__debug__":Str))=false:=by decide):PE X (.Name x pos) (tC v):=
 fun _ _ _ H _ I h=>k9 I b c e ⟨v,H,I,r,h⟩ d a
variable {a b:Expr}{ta tb:TE}{pos:Pos}
variable {tA tB':TT}{rest:List Expr}
def tAnd(t u:TT):TT:=fun σ H Q=>t σ H fun c H1=>if c=true then u σ H1 Q else Q false H1
def tOr(t u:TT):TT:=fun σ H Q=>t σ H fun c H1=>if c=true then Q true H1 else u σ H1 Q
def tNot(t:TT):TT:=fun σ H Q=>t σ H fun c H1=>Q (!c) H1
theorem E5(b:PT X a tA):PW X (.BoolOp .And [a] pos) tA:=by
 intro i d s f H Q I h;refine isTrue_and (thn (b d s f H Q I h) fun c g e=>?_);cases c with
 |true=>exact isTrue_and_nil e
 |false=>exact e
theorem pw_or1(b:PT X a tA):PW X (.BoolOp .Or [a] pos) tA:=by
 intro i d s f H Q I h;refine isTrue_or (thn (b d s f H Q I h) fun c g e=>?_);cases c with
 |false=>exact isTrue_or_nil e
 |true=>exact e
theorem Dz(j:PT X a tA)(k:PW X (.BoolOp .And (b::rest) pos) tB'):PW X (.BoolOp .And (a::b::rest) pos) (tAnd tA tB'):=by
 intro m f s i H Q I h;refine isTrue_and (thn (j f s i H _ I h) fun c l ⟨d,e,g⟩=>?_);cases c with
 |true=>exact k m f l i d Q e g
 |false=>exact⟨d,e,g⟩
theorem pw_or(j:PT X a tA)(k:PW X (.BoolOp .Or (b::rest) pos) tB'):PW X (.BoolOp .Or (a::b::rest) pos) (tOr tA tB'):=by
 intro m f s i H Q I h;refine isTrue_or (thn (j f s i H _ I h) fun c l ⟨d,e,g⟩=>?_);cases c with
 |true=>exact⟨d,e,g⟩
 |false=>exact k m f l i d Q e g
theorem pt_not(d:PT X a tA):PT X (.UnaryOp .Not a pos) (tNot tA):=by intro e s f H Q I h;exact isTrue_not (d e s f H (fun c b=>Q (!c) b) I h)
def Jl(ta tb:TE):TE:=fun σ H Q=>ta σ H fun x H1=>∃c,x=.bl c/\if c=true then tb σ H1 Q else Q (.bl false) H1
def tOrV(ta tb:TE):TE:=fun σ H Q=>ta σ H fun x H1=>∃c,x=.bl c/\if c=true then Q (.bl true) H1 else tb σ H1 Q
def Jh(ta:TE):TE:=fun σ H Q=>ta σ H fun x H1=>∃c,x=.bl c/\Q (.bl (!c)) H1
theorem Kd{op}{t:TE}(h:PE X a t):PE X (.BoolOp op [a] pos) t:=fun c s d H Q I b=>BoolOp_one (h c s d H Q I b)
theorem Kj(j:PE X a ta)(k:PE X (.BoolOp .And (b::rest) pos) tb):PE X (.BoolOp .And (a::b::rest) pos) (Jl ta tb):=by
 intro g s i H Q I h;refine BoolOp_and (thn (j g s i H _ I h) fun v m ⟨x,e,f,l,d⟩=>?_);obtain⟨c,rfl,d⟩:=d;cases l;refine dg ?_;cases c with
 |true=>exact k g m i e Q f d
 |false=>exact⟨.bl false,e,f,rfl,d⟩
theorem pe_or(j:PE X a ta)(k:PE X (.BoolOp .Or (b::rest) pos) tb):PE X (.BoolOp .Or (a::b::rest) pos) (tOrV ta tb):=by
 intro g s i H Q I h;refine BoolOp_or (thn (j g s i H _ I h) fun v m ⟨x,e,f,l,d⟩=>?_);obtain⟨c,rfl,d⟩:=d;cases l;refine dg ?_;cases c with
 |false=>exact k g m i e Q f d
 |true=>exact⟨.bl true,e,f,rfl,d⟩
theorem pe_not(f:PE X a ta):PE X (.UnaryOp .Not a pos) (Jh ta):=by intro g s j H Q I h;refine UnaryOp_ (thn (f g s j H _ I h) fun v k ⟨x,d,e,i,b⟩=>?_);obtain⟨c,rfl,b⟩:=b;cases i;exact not_of (dg ⟨.bl (!c),d,e,rfl,b⟩)
def tIf(t:TT)(ta tb:TE):TE:=fun σ H Q=>t σ H fun c H1=>if c=true then ta σ H1 Q else tb σ H1 Q
theorem Ke{c:Expr}(n:PT X c tA)(l:PE X a ta)(m:PE X b tb):PE X (.IfExp c a b pos) (tIf tA ta tb):=by
 intro e s f H Q I h;refine wpAny_IfExp (thn (n e s f H _ I h) fun d k ⟨g,i,j⟩=>?_);cases d with
 |true=>exact l e k f g Q i j
 |false=>exact m e k f g Q i j
end
def SqL(K:ah)(H:Hp)(a:Addr)(xs:List V):Prop:=
 Rd H a (.lst xs)\/
  ∃(o:Obj)(its:Array Value)(n:Nat),K.lookup a=some o/\o.cls=.type "list"/\o.dict=none/\o.data=.seq its n/\its.size<=sizeLine/\bM xs its.toList
def SqT(K:ah)(H:Hp)(a:Addr)(xs:List V):Prop:=
 Rd H a (.tup xs)\/
  ∃(o:Obj)(its:Array Value)(n:Nat),K.lookup a=some o/\o.cls=.type "tuple"/\o.data=.seq its n/\its.size<=sizeLine/\bM xs its.toList
noncomputable def absV:Value->Option V
 |.none=>some .non
 |.bool b=>some (.bl b)
 |.int i _=>some (.int i)
 |.str x _=>some (.str x)
 |.bytes b _=>some (.byt b)
 |.float b _=>some (.flt b)
 |.ref a=>some (.ref a)
 |.type n=>some (.ty n)
 |_=>none
theorem RelV.abs{x:V}(r:RelV x u):absV u=some x:=by
 cases x with
 |non=>cases r;rfl
 |bl _=>cases r;rfl
 |int _=>obtain⟨t,rfl⟩:=r;rfl
 |str _=>obtain⟨t,rfl⟩:=r;rfl
 |byt _=>obtain⟨t,rfl⟩:=r;rfl
 |flt _=>obtain⟨t,rfl⟩:=r;rfl
 |ref _=>cases r;rfl
 |ty _=>cases r;rfl
theorem RelV.inj{x y:V}(r:RelV x u)(q:RelV y u):x=y:=bj (r.abs.symm.trans q.abs)
theorem bM.inj{xs ys:List V}(h:bM xs us):bM ys us->xs=ys:=by
 induction h generalizing ys with
 |nil=>intro k;cases k;rfl
 |cons r k ih=>
  intro w;cases w with
  |cons r' w'=>rw[r.inj r',ih w']
section
variable {X:Cx}{pins:List (Addr×Obj)}{σ:St}{H:Hp}{s:Shared}{a:Addr}{xs ys:List V}
theorem SqL.of(h:H a=some (.lst xs)):SqL K H a xs:=.inl (.inl h)
theorem SqT.of(h:H a=some (.tup xs)):SqT K H a xs:=.inl (.inl h)
theorem Inv.list(I:Inv X pins σ H s)(h:SqL X.K H a xs):∃its:List Value,bM xs its/\PlainL s.heap a its.toArray/\xs.length<=sizeLine:=by
 rcases h with h|⟨o,its,n,d,b,c,f,g,r⟩;·obtain⟨z,its,n,r,e⟩:=h.ok I.hok;exact⟨its,r,⟨_,n,e,rfl,rfl,rfl⟩,z⟩
 ·refine⟨its.toList,r,⟨o,n,I.kIn a o d,b,c,by simpa using f⟩,?_⟩;have e:=r.length;simp only[cu]at e;lia
theorem Inv.tuple(I:Inv X pins σ H s)(h:SqT X.K H a xs):∃its:List Value,bM xs its/\IsTup s.heap a its.toArray/\xs.length<=sizeLine:=by
 rcases h with h|⟨o,its,n,c,b,d,f,r⟩;·obtain⟨z,its,r,p⟩:=h.ok I.hok;exact⟨its,r,p,z⟩
 ·refine⟨its.toList,r,⟨o,I.kIn a o c,b,n,by simpa using d⟩,?_⟩;have e:=r.length;simp only[cu]at e;lia
theorem Inv.vZ(I:Inv X pins σ H s)(h:SqL X.K H a xs)(h':SqL X.K H a ys):xs=ys:=by
 obtain⟨f,r,⟨o,n,e,_,_,d⟩,_⟩:=I.list h;obtain⟨g,i,⟨k,j,c,_,_,b⟩,_⟩:=I.list h';rw[e]at c;cases c;rw[d]at b;injection b with d1 _
 have :f=g:=by simpa using congrArg Array.toList d1
 subst this;exact r.inj i
theorem Inv.sy(I:Inv X pins σ H s)(h:SqT X.K H a xs)(h':SqT X.K H a ys):xs=ys:=by
 obtain⟨f,r,⟨o,e,_,n,d⟩,_⟩:=I.tuple h;obtain⟨g,i,⟨k,c,_,j,b⟩,_⟩:=I.tuple h';rw[e]at c;cases c;rw[d]at b;injection b with d1 _
 have :f=g:=by simpa using congrArg Array.toList d1
 subst this;exact r.inj i
end
section
variable {X:Cx}{st:Stmt}{rest:List Stmt}{t u:TS}{e:Expr}{te:TE}{pos:Pos}
def A1:TS:=fun D σ H=>D.nx σ H
def xx(t u:TS):TS:=fun D σ H=>t {D with nx:=u D} σ H
theorem zx:PSs X [] A1:=fun _ _ a H _ I h=>Ez ⟨a,H,I,h⟩
theorem qN(d:PS X st t)(e:PSs X rest u):PSs X (st::rest) (xx t u):=by
 intro a s i H D I h;refine wpAny_execs_cons (thn (d a s i H {D with nx:=u D} I h) fun f g q=>?_);cases f with
 |next =>obtain⟨j,b,c,q⟩:=q;exact e a g j b D c q
 |ret v=>exact q
 |brk=>exact q
 |cont=>exact q
def Jk:TS:=fun D σ H=>D.bk σ H
def tCont:TS:=fun D σ H=>D.ct σ H
theorem ps_pass:PS X (.Pass pos) A1:=fun _ _ a H _ I h=>wpAny_Pass ⟨a,H,I,h⟩
theorem J3:PS X (.Break pos) Jk:=fun _ _ a H _ I h=>wpAny_Break ⟨a,H,I,h⟩
theorem Bg:PS X (.Continue pos) tCont:=fun _ _ a H _ I h=>wpAny_Continue ⟨a,H,I,h⟩
theorem Inv.quiet{a:St}{H:Hp}(I:Inv X pins a H s):interactive X.env=false:=by simp[interactive,I.ok.kind]
def Ji(te:TE):TS:=fun D σ H=>te σ H fun _ H1=>D.nx σ H1
theorem ps_expr(d:PE X e te)(f:qz e none pos.line X.env=pure false:=by rfl):PS X (.Expr e pos) (Ji te):=by intro g s a H D I h;exact wpAny_Expr_any (thn (d g s a H _ I h) fun v k ⟨x,b,c,j,i⟩=>⟨a,b,c,i⟩) I.quiet f
def tRet(te:TE):TS:=fun D σ H=>te σ H D.rt
theorem ps_ret(d:PE X e te):PS X (.Return (some e) pos) (tRet te):=by intro f s a H D I h;exact wpAny_Return_some (thn (d f s a H _ I h) fun v j ⟨x,b,c,i,g⟩=>⟨x,a,b,c,i,g⟩)
def Jf:TS:=fun D _ H=>D.rt .non H
theorem ps_retN:PS X (.Return none pos) Jf:=fun _ _ a H _ I h=>wpAny_Return_none ⟨.non,a,H,I,rfl,h⟩
def tIfS(c:TT)(t u:TS):TS:=fun D σ H=>c σ H fun b H1=>if b=true then t D σ H1 else u D σ H1
theorem ps_if{c:Expr}{a b:List Stmt}{l:TT}(o:PT X c l)(m:PSs X a t)(n:PSs X b u):PS X (.If c a b pos) (tIfS l t u):=by
 intro e s f H D I h;refine wpAny_If (thn (o e s f H _ I h) fun d k ⟨g,i,j⟩=>?_);cases d with
 |true=>exact m e k f g D i j
 |false=>exact n e k f g D i j
end
noncomputable abbrev TG:=V->St->Hp->(St->Hp->Prop)->Prop
noncomputable abbrev TGs:=List V->St->Hp->(St->Hp->Prop)->Prop
def PG(X:Cx)(b:Expr)(t:TG):Prop:=
 ∀(pins:List (Addr×Obj))(s:Shared)(σ:St)(H:Hp)(v:V)(u:Value)(Q:St->Hp->Prop),Inv X pins σ H s->RelV v u->t v σ H Q->
  wpAny (model X.prog X.w) X.A (assign b X.env u) (fun _ s'=>∃a H',Inv X pins a H' s'/\Q a H') X.xe s
def PGs(X:Cx)(ts:List Expr)(t:TGs):Prop:=
 ∀(pins:List (Addr×Obj))(s:Shared)(σ:St)(H:Hp)(vs:List V)(us:List Value)(Q:St->Hp->Prop),Inv X pins σ H s->bM vs us->t vs σ H Q->
  wpAny (model X.prog X.w) X.A (assignInOrder ((iM ts X.env).map (·.2)) us) (fun _ s'=>∃a H',Inv X pins a H' s'/\Q a H') X.xe s
section
variable {X:Cx}{pos:Pos}
def nH(i:Nat):TG:=fun v σ H Q=>Q (σ.set i (some v)) H
theorem zz(b:X.N.Nodup)(hi:X.N[i]? =some x)(c:Loc X.env.scope x)(hf:X.fn x=true\/X.env.scope.names.lookup x=some .local:=by first |exact .inl rfl|exact .inr rfl|assumption):PG X (.Name x pos) (nH i):=by intro d s f H v u Q I r h;exact wpAny_assign_Name (vj I b hi c r (fun e a=>⟨_,H,a,h⟩) hf)
def gNil:TGs:=fun vs σ H Q=>vs=[]/\Q σ H
def Li(t:TG)(u:TGs):TGs:=fun vs σ H Q=>∃v r,vs=v::r/\t v σ H fun a H'=>u r a H' Q
theorem pgs_nil:PGs X [] gNil:=by intro b s a H d c Q I r h;obtain⟨e,h⟩:=h;subst e;cases r;exact assignInOrder_nil ⟨a,H,I,h⟩
theorem J7{a:List Expr}{t:TG}{u:TGs}(g:PG X e t)(i:PGs X a u)
  (j:(iM (e::a) X.env).map (·.2)=assign e X.env::(iM a X.env).map (·.2):=by rfl):PGs X (e::a) (Li t u):=by
 intro b s m H q o Q I r h;obtain⟨v,p,f,h⟩:=h;subst f;cases r with
 |cons r rr=>rw[j];refine assignInOrder_cons (thn (g b s m H _ _ _ I r h) fun _ l ⟨n,c,d,k⟩=>?_);exact i b l n c _ _ Q d rr k
def gTup(K:ah)(n:Nat)(t:TGs):TG:=fun v σ H Q=>∃a xs,v=.ref a/\SqT K H a xs/\xs.length=n/\t xs σ H Q
theorem pg_tup{c:List Expr}{t:TGs}(p:X.calm=true)(h:PGs X c t)
  (w:(iM c X.env).length=n:=by rfl) (x:(iM c X.env).findIdx? (·.1)=none:=by rfl):PG X (.Tuple c k pos) (gTup X.K n t):=by
 intro f s i H v u Q I r d;obtain⟨a,A,l,hq,q,d⟩:=d;subst l;cases r;obtain⟨C,g,y,B⟩:=I.tuple hq;refine assign_Tuple_tuple (I.ok.hd p) y (by simp[w,<-q,g.length]) x fun m z=>?_;have j:Inv X f i H {s with heap:=m}:=I.kept (t':=s.toks) fun b o e=>z b o (aK (aw e)) e;exact h f _ i H A _ Q j (by simpa using g) d
def yZ(te:TE)(g:TG):TS:=fun D σ H=>te σ H fun x H1=>g x σ H1 D.nx
theorem DB{b:TE}{g:TG}(j:PE X e b)(k:PG X tg g)(l:L6 [tg] e pos.line X.env=pure false:=by rfl) (m:swappedStores [tg] e X.env=pure none:=by rfl)
  (i:(iM [tg] X.env).map (·.2)=[assign tg X.env]:=by rfl):PS X (.Assign [tg] e pos) (yZ b g):=by
 intro a s c H D I h;refine wpAny_Assign_stores (thn (j a s c H _ I h) fun v p ⟨x,d,f,o,n⟩=>?_) l m;rw[i];exact thn (k a p c d x v _ f o n) fun _ r q=>q
theorem ps_set{a:TE}(f:X.N.Nodup)(hi:X.N[i]? =some x)(k:Loc X.env.scope x)(g:PE X e a)(j:qz e (some (.Name x pos')) pos.line X.env=pure false:=by rfl) (hf:X.fn x=true\/X.env.scope.names.lookup x=some .local:=by first |exact .inl rfl|exact .inr rfl|assumption):
  PS X (.Assign [.Name x pos'] e pos) (yZ a (nH i)):=by
 intro l s o H D I h;refine wpAny_Assign_Name (thn (g l s o H _ I h) fun v p ⟨y,b,c,n,m⟩=>?_) j;exact vj c f hi k n (fun q d=>⟨_,b,d,m⟩) hf
end
section
variable {X:Cx}{pos:Pos}
def Je(c:TT)(tb:TS):TS:=fun D σ H=>∃W:Nat->St->Hp->Prop,(∃m,W m σ H)/\∀m σ H,W m σ H->
 c σ H fun b H1=>if b=true then ∃N:St->Hp->Prop,(∀d H',N d H'->∃a,a<m/\W a d H')/\tb {D with nx:=N,ct:=N,bk:=D.nx} σ H1 else D.nx σ H1
theorem J2{c:Expr}{w:List Stmt}{y:TT}{tb:TS}(hp:PassesOwn (model X.prog X.w) X.A X.env X.xe)(C:PT X c y)(B:PSs X w tb):PS X (.While c w [] pos) (Je y tb):=by
 intro o s M H D I h;obtain⟨W,⟨E,K⟩,turn⟩:=h;refine wpAny_While (codeAny_whileLoop (fun n F=>∃z q,Inv X o z q F/\W n z q) ?_ E ⟨M,H,I,K⟩);rintro n G ⟨i,r,A,L⟩;refine gQ hp (thn (C o G i r _ A (turn n i r L)) fun b J ⟨t,u,e⟩=>?_);cases b with
 |true=>
  obtain⟨N,x,e⟩:=e;rw[if_pos rfl];refine gQ hp (thn (B o J i t _ u e) fun f O g=>?_);cases f with
  |next =>obtain⟨d,a,j,m⟩:=g;obtain⟨l,k,p⟩:=x d a m;exact⟨l,k,d,a,j,p⟩
  |cont=>obtain⟨d,a,j,m⟩:=g;obtain⟨l,k,p⟩:=x d a m;exact⟨l,k,d,a,j,p⟩
  |brk=>exact g
  |ret v=>exact g
 |false=>rw[if_neg ao];exact Ez ⟨i,t,u,e⟩
end
structure It where
 go:Nat->Hp->Prop
 yld:Nat->Hp->V->Hp->Prop
 stop:Nat->Hp->Prop
def r6(X:Cx)(pins:List (Addr×Obj))(H:Hp)(b:Addr):Prop:=
 H b=none/\b≠X.env.locals/\b∉X.fs/\(b∈X.ex\/X.s₀.heap.objs.size<=b)/\(∀x c,X.env.cells.lookup x=some c->c≠b)/\∀p∈X.pn++pins,p.1≠b
theorem Inv.z7{X:Cx}{f:St}{H H':Hp}(I:Inv X pins f H s)(a:s.heap.objs.size<=b)(d:H' b=none):r6 X pins H' b:=by
 refine⟨d,eP (aT I.lt a),I.nofs a,.inr (aP I.sz a),fun x c e z=>?_,fun p hp z=>?_⟩;·obtain⟨v,q⟩:=I.cell x c e;exact absurd (aT q.lt (by rw[z];exact a)) (dJ _)
 ·exact absurd (aT (aw (I.pin p hp).1) (by rw[z];exact a)) (dJ _)
structure Turn(P:Program)(w:World)(K:ah)(tg:Expr)(J:It)(fp:List Addr)(it:Addr)(tn:Nat->Heap->Prop):Prop where
 mem:it∈fp
 obj:∀i h,tn i h->∀b∈fp,∃o,h.get? b=some o/\∀v,o.data≠.cell v
 keep:∀i h h',tn i h->(∀b∈fp,∀o,h.get? b=some o->h'.get? b=some o)->tn i h'
 item:∀(X:Cx),X.prog=P->X.w=w->X.K=K->X.calm=true->∀(i:Nat)(pins:List (Addr×Obj))(s:Shared)(σ:St)(H:Hp)(E:Value->Shared->Prop),Inv X pins σ H s->(∀b∈fp,r6 X pins H b)->tn i s.heap->J.go i H->
  wpAny (model P w) X.A (pyNext (.ref it)) (fun r s1=>∃u,r=some u/\
   wpAny (model P w) X.A (si tg (.ref it) u) (fun _ s2=>∃x H',Inv X pins σ H' s2/\RelV x u/\J.yld i H x H'/\tn (i+1) s2.heap/\∀b∈fp,H' b=none) E s1) E s
 done:∀(X:Cx),X.prog=P->X.w=w->X.K=K->X.calm=true->∀(i:Nat)(pins:List (Addr×Obj))(s:Shared)(σ:St)(H:Hp)(E:Value->Shared->Prop),Inv X pins σ H s->(∀b∈fp,r6 X pins H b)->tn i s.heap->J.stop i H->
  wpAny (model P w) X.A (pyNext (.ref it)) (fun r s1=>r=none/\Inv X pins σ H s1) E s
 self:∀(A:Around)(i:Nat)(s:Shared)(Q:Value->Shared->Prop)(E:Value->Shared->Prop),tn i s.heap->Q (.ref it) s->wpAny (model P w) A (pyIter (.ref it)) Q E s
noncomputable abbrev TI:=St->Hp->(It->Hp->Prop)->Prop
def PIE(X:Cx)(pins:List (Addr×Obj))(σ:St)(tg:Expr)(R:It->Hp->Prop)(a:Value)(s2:Shared):Prop:=
 ∃(it:Addr)(fp:List Addr)(tn:Nat->Heap->Prop)(J:It)(H':Hp),a=.ref it/\Inv X pins σ H' s2/\Turn X.prog X.w X.K tg J fp it tn/\tn 0 s2.heap/\(∀b∈fp,r6 X pins H' b)/\R J H'
def PI(X:Cx)(tg iter:Expr)(wi:TI):Prop:=
 ∀(pins:List (Addr×Obj))(s:Shared)(σ:St)(H:Hp)(R:It->Hp->Prop),Inv X pins σ H s->wi σ H R->
  wpAny (model X.prog X.w) X.A (eval iter X.env) (fun v a=>wpAny (model X.prog X.w) X.A (pyIter v) (PIE X pins σ tg R) X.xe a) X.xe s
theorem FI{M:Model}{o:Obj}{n:String}{vs:Array Value}{Q:Unit->Shared->Prop}(e:s.heap.get? it=some o)(b:o.cls=.type n)(c:o.data=.fields vs)
  (d:["enumerate","zip","dict_itemiterator","dict_reverseitemiterator","odict_iterator","itertools.zip_longest","itertools.pairwise"].contains n=false)(a:Q () s):wpAny M A (si tg (.ref it) u) Q E s:=by
 unfold si;cases tg<;>first
  |exact aj a
  | (cases u<;>first
    |exact aj a
    | (refine af (wpAny_load e ?_)
       rw[b,c];show wpAny M A (if(["enumerate","zip","dict_itemiterator","dict_reverseitemiterator","odict_iterator","itertools.zip_longest","itertools.pairwise"].contains n&&vs[0]? ==some (rawInt _))=true then _ else _) Q E s;rw[if_neg (by intro h;rw[d,de]at h;cases h)];exact aj a))
noncomputable def Itl(K:ah)(a:Addr):It:=
 ⟨fun i H=>∃xs x,SqL K H a xs/\xs[i]? =some x,fun i H x H'=>H'=H/\∀xs,SqL K H a xs->xs[i]? =some x,fun i H=>∃xs,SqL K H a xs/\xs.length<=i⟩
noncomputable def Itt(K:ah)(a:Addr):It:=
 ⟨fun i H=>∃xs x,SqT K H a xs/\xs[i]? =some x,fun i H x H'=>H'=H/\∀xs,SqT K H a xs->xs[i]? =some x,fun i H=>∃xs,SqT K H a xs/\xs.length<=i⟩
noncomputable def Itr(lo:Int)(n:Nat):It:=⟨fun i _=>i<n,fun i H x H'=>H'=H/\x=.int (lo+i),fun i _=>n<=i⟩
theorem xU(a j:Addr):Turn P w K tg (Itl K a) [j] j (fun i h=>h.IsListIter j a i) where
 mem:=by simp
 obj:=fun i h f b g=>by
  have e:b=j:=by simpa using g
  subst e;obtain⟨o,e,c,d⟩:=f;exact⟨o,e,fun v z=>by rw[d]at z;cases z⟩
 keep:=fun i h l f k=>f.at fun o e=>k j (by simp) o e
 item:=by intro X A C y G i J s M H E I hf f B;subst A C y;obtain⟨Y,x,hq,D⟩:=B;obtain⟨U,F,p,T⟩:=I.list hq;obtain⟨u,R,V⟩:=F.get D;obtain⟨m,n,Q,q,r,t⟩:=hf j (by simp);refine wpAny_pyNext_list_item f p.isList (x:=u) (by simpa using R) fun l L W=>?_;have N:Inv X J M H {s with heap:=l}:=I.turned (t':=s.toks) (fun b o g e=>(W.2 b g).trans e) m n q r t;obtain⟨o,e,c,d⟩:=id L;exact⟨u,rfl,FI (s:={s with heap:=l}) e c d (by decide) ⟨x,H,N,V,⟨rfl,fun ys S=>by rw[I.vZ S hq];exact D⟩,L,fun b g=>(hf b g).1⟩⟩
 done:=by intro X A C y G i J s M H E I hf f B;subst A C y;obtain⟨Y,hq,D⟩:=B;obtain⟨U,F,p,T⟩:=I.list hq;obtain⟨m,n,Q,q,r,t⟩:=hf j (by simp);have Z:=F.length;exact wpAny_pyNext_list_end (I.ok.hd G) f p.isList (by simp;lia) fun l O=>⟨rfl,I.turned (t':=s.toks) (fun b o g e=>O b o g e) m n q r t⟩
 self:=fun _ _ _ _ _ f h=>wpAny_pyIter_listiter f h
theorem Df(a j:Addr):Turn P w K tg (Itt K a) [j] j (fun i h=>h.IsTupleIter j a i) where
 mem:=by simp
 obj:=fun i h f b g=>by
  have e:b=j:=by simpa using g
  subst e;obtain⟨o,e,c,d⟩:=f;exact⟨o,e,fun v z=>by rw[d]at z;cases z⟩
 keep:=fun i h l f k=>f.at fun o e=>k j (by simp) o e
 item:=by intro X A C y J i L s N H E I hf f B;subst A C y;obtain⟨Y,x,hq,D⟩:=B;obtain⟨F,G,p,U⟩:=I.tuple hq;obtain⟨u,S,V⟩:=G.get D;obtain⟨m,n,R,q,r,t⟩:=hf j (by simp);refine wpAny_pyNext_tuple_item f (show s.heap.IsTuple a F.toArray from p) (x:=u) (by simpa using S) fun l M W=>?_;have O:Inv X L N H {s with heap:=l}:=I.turned (t':=s.toks) (fun b o g e=>(W.2 b g).trans e) m n q r t;obtain⟨o,e,c,d⟩:=id M;exact⟨u,rfl,FI (s:={s with heap:=l}) e c d (by decide) ⟨x,H,O,V,⟨rfl,fun ys T=>by rw[I.sy T hq];exact D⟩,M,fun b g=>(hf b g).1⟩⟩
 done:=by intro X A C y J i L s N H E I hf f B;subst A C y;obtain⟨Y,hq,D⟩:=B;obtain⟨F,G,p,U⟩:=I.tuple hq;obtain⟨m,n,R,q,r,t⟩:=hf j (by simp);have Z:=G.length;exact wpAny_pyNext_tuple_end (I.ok.hd J) f (show s.heap.IsTuple a F.toArray from p) (by simp;lia) fun l Q=>⟨rfl,I.turned (t':=s.toks) (fun b o g e=>Q b o g e) m n q r t⟩
 self:=fun _ _ _ _ _ f h=>wpAny_pyIter_tupleiter f h
theorem Dg(c:Addr)(lo:Int)(n:Nat):Turn P w K tg (Itr lo n) [c] c (fun i h=>IsRangeIter h c (lo+(i:Nat)*1) ((n:Int)-(i:Nat)) 1) where
 mem:=by simp
 obj:=fun i h a b d=>by
  have e:b=c:=by simpa using d
  subst e;exact⟨_,a,fun v z=>by have M:Data.fields _=Data.cell v:=z;cases M⟩
 keep:=fun i h f a k=>k c (by simp) _ a
 item:=by intro X r y q u i A s C H E I hf a x;subst r y q;obtain⟨g,j,G,l,m,p⟩:=hf c (by simp);have W:=Walks.range (prog:=X.prog) (w:=X.w) (I.ok.hd u) c lo 1 n;refine W.item i s _ _ x a fun v f tk J B L=>?_;obtain⟨t,rfl⟩:=J;have D:Inv X A C H {s with heap:=f,toks:=tk}:=I.turned (fun b o d e=>L b o (by simpa using d) e) g j l m p;refine⟨_,rfl,FI (s:={s with heap:=f,toks:=tk}) (n:="range_iterator") B rfl rfl (by decide) ⟨.int (lo+i),H,D,⟨t,?_⟩,⟨rfl,rfl⟩,B,fun b d=>(hf b d).1⟩⟩;rw[Int.mul_one]
 done:=by intro X r y q u i A s C H E I hf a x;subst r y q;obtain⟨g,j,G,l,m,p⟩:=hf c (by simp);exact wpAny_pyNext_range_end (I.ok.hd u) a (by have :n<=i:=x;lia) fun f F=>⟨rfl,I.turned (t':=s.toks) (fun b o d e=>F b o d e) g j l m p⟩
 self:=fun _ _ _ _ _ a h=>wpAny_pyIter_rangeiter a h
section
variable {X:Cx}{tg:Expr}
def La(K:ah)(tl:TE):TI:=fun σ H R=>tl σ H fun x H1=>∃a,x=.ref a/\(∃xs,SqL K H1 a xs)/\R (Itl K a) H1
theorem pi_list{l:Expr}{f:TE}(j:PE X l f):PI X tg l (La X.K f):=by
 intro k s r H R I h;refine thn (j k s r H _ I h) fun v d ⟨x,g,c,n,m⟩=>?_;obtain⟨a,e,⟨y,hq⟩,q⟩:=m;subst e;cases n;obtain⟨u,w,p,t⟩:=c.list hq;refine oV p.isList ?_;refine⟨d.heap.objs.size,[d.heap.objs.size],_,_,g,rfl,c.kept (t':=d.toks) fun b o e=>ag _ e,xU a _,⟨_,ay _ rfl,rfl,rfl⟩,fun b i=>?_,q⟩;have e:b=d.heap.objs.size:=by simpa using i
 subst e;exact c.z7 (az _) (c.hok.fresh (az _))
theorem Bd{c:St}{H:Hp}{R:It->Hp->Prop}{lo hi:Int}{t u v:Tok}{tk:Nat}(I:Inv X pins c H s)(g: -(2^62)<=lo)(h:lo<2^62)(i: -(2^62)<=hi)(j:hi<2^62)
  (q:R (Itr lo (hi-lo).toNat) H):wpAny (model X.prog X.w) X.A (pyIter (.ref s.heap.objs.size)) (PIE X pins c tg R) E {s with heap:=s.heap.push {cls:=.type "range",data:=.fields #[.int lo t,.int hi u,.int 1 v]},toks:=tk}:=by
 refine wpAny_pyIter_range (IsRange.new ..) (small_one g h i j) ?_;have a:Inv X pins c H {s with heap:=s.heap.push {cls:=.type "range",data:=.fields #[.int lo t,.int hi u,.int 1 v]},toks:=tk}:=I.kept fun b o e=>ag _ e;refine⟨(s.heap.push {cls:=.type "range",data:=.fields #[.int lo t,.int hi u,.int 1 v]}).objs.size,[(s.heap.push {cls:=.type "range",data:=.fields #[.int lo t,.int hi u,.int 1 v]}).objs.size],_,_,H,rfl,
  a.kept (t':=tk) fun b o e=>ag _ e,Dg _ lo (hi-lo).toNat,?_,fun b k=>?_,q⟩
 ·have d:lo+((0:Nat):Int)*1=lo:=by simp
  have f:(((hi-lo).toNat:Nat):Int)-((0:Nat):Int)=Builtin.Range.rangeSize lo hi 1:=by rw[rangeSize_one];split <;>lia
  show IsRangeIter _ _ (lo+((0:Nat):Int)*1) ((((hi-lo).toNat:Nat):Int)-((0:Nat):Int)) 1;rw[d,f];exact ay _ rfl
 ·have e:b=(s.heap.push {cls:=.type "range",data:=.fields #[.int lo t,.int hi u,.int 1 v]}).objs.size:=by simpa using k
  subst e;exact a.z7 (az _) (a.hok.fresh (az _))
def K9(ta:TA):TI:=fun σ H R=>ta σ H fun vs H1=>∃j:Int,vs=[.int j]∧-(2^62)<=j/\j<2^62/\R (Itr 0 j.toNat) H1
def K8(ta:TA):TI:=fun σ H R=>ta σ H fun vs H1=>∃i j:Int,vs=[.int i,.int j]/\(-(2^62)<=i/\i<2^62∧-(2^62)<=j/\j<2^62)/\R (Itr i (j-i).toNat) H1
theorem Hb{a:Expr}{c:TA}{p:Pos}(g:Gl X "range")(i:X.mg "range"=none)(f:PA X [a] c)(k:bz [a] X.env=[(false,eval a X.env)]:=by rfl):PI X tg (.Call (.Name "range" p) [a] [] pos) (K9 c):=by
 intro l s o H R I h;refine Call_ (k9 I g i boot_range (dc (thn (f pos l s o H _ I h) fun w v ⟨x,u,d,n,b⟩=>?_) k rfl));obtain⟨j,e,b,m,q⟩:=b;subst e;cases n with
 |cons r rr=>cases rr;obtain⟨t,rfl⟩:=r;exact call_range_1 (Bd d (by lia) (by lia) b m (by simpa using q))
theorem Ha{a b:Expr}{f:TA}{p:Pos}(l:Gl X "range")(m:X.mg "range"=none)(k:PA X [a,b] f)(n:bz [a,b] X.env=[(false,eval a X.env),(false,eval b X.env)]:=by rfl) (d:bz [b] X.env=[(false,eval b X.env)]:=by rfl):
  PI X tg (.Call (.Name "range" p) [a,b] [] pos) (K8 f):=by
 intro o s y H R I h;refine Call_ (k9 I l m boot_range (dc (thn (k pos o s y H _ I h) fun C A ⟨D,z,g,x,c⟩=>?_) (by rw[n,d]) (by rw[d];rfl)));obtain⟨i,j,e,⟨c,u,v,w⟩,q⟩:=c;subst e;cases x with
 |cons r rr=>
  cases rr with
  |cons r' rr=>cases rr;obtain⟨t,rfl⟩:=r;obtain⟨B,rfl⟩:=r';exact call_range_2 (Bd g c u v w q)
def tFor(wi:TI)(g:TG)(tb:TS):TS:=fun D σ H=>wi σ H fun J H1=>∃W:Nat->Nat->St->Hp->Prop,(∃m,W 0 m σ H1)/\∀i m σ H,W i m σ H->
 (J.stop i H/\D.nx σ H)\/(J.go i H/\∃N:St->Hp->Prop,(∀b H',N b H'->∃a,a<m/\W (i+1) a b H')/\∀x H',J.yld i H x H'->g x σ H' fun c H2=>tb {D with nx:=N,ct:=N,bk:=D.nx} c H2)
noncomputable def jA(fp:List Addr)(h:Heap):List (Addr×Obj):=fp.filterMap fun b=>(h.get? b).map fun o=>(b,o)
theorem ja{o:Obj}(a:b∈fp)(e:h.get? b=some o):(b,o)∈jA fp h:=List.mem_filterMap.mpr ⟨b,a,by rw[e];rfl⟩
theorem sJ{p:Addr×Obj}(hp:p∈jA fp h):p.1∈fp/\h.get? p.1=some p.2:=by
 obtain⟨b,c,e⟩:=List.mem_filterMap.mp hp;cases q:h.get? b with
 |none=>rw[q]at e;cases e
 |some o=>rw[q]at e;have a:(b,o)=p:=bj e;subst a;exact⟨c,q⟩
theorem Inv.pinned{f:St}{H:Hp}(I:Inv X pins f H s)(hf:∀b∈fp,r6 X pins H b)(j:∀b∈fp,∃o,s.heap.get? b=some o/\∀v,o.data≠.cell v):Inv X (pins++jA fp s.heap) f H s:=
 I.zy fun p hp=>(dh.mp hp).elim (fun z=>I.pin p (a7 _ z)) fun z=>by obtain⟨c,e⟩:=sJ z;obtain⟨g,h,i,_⟩:=hf p.1 c;obtain⟨o,a,d⟩:=j p.1 c;rw[e]at a;cases a;exact⟨e,g,h,i,d⟩
theorem Inv.iP{b:List (Addr×Obj)}{a:St}{H:Hp}(I:Inv X (pins++b) a H s):Inv X pins a H s:=I.zy fun p hp=>I.pin p (a7 _ (cJ _ hp))
theorem ps_for{C:List Stmt}{O:TI}{g:TG}{tb:TS}(hp:PassesOwn (model X.prog X.w) X.A X.env X.xe)(G:X.calm=true)(hi:PI X tg iter O)(hg:PG X tg g)(d:PSs X C tb)
  (hs:∀x,jS iter X.env x=pure x:=by intro _;rfl):PS X (.For tg iter C [] pos) (tFor O g tb):=by
 intro l a3 P H D I a1;refine wpAny_For (thn (hi l a3 P H _ I a1) fun a8 s1 h1=>thn h1 fun b2 s2 h2=>?_) hs;obtain⟨it,p,tn,b0,Q,e,S,T,a4,E,W,⟨m0,w0⟩,turn⟩:=h2;subst e
 --what stays true of the iterator's objects through the loop
 have y:∀{j:Hp},(∀b∈p,j b=none)->∀b∈p,r6 X l j b:=fun hn b d=>⟨hn b d,(E b d).2⟩;refine codeAny_forLoop_any (fun n J=>∃i r j,Inv X l r j J/\tn i J.heap/\(∀b∈p,j b=none)/\W i n r j) ?_ m0 ⟨0,P,Q,S,a4,fun b d=>(E b d).1,w0⟩;rintro n K ⟨i,s,t,A,M,F,w3⟩;rcases turn i n s t w3 with⟨a5,qn⟩ |⟨go,N,hN,step⟩;·refine gQ hp (thn (T.done X rfl rfl rfl G i l K s t X.xe A (y F) M a5) fun a2 s4 ⟨u,U⟩=>?_);subst u;exact Ez ⟨s,t,U,qn⟩
 ·refine gQ hp (thn (T.item X rfl rfl rfl G i l K s t X.xe A (y F) M go) fun a2 s4 ⟨a6,u,h4⟩=>?_);subst u;refine gQ hp (thn h4 fun _ L ⟨x,z,V,r5,y5,w,a0⟩=>?_);have Y:=V.pinned (y a0) (T.obj _ _ w);refine gQ hp (thn (hg _ L s z x a6 _ Y r5 (step x z y5)) fun _ s6 ⟨a9,R,Z,q6⟩=>?_);refine gQ hp (thn (d _ s6 a9 R _ Z q6) fun f v k=>?_);have B:∀{h:St}{a:Hp},Inv X (l++jA p L.heap) h a v->N h a->∃m,m<n/\∃i r j,Inv X l r j v/\tn i v.heap/\(∀b∈p,j b=none)/\W i m r j:=fun{h a} c q=>by obtain⟨m',hm,w7⟩:=hN h a q;refine⟨m',hm,i+1,h,a,c.iP,T.keep _ _ _ w fun b d o e=>(c.pin (b,o) (a7 _ (a7 _ (ja d e)))).1,fun b d=>?_,w7⟩;obtain⟨o,e,b1⟩:=T.obj _ _ w b d;exact(c.pin (b,o) (a7 _ (a7 _ (ja d e)))).2.1
  cases f with
  |next =>obtain⟨h,a,c,q⟩:=k;exact B c q
  |cont=>obtain⟨h,a,c,q⟩:=k;exact B c q
  |brk=>obtain⟨h,a,c,k⟩:=k;exact⟨h,a,c.iP,k⟩
  |ret a8=>obtain⟨x7,h,a,c,r7,k⟩:=k;exact⟨x7,h,a,c.iP,r7,k⟩
end
noncomputable abbrev R2:=V->V->Hp->VK->Prop
def OpR(X:Cx)(f:Value->Value->Sem Value)(r:R2):Prop:=
 ∀(pins:List (Addr×Obj))(s:Shared)(σ:St)(H:Hp)(x y:V)(v u:Value)(Q:VK),Inv X pins σ H s->RelV x v->RelV y u->r x y H Q->
  wpAny (model X.prog X.w) X.A (f v u) (EP X pins σ Q) X.xe s
def fF(X:Cx)(f:Value)(r:List V->Hp->VK->Prop):Prop:=
 ∀(pins:List (Addr×Obj))(s:Shared)(σ:St)(H:Hp)(xs:List V)(us:List Value)(Q:VK),Inv X pins σ H s->bM xs us->r xs H Q->
  wpAny (model X.prog X.w) X.A (call f us) (EP X pins σ Q) X.xe s
def TruR(X:Cx)(r:V->Hp->(Bool->Hp->Prop)->Prop):Prop:=
 ∀(pins:List (Addr×Obj))(s:Shared)(σ:St)(H:Hp)(x:V)(v:Value)(Q:Bool->Hp->Prop),Inv X pins σ H s->RelV x v->r x H Q->
  wpAny (model X.prog X.w) X.A (truthy v) (TP X pins σ Q) X.xe s
def tOp(r:R2)(ta tb:TE):TE:=fun σ H Q=>ta σ H fun x H1=>tb σ H1 fun y H2=>r x y H2 Q
def rI(C:Int->Int->Prop)(g:Int->Int->V):R2:=fun x y H Q=>∃i j,x=.int i/\y=.int j/\C i j/\Q (g i j) H
def rI0(g:Int->Int->V):R2:=fun x y H Q=>∃i j,x=.int i/\y=.int j/\Q (g i j) H
section
variable {X:Cx}{a b c:Expr}{ta tb tc:TE}{pos:Pos}
theorem binT(g:PE X a ta)(i:PE X b tb){c:St}{H:Hp}{R:V->V->Hp->Prop}(I:Inv X pins c H s)
  (h:ta c H fun x H1=>tb c H1 fun y H2=>R x y H2){Q:Value->Shared->Prop}{f:Value->Value->Sem Value}
  (hf:∀v u s2 x y H2,Inv X pins c H2 s2->RelV x v->RelV y u->R x y H2->wpAny (model X.prog X.w) X.A (f v u) Q X.xe s2):
  wpAny (model X.prog X.w) X.A (eval a X.env) (fun v o=>wpAny (model X.prog X.w) X.A (eval b X.env) (fun u p=>wpAny (model X.prog X.w) X.A (f v u) Q X.xe p) X.xe o) X.xe s:=by
 refine thn (g pins s c H _ I h) fun v n ⟨x,H1,d,l,j⟩=>?_;refine thn (i pins n c H1 _ d j) fun u s2 ⟨y,H2,e,m,k⟩=>?_;exact hf v u s2 x y H2 e l m k
theorem pe_op{op:Operator}{r:R2}(g:OpR X (fN op) r)(e:PE X a ta)(f:PE X b tb):PE X (.BinOp a op b pos) (tOp r ta tb):=by intro i s m H Q I h;exact wpAny_BinOp (binT e f I h fun v u l x y c d j k q=>g i l m c x y v u Q d j k q)
theorem opI{f:Value->Value->Sem Value}{C:Int->Int->Prop}{g:Int->Int->Int}
  (b:∀(i j:Int)(t u:Tok)(s:Shared)(Q:Value->Shared->Prop)(E:Value->Shared->Prop),C i j->Q (.int (g i j) s.toks) {s with toks:=s.toks+1}->wpAny (model X.prog X.w) X.A (f (.int i t) (.int j u)) Q E s):
  OpR X f (rI C fun i j=>.int (g i j)):=by
 intro k s l H x y v u Q I c d h;obtain⟨i,j,rfl,rfl,a,q⟩:=h;obtain⟨t,rfl⟩:=c;obtain⟨e,rfl⟩:=d;exact b i j t e s _ _ a ⟨.int (g i j),H,I.tok _,⟨_,rfl⟩,q⟩
theorem opI0{f:Value->Value->Sem Value}{g:Int->Int->Int}
  (a:∀(i j:Int)(t u:Tok)(s:Shared)(Q:Value->Shared->Prop)(E:Value->Shared->Prop),Q (.int (g i j) s.toks) {s with toks:=s.toks+1}->wpAny (model X.prog X.w) X.A (f (.int i t) (.int j u)) Q E s):
  OpR X f (rI0 fun i j=>.int (g i j)):=by
 intro e s k H x y v u Q I b c h;obtain⟨i,j,rfl,rfl,q⟩:=h;obtain⟨t,rfl⟩:=b;obtain⟨d,rfl⟩:=c;exact a i j t d s _ _ ⟨.int (g i j),H,I.tok _,⟨_,rfl⟩,q⟩
theorem opB0{f:Value->Value->Sem Value}{g:Int->Int->Bool}
  (a:∀(i j:Int)(t u:Tok)(s:Shared)(Q:Value->Shared->Prop)(E:Value->Shared->Prop),Q (.bool (g i j)) s->wpAny (model X.prog X.w) X.A (f (.int i t) (.int j u)) Q E s):
  OpR X f (rI0 fun i j=>.bl (g i j)):=by
 intro e s k H x y v u Q I b c h;obtain⟨i,j,rfl,rfl,q⟩:=h;obtain⟨t,rfl⟩:=b;obtain⟨d,rfl⟩:=c;exact a i j t d s _ _ ⟨.bl (g i j),H,I,rfl,q⟩
def CDiv(i j:Int):Prop:=0<j/\j<1073741824
def L5(i j:Int):Prop:=0<=j/\j<=1000000/\i.natAbs<2^64
def Ex(i j:Int):Prop:=(-(2^64)<i/\i<2^64)\/(-(2^64)<j/\j<2^64)
theorem Ex.ok{i j:Int}(h:Ex i j):IntMulOk i j:=by
 rcases h with⟨a,b⟩ |⟨a,b⟩;·exact .of_left (intBits_le_64 a b)
 ·exact .of_right (intBits_le_64 a b)
theorem De(k:Nat):(0:Int)<=2^k:=by rw[two_pow_cast];exact Int.natCast_nonneg _
theorem op_add:OpR X (fN .Add) (rI0 fun i j=>.int (i+j)):=opI0 fun _ _ _ _ _ _ _ q=>add_int q
theorem op_sub:OpR X (fN .Sub) (rI0 fun i j=>.int (i-j)):=opI0 fun _ _ _ _ _ _ _ q=>sub_int q
theorem op_mul:OpR X (fN .Mult) (rI Ex fun i j=>.int (i*j)):=opI fun _ _ _ _ _ _ _ a q=>mul_int q a.ok
theorem op_fdiv:OpR X (fN .FloorDiv) (rI CDiv fun i j=>.int (i/j)):=opI fun i j _ _ _ _ _ a q=>by have b:(0:Int)<j:=a.1;have c:j<1073741824:=a.2;exact floordiv_int (by lia) (by rw[CQ i (by lia)];exact q) (.inl (PyProof.noPylong_small (by lia)))
theorem op_mod:OpR X (fN .Mod) (rI (fun _ j=>0<j) fun i j=>.int (i%j)):=opI fun i j _ _ _ _ _ a q=>by have b:(0:Int)<j:=a;exact mod_int' (by lia) (by rw[Int.fmod_eq_emod_of_nonneg i (by lia)];exact q)
theorem op_pow:OpR X (fN .Pow) (rI L5 fun i j=>.int (i^j.toNat)):=opI fun _ _ _ _ _ _ _ a q=>pow_int_small a.1 a.2.1 a.2.2 q
theorem op_shl:OpR X (fN .LShift) (rI L5 fun i j=>.int (i*2^j.toNat)):=opI fun _ _ _ _ _ _ _ a q=>lshift_int_small a.1 a.2.1 a.2.2 q
theorem op_shr:OpR X (fN .RShift) (rI (fun _ j=>0<=j) fun i j=>.int (i/2^j.toNat)):=opI fun i j _ _ _ _ _ a q=>
 rshift_int a (by rw[CQ i (De _)];exact q)
theorem op_and:OpR X (fN .BitAnd) (rI0 fun i j=>.int (i6 i j)):=opI0 fun _ _ _ _ _ _ _ q=>and_int q
theorem op_xor:OpR X (fN .BitXor) (rI0 fun i j=>.int (kM i j)):=opI0 fun _ _ _ _ _ _ _ q=>xor_int q
end
section
variable {X:Cx}{a b c:Expr}{ta tb tc:TE}{pos:Pos}
theorem wt{b:St}{H:Hp}{Q:VK}{k a:Bool}(I:Inv X pins b H s)(q:Q (.bl k) H)(e:k=a):EP X pins b Q (.bool a) s:=by subst e;exact⟨.bl k,H,I,rfl,q⟩
theorem op_lt:OpR X (dq .Lt) (rI0 fun i j=>.bl (decide (i<j))):=opB0 fun _ _ _ _ _ _ _ q=>lt_int q
theorem op_le:OpR X (dq .LtE) (rI0 fun i j=>.bl (decide (i<=j))):=opB0 fun _ _ _ _ _ _ _ q=>le_int q
theorem op_gt:OpR X (dq .Gt) (rI0 fun i j=>.bl (decide (j<i))):=opB0 fun _ _ _ _ _ _ _ q=>gt_int q
theorem op_ge:OpR X (dq .GtE) (rI0 fun i j=>.bl (decide (j<=i))):=opB0 fun _ _ _ _ _ _ _ q=>ge_int q
theorem Hh:OpR X (dq .In) (fun x y H Q=>∃i j,x=.str i/\y=.str j/\Q (.bl (!(iq j i 0 j.length 1).isEmpty)) H):=by intro c s e H x y v u Q I a b h;obtain⟨i,j,rfl,rfl,q⟩:=h;obtain⟨t,rfl⟩:=a;obtain⟨d,rfl⟩:=b;exact in_str (wt I q rfl)
theorem op_isN:OpR X (dq .Is) (fun x y H Q=>y=.non/\Q (.bl (decide (x=.non))) H):=by
 intro c s d H x y v u Q I a b h;obtain⟨rfl,q⟩:=h;cases b;refine is_none_gen (wt I q ?_);cases x<;>first
  | (cases a;rfl)
  | (obtain⟨t,rfl⟩:=a;rfl)
theorem op_notN:OpR X (dq .IsNot) (fun x y H Q=>y=.non/\Q (.bl (!decide (x=.non))) H):=by
 intro c s d H x y v u Q I a b h;obtain⟨rfl,q⟩:=h;cases b;refine isnot_none_gen (wt I q ?_);cases x<;>first
  | (cases a;rfl)
  | (obtain⟨t,rfl⟩:=a;rfl)
theorem OpR.or{f:Value->Value->Sem Value}{r r':R2}(h:OpR X f r)(h':OpR X f r'):OpR X f (fun x y H Q=>r x y H Q\/r' x y H Q):=by
 intro a s d H x y v u Q I b c q;rcases q with q|q;·exact h a s d H x y v u Q I b c q
 ·exact h' a s d H x y v u Q I b c q
theorem pe_cmpR{op:CmpOp}{r:R2}(i:OpR X (dq op) r)(e:PE X a ta)(f:PE X b tb)(g:L8 op b=false):PE X (.Compare a [op] [b] pos) (tOp r ta tb):=by intro j s n H Q I h;exact wpAny_Compare1 (binT e f I h fun v u m x y c d k l q=>i j m n c x y v u Q d k l q) g
def AZ(t:TE):TT:=fun σ H Q=>t σ H fun x H'=>∃k,x=.bl k/\Q k H'
theorem pt_cmpR{op:CmpOp}{r:R2}(t:OpR X (dq op) r)(o:PE X a ta)(p:PE X b tb)(q:L8 op b=false):PT X (.Compare a [op] [b] pos) (AZ (tOp r ta tb)):=by
 intro d s f H Q I h;refine wpAny_isTrue_Compare1 (thn (o d s f H _ I h) fun v F ⟨x,g,l,C,w⟩=>thn (p d F f g _ l w) fun u G ⟨y,i,m,D,A⟩=>
  thn (t d G f i x y v u _ m C D A) fun c J ⟨z,j,n,E,k,e,B⟩=>?_) q
 subst e;cases E;exact dg ⟨j,n,B⟩
def vh(r r':R2)(ta tb tc:TE):TE:=fun σ H Q=>ta σ H fun x H1=>tb σ H1 fun y H2=>r x y H2 fun z a=>∃k,z=.bl k/\
 (if k=true then tc σ a fun c b=>r' y c b Q else Q (.bl false) a)
theorem Kg{op i:CmpOp}{r r':R2}(F:OpR X (dq op) r)(G:OpR X (dq i) r')(B:PE X a ta)(C:PE X b tb)(D:PE X c tc)
  (E:lastMarks [op,i] [b,c]=false:=by with_unfolding_all rfl):PE X (.Compare a [op,i] [b,c] pos) (vh r r' ta tb tc):=by
 intro f s g H Q I h;refine Compare_chain (thn (B f s g H _ I h) fun v P ⟨x,o,t,M,J⟩=>chain_link (thn (C f P g o _ t J) fun u R ⟨y,p,w,n,K⟩=>
  thn (F f R g p x y v u _ w M n K) fun d S ⟨z,j,l,N,k,e,m⟩=>?_)) E
 subst e;cases N;refine dg ?_;cases k with
 |false=>exact ite_ff ⟨.bl false,j,l,rfl,m⟩
 |true=>exact ite_tt (chain_last (thn (D f S g j _ l m) fun U T ⟨V,q,A,O,L⟩=>G f T g q y V u U Q A n O L))
theorem J1{op g:CmpOp}{r r':R2}(J:OpR X (dq op) r)(K:OpR X (dq g) r')(D:PE X a ta)(E:PE X b tb)(F:PE X c tc)
  (G:lastMarks [op,g] [b,c]=false:=by with_unfolding_all rfl):PT X (.Compare a [op,g] [b,c] pos) (AZ (vh r r' ta tb tc)):=by
 intro d s f H a0 I h;refine isTrue_chain (thn (D d s f H _ I h) fun v U ⟨x,n,t,Q,M⟩=>test_link (thn (E d U f n _ t M) fun u V ⟨y,o,w,m,N⟩=>
  thn (J d V f o x y v u _ w Q m N) fun a1 W ⟨a2,i,j,R,k,e,l⟩=>?_)) G
 subst e;cases R;refine dg ?_;cases k with
 |false=>obtain⟨k',B,L⟩:=l;cases B;exact ite_ff ⟨i,j,L⟩
 |true=>refine ite_tt (test_last (thn (F d W f i _ j l) fun Z Y ⟨z',p,z,S,O⟩=>thn (K d Y f p y z' u Z _ z m S O) fun d' s5 ⟨z2,q,A,T,k2,C,P⟩=>?_));subst C;cases T;exact dg ⟨q,A,P⟩
def TruV(K:ah)(x:V)(H:Hp)(k:Bool):Prop:=
 match x with
 |.non=>k=false
 |.bl b=>k=b
 |.int i=>k=(i != 0)
 |.str y=>y.length<=sizeLine/\k=((y.length:Int) != 0)
 |.byt y=>y.size<=sizeLine/\k=((y.size:Int) != 0)
 |.ref p=>(∃xs,SqL K H p xs/\k= !xs.isEmpty)\/(∃xs,SqT K H p xs/\k= !xs.isEmpty)\/∃kvs,H p=some (.dK kvs)/\k= !kvs.isEmpty
 |_=>False
theorem D4{κ:Type}{a:List (κ×V)}{vs:List (κ×Value)}(r:KV a vs):(!vs.isEmpty)= !a.isEmpty:=by cases r<;>rfl
theorem wa{xs:List V}(r:bM xs its):(!its.toArray.isEmpty)= !xs.isEmpty:=by cases r<;>simp
theorem sM:(sizeLine:Nat)<2^63:=by rw[uD];decide
theorem tru_ok:TruR X (fun x H Q=>∃k,TruV X.K x H k/\Q k H):=by
 intro C s D H x v Q I f h;obtain⟨k,e,q⟩:=h;have A:=sM;have B:sizeLine=16777216:=uD;cases x with
 |non=>cases f;have a:k=false:=e;subst a;exact truthy_none ⟨H,I,q⟩
 |bl b=>cases f;have a:k=b:=e;subst a;exact dg ⟨H,I,q⟩
 |int i=>obtain⟨t,rfl⟩:=f;have a:k=(i != 0):=e;subst a;exact PySem.P.truthy_int ⟨H,I,q⟩
 |str y=>obtain⟨t,rfl⟩:=f;obtain⟨w,a⟩:y.length<=sizeLine/\k=((y.length:Int) != 0):=e;subst a;exact PySem.P.truthy_str (by lia) ⟨H,I.tok _,q⟩
 |byt y=>obtain⟨t,rfl⟩:=f;obtain⟨w,a⟩:y.size<=sizeLine/\k=((y.size:Int) != 0):=e;subst a;exact PySem.W.truthy_bytes (by lia) ⟨H,I.tok _,q⟩
 |ref p=>
  cases f;have a:(∃c,SqL X.K H p c/\k= !c.isEmpty)\/(∃c,SqT X.K H p c/\k= !c.isEmpty)\/∃d,H p=some (.dK d)/\k= !d.isEmpty:=e;rcases a with⟨c,g,a⟩ |⟨c,g,a⟩ |⟨d,g,a⟩;·subst a;obtain⟨z,r,l,o⟩:=I.list g;have n:=r.length;exact wpAny_truthy_list l.isList (by simp only[aB];lia) ⟨H,I.tok _,by rw[wa r];exact q⟩
  ·subst a;obtain⟨z,r,l,o⟩:=I.tuple g;have n:=r.length;exact truthy_tuple l (by simp only[aB];lia) ⟨H,I.tok _,by rw[wa r];exact q⟩
  ·subst a;obtain⟨o,u,j,r,m⟩:d.length<=sizeLine/\(p==gG)=false/\∃j,KV d j/\s.heap.DictOf (cw X.prog X.w) p j:=I.hok p _ g;have n:d.length=j.length:=mr r;exact wpAny_truthy_dict u m (by lia) ⟨H,I.tok _,by rw[D4 r];exact q⟩
 |_=>exact(show False from e).elim
theorem kb(f:PE X a ta)(g:∀c,isTrue a X.env c=(do let v<-c;standAt a.pos;holding [v] (truthy v))):
  PT X a (fun σ H Q=>ta σ H fun x H'=>∃k,TruV X.K x H' k/\Q k H'):=by
 intro b s σ H Q I h;exact isTrue_plain (thn (f b s σ H _ I h) fun v l ⟨x,d,e,j,i⟩=>tru_ok b l σ d x v Q e j i) (g _)
theorem DK:OpR X (fN .Add) (fun x y H Q=>∃i j,x=.str i/\y=.str j/\i.length+j.length<=sizeLine/\Q (.str (i++j)) H):=by intro e s f H x y v u Q I b c h;obtain⟨i,j,rfl,rfl,a,q⟩:=h;obtain⟨t,rfl⟩:=b;obtain⟨d,rfl⟩:=c;exact add_str (fun d tk=>⟨.str (i++j),H,I.tok _,⟨_,rfl⟩,q⟩) a
theorem vals1{x:V}(r:bM [x] us):∃u,us=[u]/\RelV x u:=by
 cases r with
 |cons r1 r2=>cases r2;exact⟨_,rfl,r1⟩
theorem vals2{x y:V}(r:bM [x,y] us):∃u a,us=[u,a]/\RelV x u/\RelV y a:=by
 cases r with
 |cons r1 r2=>
  cases r2 with
  |cons r3 r4=>cases r4;exact⟨_,_,rfl,r1,r3⟩
theorem sX(a:X.calm=true):fF X (.builtin "min") (fun xs H Q=>∃i j,xs=[.int i,.int j]/\Q (.int (if j<i then j else i)) H):=by
 intro c s g H xs e Q I r h;obtain⟨i,j,rfl,q⟩:=h;obtain⟨u,f,rfl,⟨t,rfl⟩,⟨d,rfl⟩⟩:=vals2 r;refine min_two_ints (I.ok.hd a) fun b tk k=>⟨_,H,I.kept k,?_,q⟩;by_cases hj:j<i;·rw[if_pos hj,if_pos hj];exact⟨_,rfl⟩
 ·rw[if_neg hj,if_neg hj];exact⟨_,rfl⟩
theorem HV:fF X (.type "int") (fun xs H Q=>(∃i,xs=[.int i]/\Q (.int i) H)\/∃k,xs=[.bl k]/\Q (.int (if k then 1 else 0)) H):=by
 intro b s d H xs c Q I r h;rcases h with⟨i,rfl,q⟩ |⟨k,rfl,q⟩;·obtain⟨u,rfl,t,rfl⟩:=vals1 r;exact call_int_int ⟨.int i,H,I,⟨_,rfl⟩,q⟩
 ·obtain⟨u,rfl,a⟩:=vals1 r;cases a;exact call_int_bool ⟨.int (if k then 1 else 0),H,I.tok _,⟨_,rfl⟩,q⟩
end
structure ObjM(h:Heap)(x dx C:Addr)(mA:Str->Option Value):Prop where
 obj:h.get? x=some (wX C dx)
 ns:h.Ns1 dx mA
 ne:dx≠x
theorem Hu(n:h.Ns1 dx mA):∃od,h.get? dx=some od/\∀name,xO name od=some (mA name):=by
 obtain⟨o,b,l,j,d,f,_,i⟩:=n;refine⟨o,j,fun name=>?_⟩;have e:=i name;unfold nsFind findBy at e;rw[<-tF]at e;unfold xO;rw[d];dsimp only;split;·rename_i y q;rw[q]at e;exact congrArg some e
 ·rename_i q;rw[q]at e;have a:b.toList.any (·.refKey)=false:=by rw[List.any_eq_false];intro y k;obtain⟨z,t,g⟩:=f y (jV.mp k);simp[DictEntry.refKey,g]
  have c:¬b.toList.any (·.refKey)=true:=by rw[a];exact ao
  rw[if_neg c];exact congrArg some e
theorem ObjM.look{x:Addr}(I:ObjM h x dx C mA):∃od,PySem.W.InstAt h x (wX C dx) C (some od)/\∀name,xO name od=some (mA name):=
 let⟨od,ho,hl⟩:=Hu I.ns
 ⟨od,⟨I.obj,rfl,rfl,ho⟩,hl⟩
noncomputable def pk(f:Str)(v:V):List (Str×V)->List (Str×V)
 | []=>[(f,v)]
 | (g,x)::r=>if g=f then(g,v)::r else(g,x)::pk f v r
theorem tQ(f g:Str)(v:V):∀fs:List (Str×V),(pk f v fs).lookup g=if g=f then some v else fs.lookup g
 | []=>by
  show cU g [(f,v)]=_;by_cases h:g=f;·have a:(g==f)=true:=beq_iff_eq.mpr h;simp only[cU,a,if_pos h]
  ·have a:(g==f)=false:=beq_eq_false_iff_ne.mpr h;simp only[cU,a,if_neg h]
 | (k,x)::r=>by
  have b:=tQ f g v r;rw[show pk f v ((k,x)::r)=(if k=f then(k,v)::r else(k,x)::pk f v r)from rfl];by_cases hk:k=f
  ·rw[if_pos hk];by_cases h:g=k;·have a:(g==k)=true:=beq_iff_eq.mpr h;simp only[cU,a,if_pos (h.trans hk)]
   ·have a:(g==k)=false:=beq_eq_false_iff_ne.mpr h;simp only[cU,a,if_neg (fun e:g=f=>h (e.trans hk.symm))]
  ·rw[if_neg hk];by_cases h:g=k;·have a:(g==k)=true:=beq_iff_eq.mpr h;simp only[cU,a,if_neg (fun e:g=f=>hk (h.symm.trans e))]
   ·have a:(g==k)=false:=beq_eq_false_iff_ne.mpr h;simp only[cU,a];exact b
theorem sN(f:Str)(v:V):∀fs:List (Str×V),f∈(pk f v fs).map (·.1)/\∀g,g∈fs.map (·.1)->g∈(pk f v fs).map (·.1)
 | []=>⟨by simp[pk],fun g h=>by simp at h⟩
 | (k,x)::r=>by
  obtain⟨a,b⟩:=sN f v r;rw[show pk f v ((k,x)::r)=(if k=f then(k,v)::r else(k,x)::pk f v r)from rfl];by_cases hk:k=f;·rw[if_pos hk];subst hk;exact⟨by simp,fun g h=>by simpa using h⟩
  ·rw[if_neg hk];refine⟨?_,fun g h=>?_⟩;·rw[bR];exact aJ _ a
   ·rw[bR]at h⊢;rcases aH.mp h with e|e;·exact aH.mpr (.inl e)
    ·exact aJ _ (b g e)
theorem tf.some_of{v:V}{o:Option Value}(r:tf (some v) o):∃u,o=some u/\RelV v u:=by
 cases o with
 |none=>exact(show False from r).elim
 |some u=>exact⟨u,rfl,r⟩
section
variable {P:Program}{w:World}{H H':Hp}{h h':Heap}{a C dx:Addr}{fs fs':List (Str×V)}
theorem ins_get(b:HOk P w H h)(e:H a=some (.ins C dx fs)):∃mA,ObjM h a dx C mA/\(∀f,tf (fs.lookup f) (mA f))/\kH mA (fs.map (·.1))/\fs.length<=1000/\H dx=some (.own a):=by obtain⟨d,z,ne,c,mA,n,r,q⟩:=(show dU P w H h a (.ins C dx fs)from b a _ e);exact⟨mA,⟨c,n,ne⟩,r,q,z,d⟩
end
structure Cls(K:ah)(C:Addr):Prop where
 pg:Ma K C Str.empty=true
 hd:PySem.W.hasDictIn K C=true
 po:PySem.W.plainOver K C=true
 sa:eN K (.ref C) "__setattr__"=some (some (.builtin "object.__setattr__"))
theorem Cls.get(c:Cls K C)(f:Str):Ma K C f=true:=c.pg
def LX(K:ah)(C:Addr)(f:Str):Prop:=eN K (.ref C) f=some none
structure Meth(K:ah)(C:Addr)(m:Str)(f:Addr):Prop where
 at_:eN K (.ref C) m=some (some (.ref f))
 fn:PySem.W.isFn K (.ref f)=true
 kp:cL K (.ref f)=true
def tFld(K:ah)(ta:TE)(f:Str):TE:=fun σ H Q=>ta σ H fun x H1=>∃a C dx fs v,x=.ref a/\H1 a=some (.ins C dx fs)/\Cls K C/\LX K C f/\fs.lookup f=some v/\Q v H1
def sFld(K:ah)(ta tv:TE)(f:Str):TS:=fun D σ H=>tv σ H fun y H1=>ta σ H1 fun x H2=>∃a C dx fs,x=.ref a/\H2 a=some (.ins C dx fs)/\Cls K C/\LX K C f/\fs.length<1000/\
 D.nx σ (upd H2 a (.ins C dx (pk f y fs)))
section
variable {X:Cx}{pins:List (Addr×Obj)}{σ:St}{H:Hp}{s:Shared}{A:Around}{E:Value->Shared->Prop}{Q:Value->Shared->Prop}{c:Value}{b:Bool}
inductive mZ (K:ah) (H:Hp):V->Value->Prop where
 |non:mZ K H .non (.type "NoneType")
 |bl (x:Bool):mZ K H (.bl x) (.type "bool")
 |int (i:Int):mZ K H (.int i) (.type "int")
 |str (x:Str):mZ K H (.str x) (.type "str")
 |flt (x:UInt64):mZ K H (.flt x) (.type "float")
 |lst {a:Addr} {xs:List V} (e:H a=some (.lst xs)):mZ K H (.ref a) (.type "list")
 |frz {a:Addr} {o:Obj} {xs:List V} (e:H a=some (.frz o (.lst xs))):mZ K H (.ref a) (.type "list")
 |tup {a:Addr} {xs:List V} (e:H a=some (.tup xs)):mZ K H (.ref a) (.type "tuple")
 |dK {a:Addr} {kvs:List (Key×V)} (e:H a=some (.dK kvs)):mZ K H (.ref a) (.type "dict")
 |dT {a:Addr} {kvs:List (List Key×V)} (e:H a=some (.dT kvs)):mZ K H (.ref a) (.type "dict")
 |ins {a C dx:Addr} {fs:List (Str×V)} (e:H a=some (.ins C dx fs)) (cl:Cls K C) (ha:eN K (.ref C) "__class__"=some (some (.builtin "object.__class__")))
   (hn:tm K (.builtin "object.__class__") "__get__"=some (some (.builtin "getset_descriptor.__get__"))) (htk:PySem.W.takesIn K (.builtin "object.__class__")=some true)
   (hm:AF K C (.type "object")=some true):mZ K H (.ref a) (.ref C)
theorem yp{x:V}{t:Value}(I:Inv X pins σ H s)(d:RelV x u)(ty:mZ X.K H x t)(e:cP X.K t c=some b)(h:∀tk,Q (.bool b) {s with toks:=tk}):
  wpAny (model X.prog X.w) A (call (.builtin "isinstance") [u,c]) Q E s:=by
 cases ty with
 |non=>cases(show u=bK from d);exact da PySem.W.kitx_none I.kIn True.intro e (fun z=>nomatch z) h
 |bl y=>cases(show u=AB y from d);exact da PySem.W.kitx_bool I.kIn True.intro e (fun z=>nomatch z) h
 |int i=>obtain⟨t,q⟩:=(show ∃t,u=wW i t from d);cases q;exact da PySem.W.kitx_int I.kIn True.intro e (fun z=>nomatch z) h
 |str y=>obtain⟨t,q⟩:=(show ∃t,u=iZ y t from d);cases q;exact da PySem.W.kitx_str I.kIn True.intro e (fun z=>nomatch z) h
 |flt y=>obtain⟨t,q⟩:=(show ∃t,u=Value.float y t from d);cases q;exact da PySem.W.kitx_float I.kIn True.intro e (fun z=>nomatch z) h
 | @lst a g ea=>cases(show u=bB a from d);obtain⟨_,_,n,_,f⟩:=(show dU X.prog X.w H s.heap a (.lst g)from I.hok a _ ea);exact da IF I.kIn ⟨_,f,rfl⟩ e (fun z=>nomatch z) h
 | @frz a ob g ea=>cases(show u=bB a from d);obtain⟨_,_,_,n,_,f⟩:=(show dU X.prog X.w H s.heap a (.frz ob (.lst g))from I.hok a _ ea);exact da IF I.kIn ⟨_,f,rfl⟩ e (fun z=>nomatch z) h
 | @tup a g ea=>cases(show u=bB a from d);obtain⟨_,_,_,p⟩:=(show dU X.prog X.w H s.heap a (.tup g)from I.hok a _ ea);obtain⟨o,f,j,_⟩:=p;exact da PySem.W.kitx_tuple I.kIn ⟨o,f,j⟩ e (fun z=>nomatch z) h
 | @dK a kvs ea=>cases(show u=bB a from d);obtain⟨_,_,v,_,p⟩:=(show dU X.prog X.w H s.heap a (.dK kvs)from I.hok a _ ea);obtain⟨o,l,k,f,j,_⟩:=p;exact da IG I.kIn ⟨o,f,j.1⟩ e (fun z=>nomatch z) h
 | @dT a kvs ea=>cases(show u=bB a from d);obtain⟨_,_,g,_,o,l,k,f,j,_⟩:=(show dU X.prog X.w H s.heap a (.dT kvs)from I.hok a _ ea);exact da IG I.kIn ⟨o,f,j.1⟩ e (fun z=>nomatch z) h
 | @ins a C dx fs ea cl ha hn htk hm=>cases(show u=bB a from d);obtain⟨m,O,_⟩:=ins_get I.hok ea;obtain⟨r,J,_⟩:=O.look;exact da (PySem.W.kitx_own (cl.get _) cl.hd ha hn htk hm) I.kIn J e (fun z=>nomatch z) h
end
structure jf(k:Nat)(A:Around):Prop where
 hd:A.handled=none
 dp:A.depth+3*k+5<jQ
 un:A.units+16*k+200<cLine
theorem jf.mono(r:jf k A)(h:j<=k):jf j A:=⟨r.hd,by have :=r.dp;lia,by have :=r.un;lia⟩
theorem jf.deeper(r:jf (k+1) A)(env:Env):jf k (A.deeper env):=
 ⟨r.hd,by have :=r.dp;show A.depth+1+3*k+5<_;lia,by have :=r.un;show A.units+3+16*k+200<_;lia⟩
theorem DR{a:List (Str×Value)}:(A.under (.builtin "type.__call__" ⟨.ref C::us,a⟩)).depth=A.depth+1:=by first |rfl|simp[C9,Code.weight,Code.isCreation,Code.isGuard,Code.isCaller,Code.frames,Gu,guardIds]
theorem DQ{a:List (Str×Value)}:(A.under (.builtin "type.__call__" ⟨.ref C::us,a⟩)).units=A.units+1:=by first |rfl|simp[C9,Code.cUnits,Code.frames,Gu]
theorem jf.make(r:jf (k+1) A)(C:Addr)(us:List Value)(a:List (Str×Value)):jf k (A.under (.builtin "type.__call__" ⟨.ref C::us,a⟩)):=
 ⟨r.hd,by have :=r.dp;rw[DR];lia,by have :=r.un;rw[DQ];lia⟩
theorem jf.depth(r:jf k A):A.depth<jQ:=by have :=r.dp;lia
theorem jf.units(r:jf k A):A.units+64<cLine:=by have :=r.un;lia
def uu:TA:=fun _ H Q=>Q [] H
def lD(ta:TE)(tr:TA):TA:=fun σ H Q=>ta σ H fun x H1=>tr σ H1 fun xs H2=>Q (x::xs) H2
section
variable {X:Cx}{e:Expr}{es:List Expr}{te:TE}{t:TA}{pos:Pos}
theorem k7:PA X [] uu:=fun _ _ _ _ H Q I h=>Calls.spliced_nil ⟨[],H,I,.nil,h⟩
theorem gZ(j:PE X e te)(k:PA X es t)(l:bz (e::es) X.env=(false,eval e X.env)::bz es X.env:=by rfl):PA X (e::es) (lD te t):=by intro b a s c H Q I h;rw[l];show wpAny _ _ (spliced ((false,eval e X.env)::backTo b (bz es X.env))) _ _ s;refine Mi (thn (j a s c H _ I h) fun u q ⟨x,d,g,o,m⟩=>?_);exact thn (k b a q c d _ g m) fun w v ⟨r,f,i,p,n⟩=>⟨x::r,f,i,.cons o p,n⟩
def tTup(t:TA):TE:=fun σ H Q=>t σ H fun xs H1=>xs.length<=sizeLine/\∀p,H1 p=none->Q (.ref p) (upd H1 p (.tup xs))
def tLst(t:TA):TE:=fun σ H Q=>t σ H fun xs H1=>xs.length<=sizeLine/\∀p,H1 p=none->Q (.ref p) (upd H1 p (.lst xs))
theorem J9{x1}(h:PA X es t):PE X (.Tuple es x1 pos) (tTup t):=by intro f s j H Q I hq;refine wpAny_Tuple_spliced (thn (h pos f s j H _ I hq) fun g a ⟨i,c,d,r,z,q⟩=>⟨by rw[<-r.length];exact z,?_⟩);have hf:c a.heap.objs.size=none:=d.hok.fresh (az _);refine⟨.ref a.heap.objs.size,upd c a.heap.objs.size (.tup i),d.laid (t':=a.toks) (fun b u e=>ag _ e) (az _) ?_,rfl,q _ hf⟩;exact⟨z,g,r,⟨_,ay _ rfl,rfl,_,rfl⟩⟩
theorem pe_lst(h:PA X es t):PE X (.List es pos) (tLst t):=by intro f s j H Q I hq;refine wpAny_List_spliced (thn (h pos f s j H _ I hq) fun g a ⟨i,c,d,r,z,q⟩=>⟨by rw[<-r.length];exact z,?_⟩);have hf:c a.heap.objs.size=none:=d.hok.fresh (az _);refine⟨.ref a.heap.objs.size,upd c a.heap.objs.size (.lst i),d.laid (t':=a.toks) (fun b u e=>ag _ e) (az _) ?_,rfl,q _ hf⟩;exact⟨z,g,0,r,ay _ rfl⟩
end
noncomputable abbrev Sp:=List V->Hp->VK->XK->Prop
noncomputable abbrev CXT:=List Env->Hp->Shared->XK->Value->Shared->Prop
structure Ew(P:Program)(w:World)(K:ah)(mg:Str->Option Value)(base:Heap)(A:Around)(outer:List Env)(s:Shared)(H:Hp):Prop where
 frames:A.frames=some outer
 mod:Mod K mg base
 bs:∀b o,base.get? b=some o->s.heap.get? b=some o/\H b=none
 bsz:base.objs.size<=s.heap.objs.size
 wk:s.heap.FunFrames base outer
 frf:∀b∈frs outer,H b=none
 hok:HOk P w H s.heap
 bare:ph s.gens
def CE(outer:List Env)(P:Program)(w:World)(H:Hp)(s:Shared)(Q:VK)(u:Value)(s':Shared):Prop:=
 ∃v H',s'.os=s.os/\ph s'.gens/\Un (frs outer) [] H H' s.heap s'.heap/\HOk P w H' s'.heap/\RelV v u/\Q v H'
def CR(CX:CXT)(outer:List Env)(P:Program)(w:World)(H:Hp)(s:Shared)(Q:VK)(E:XK)(r:Result)(s':Shared):Prop:=
 match r with
 |.ok (.ret u)=>CE outer P w H s Q u s'
 |.ok _=>False
 |.error e=>CX outer H s E e s'
structure ju(P:Program)(w:World)(K:ah)(mg:Str->Option Value)(base:Heap)(CX:CXT)(k:Nat)(f:Addr)(fd:fh)(ps:List Str)(sp:Sp):Prop where
 len:∀vs H Q E,sp vs H Q E->vs.length=ps.length
 run:∀(A:Around)(outer:List Env)(s:Shared)(H:Hp)(args:Args)(us:List Value)(vs:List V)(Q:VK)(E:XK),jf k A->Ew P w K mg base A outer s H->BindsTo s fd args (ps.zip us)->bM vs us->sp vs H Q E->
  gH (model P w) A (.call (.ref f) args) (CR CX outer P w H s Q E) s
theorem Ew.make{outer:List Env}{H:Hp}(e:Ew P w K mg base A outer s H)(C:Addr)(us:List Value)(a:List (Str×Value)):
  Ew P w K mg base (A.under (.builtin "type.__call__" ⟨.ref C::us,a⟩)) outer s H:=⟨by first |exact e.frames| (simpa[C9,Code.envs,Gu,pushEnvs]using e.frames),e.mod,e.bs,e.bsz,e.wk,e.frf,e.hok,e.bare⟩
section
variable {X:Cx}{pins:List (Addr×Obj)}{σ:St}{H:Hp}{s s':Shared}
theorem Inv.env0(I:Inv X pins σ H s):Ew X.prog X.w X.K X.mg X.base X.A X.stack s H:=
 ⟨I.ok.frames,I.ok.mod,I.bs,aP I.ok.bsz I.sz,I.stack,I.y6,I.hok,I.bare⟩
theorem Inv.after{Q:VK}(I:Inv X pins σ H s)(h:CE X.stack X.prog X.w H s Q u s'):EP X pins σ Q u s':=by obtain⟨v,a,i,c,un,f,r,q⟩:=h;obtain⟨e,g,d,t,j⟩:=s';obtain rfl:j=s.os:=i;exact⟨v,a,I.call (h':=e) (g':=g) (d':=d) (t':=t) (ch:=[]) un f c (fun b z=>absurd z (by simp)),r,q⟩
end
def A2(sp:Sp)(dvs:List V)(E:XK)(t:TA):TE:=fun σ H Q=>t σ H fun vs H1=>sp (vs++dvs) H1 Q E
def tMeth(C:Addr)(m:Str)(sp:Sp)(dvs:List V)(E:XK)(ta:TE)(t:TA):TE:=fun σ H Q=>ta σ H fun x H1=>∃a dx fs,x=.ref a/\H1 a=some (.ins C dx fs)/\fs.lookup m=none/\
 t σ H1 fun vs H2=>sp (x::(vs++dvs)) H2 Q E
def tMake(C:Addr)(sp:Sp)(dvs:List V)(E:XK)(t:TA):TE:=fun σ H Q=>t σ H fun vs H1=>∀x dx,H1 x=none->H1 dx=none->dx≠x->
 sp (.ref x::(vs++dvs)) (upd (upd H1 dx (.own x)) x (.ins C dx [])) (fun v H2=>v=.non/\Q (.ref x) H2) E
def Binds(K:ah)(fd:fh)(ps:List Str)(ds:List Value):Prop:=
 ∀(s:Shared)(us:List Value),K.In s.heap->(us++ds).length=ps.length->BindsTo s fd ⟨us,[]⟩ (ps.zip (us++ds))
theorem Binds.all{a:fh}(h:∀us:List Value,us.length=ps.length->qB a ⟨us,[]⟩=pure (ps.zip us)):Binds K a ps []:=fun s us _ b=>by rw[kB]at b⊢;exact .of_eq (h us b)
section
variable {X:Cx}{CX:CXT}{k:Nat}{f C:Addr}{fd:fh}{ps:List Str}{sp:Sp}{dvs:List V}{ds:List Value}{E:XK}{x m:Str}{p pos apos:Pos}{e o:Expr}{es:List Expr}{ta:TE}{t:TA}
structure Mk(K:ah)(C f:Addr):Prop where
 makes:PySem.W.makesIn K C=true
 init:eN K (.ref C) "__init__"=some (some (.ref f))
 fn:PySem.W.isFn K (.ref f)=true
 kp:cL K (.ref C)=true
end
structure uW(N P:List Str)(sc:Scope):Prop where
 kind:sc.kind=.function
 co:sc.isCoroutine=false
 gen:sc.isGenerator=false
 nd:N.Nodup
 pre:N.take P.length=P
 par:∀x∈P,sc.names.lookup x=some .local\/sc.names.lookup x=some .cell
 nofree:∀y∈sc.names,y.2≠.free
theorem yM{b:Str->Option eD}:∀{binds:List (Str×Value)}{m:Str->Option Value},(∀v,(x,v)∉binds)->bindL b binds m x=m x
 | [],_,_=>rfl
 | (n,v)::r,m,h=>by
  unfold bindL;rw[yM fun w a=>h w (aJ _ a)];split
  ·have :x≠n:=by rintro rfl;exact h v aL
   simp[this]
  ·rfl
theorem yO{b:Str->Option eD}:∀{binds:List (Str×Value)}{m:Str->Option Value},(∀v,(x,v)∉binds)->bindC b binds m x=m x
 | [],_,_=>rfl
 | (n,v)::r,m,h=>by
  unfold bindC;rw[yO fun w a=>h w (aJ _ a)];split;·rfl
  ·have :x≠n:=by rintro rfl;exact h v aL
   simp[this]
theorem yN{a:Str->Option eD}{v:Value}:∀{P:List Str}{vs:List Value}{i:Nat}{m:Str->Option Value},P.Nodup->P[i]? =some x->vs[i]? =some v->a x=some .local->
  bindL a (P.zip vs) m x=some v
 | [],_,_,_,_,h,_,_=>by simp at h
 |_::_,[],_,_,_,_,h,_=>by simp at h
 |p::P,w::vs,0,m,nd,h1,h2,hk=>by simp at h1 h2;subst h1;subst h2;show bindL a ((p,w)::P.zip vs) m p=_;unfold bindL;rw[yM fun v b=>(bP.mp nd).1 (yT b).1,if_pos hk];simp
 |p::P,w::vs,i+1,m,nd,h1,h2,hk=>by show bindL a ((p,w)::P.zip vs) m x=_;unfold bindL;exact yN (i:=i) (bP.mp nd).2 (by simpa using h1) (by simpa using h2) hk
theorem yP{a:Str->Option eD}{v:Value}:∀{P:List Str}{vs:List Value}{i:Nat}{m:Str->Option Value},P.Nodup->P[i]? =some x->vs[i]? =some v->a x≠some .local->
  bindC a (P.zip vs) m x=some v
 | [],_,_,_,_,h,_,_=>by simp at h
 |_::_,[],_,_,_,_,h,_=>by simp at h
 |p::P,w::vs,0,m,nd,h1,h2,hk=>by simp at h1 h2;subst h1;subst h2;show bindC a ((p,w)::P.zip vs) m p=_;unfold bindC;rw[yO fun v b=>(bP.mp nd).1 (yT b).1,if_neg hk];simp
 |p::P,w::vs,i+1,m,nd,h1,h2,hk=>by show bindC a ((p,w)::P.zip vs) m x=_;unfold bindC;exact yP (i:=i) (bP.mp nd).2 (by simpa using h1) (by simpa using h2) hk
noncomputable def start(N:List Str)(vs:List V):St:=vs.map some++bp (N.length-vs.length) none
noncomputable def Ai(CX:CXT)(P:Program)(w:World)(K:ah)(mg:Str->Option Value)(base:Heap)(N:List Str)(qual:Str)(scope:Scope)(f:Addr)(cd:Value)(A:Around)(outer:List Env)(s:Shared)(H:Hp)(E:XK):Cx where
 prog:=P
 w:=w
 K:=K
 mg:=mg
 base:=base
 A:=A.deeper (envOfC qual scope s.heap.objs.size f cd)
 N:=N
 s₀:=s
 H₀:=H
 env:=envOfC qual scope s.heap.objs.size f cd
 outer:=outer
 stack:=envOfC qual scope s.heap.objs.size f cd::outer
 ex:=[]
 calm:=true
 fn:=fun _=>true
 pn:=[]
 xe:=fun e s'=>wpAny (model P w) (A.deeper (envOfC qual scope s.heap.objs.size f cd)) (leaving (envOfC qual scope s.heap.objs.size f cd) e) (fun _ a=>CX outer H s E e a) (fun b a=>CX outer H s E b a) s'
theorem Ce(h:sc.names.lookup x=some .cell):∃c,(cG n sc.names []).lookup x=some c:=by have q:=CM sc.names n [] (.inl h);exact ck.mp q
theorem HC{CX:CXT}{cd:Value}{outer:List Env}{B:Shared}{H:Hp}{E:XK}{vs:List V}
  (S:uW N ps scope)(D:A.handled=none)(g:Ew P w K mg base A outer s H)(I:vs.length=ps.length)(r:bM vs us)
  (x:InCallC s s.heap.objs.size (bindL (envOfC qual scope s.heap.objs.size f cd).kindOf (ps.zip us) fun _=>none) (cG (s.heap.objs.size+1) scope.names []) (bindC (envOfC qual scope s.heap.objs.size f cd).kindOf (ps.zip us) fun _=>none) B):
  Inv (Ai CX P w K mg base N qual scope f cd A outer s H E) [] (start N vs) H B:=by
 have J:ps.length<=N.length:=by have :=congrArg jZ S.pre;rw[dw]at this;lia
 obtain⟨j,tk,rfl,m⟩:=x.done;have l:∀b:Addr,b∉(Ai CX P w K mg base N qual scope f cd A outer s H E).ex:=fun b z=>absurd (show b∈([]:List Addr)from z) (by simp);refine⟨⟨g.mod,S.kind,rfl,rfl,az _,fun y z c j d=>?_,fun y hy=>?_,fun y c _ h=>?_,fun _=>D,Around.frames_deeper g.frames,.inr ⟨rfl,rfl⟩,fun b z=>absurd z (l b),g.bs,g.bsz,fun b _ _=>l b,fun b z=>absurd z (l b),g.wk,g.frf⟩,
  rfl,g.bare,Un.kept m,⟨_,x.toInCall.ns,fun i y v j d G=>?_⟩,fun y c h=>⟨_,x.cell y c h⟩,g.hok.fresh (az _),fun y c h=>?_,fun p hp=>absurd (show p∈([]:List (Addr×Obj))from hp) (by simp),g.hok.kept m,?_⟩
 ·exact name_of_addr x.apart (bu j) (bu d)
 ·have hy:scope.names.lookup y=some .cell\/scope.names.lookup y=some .free:=hy;rcases hy with hy|hy;·exact Ce hy
  ·exact absurd rfl (S.nofree _ (bu hy))
 ·exact jx (x.above y c (bu h))
 ·have hi:i<vs.length:=by
   unfold start at d;by_cases hi:i<vs.length;·exact hi
   ·rw[bT (by simpa using hi)]at d;rw[List.getElem?_replicate]at d;split at d<;>cases d
  have C:vs[i]? =some v:=by
   unfold start at d;rw[cK (by simpa using hi),aA]at d;cases e:vs[i]? with
   |none=>rw[e]at d;cases d
   |some a=>rw[e]at d;cases d;rfl
  obtain⟨u,o,F⟩:=r.get C;have hp:ps[i]? =some y:=by rw[<-S.pre,C4 (by lia)];exact j
  have t:ps.Nodup:=by rw[<-S.pre];exact S.nd.sublist (u5 _ _)
  refine⟨u,F,?_⟩;rcases S.par y (aI hp)with k|k;·exact .inl ⟨k,yN t hp o k⟩
  ·obtain⟨c,e⟩:=Ce (n:=s.heap.objs.size+1) k;refine .inr ⟨.inl k,c,e,?_⟩;have q:=x.cell y c e;rw[yP t hp o (by show scope.names.lookup y≠_;rw[k];decide)]at q;exact q
 ·exact g.hok.fresh (jx (x.above y c (bu h)))
 ·unfold start;show _=N.length;rw[bw,ai,jG];lia
theorem fn_of{CX:CXT}{name:Str}{B:Arguments}{h:List Stmt}{kV:Value}{an:Option Addr}
  {sp:Sp}(X:K.lookup f=some ⟨oc,od,.func (aD name qual B h scope dV kV doc pm an cdv ct),osl⟩)(L:eO K cdv qual=true)(S:uW N ps scope)
  (len:∀vs H Q E,sp vs H Q E->vs.length=ps.length)
  (G:∀(A:Around)(c:List Env)(s:Shared)(H:Hp)(vs:List V)(Q:VK)(E:XK),jf k (A.deeper (envOfC qual scope s.heap.objs.size f cdv))->sp vs H Q E->
   ∃t,PSs (Ai CX P w K mg base N qual scope f cdv A c s H E) h t/\t {nx:=fun _ H'=>Q .non H',rt:=Q} (start N vs) H):
  ju P w K mg base CX (k+1) f (aD name qual B h scope dV kV doc pm an cdv ct) ps sp:=by
 refine⟨len,fun A c s H Z Y vs Q E i d F r z=>?_⟩;have R:=len _ _ _ _ z;have m:K.In s.heap:=d.mod.kin.keeps fun b o e=>(d.bs b o e).1;have W:s.heap.NoLimit:=d.mod.nolimit.keeps fun b o e=>(d.bs b o e).1;have O:∀y∈ps.zip Y,scope.names.lookup y.1=some .local\/(scope.names.lookup y.1=some .cell/\((cG (s.heap.objs.size+1) scope.names []).lookup y.1).isSome=true):=fun⟨n,v⟩ U=>by
  rcases S.par n (yT U).1 with q|q;·exact .inl q
  ·exact .inr ⟨q,CM _ _ _ (.inl q)⟩
 refine codeAny_call_function i.depth (m _ _ X) rfl S.co S.gen rfl (PySem.W.codeRec_of m L) (F _ _ _ _ ?_);refine wpAny_newFunctionEnv_cells S.kind O fun a0 M C x=>?_;subst M;refine⟨W.keeps x.toInCall.keep,codeAny_func ?_⟩;obtain⟨t,T,hq⟩:=G A c s H vs Q E (i.deeper _) z;have I:Inv (Ai CX P w K mg base N qual scope f cdv A c s H E) [] (start N vs) H C:=HC S i.hd d R r x;refine cX (T [] C (start N vs) H _ I hq) (fun D l a=>?_) fun e l a=>a;have p:∀{g:St}{H':Hp}{v:V}{u:Value},Inv (Ai CX P w K mg base N qual scope f cdv A c s H E) [] g H' l->RelV v u->Q v H'->CE c P w H s Q u l:=
  fun{g H' v u} J j q=>⟨v,H',J.os,J.bare,J.base,J.hok,j,q⟩
 cases D with
 |ret u=>obtain⟨v,g,H',J,j,q⟩:=a;exact p J j q
 |next =>obtain⟨g,H',J,q⟩:=a;exact p (v:=V.non) (u:=bK) J rfl q
 |brk=>obtain⟨_,_,_,q⟩:=a;exact gS q
 |cont=>obtain⟨_,_,_,q⟩:=a;exact gS q
section
variable {X:Cx}{x:Str}{p pos:Pos}{e:Expr}{es:List Expr}{t:TA}{id T:String}{r:List V->Hp->VK->Prop}
def tCB(r:List V->Hp->VK->Prop)(t:TA):TE:=fun σ H Q=>t σ H fun vs H1=>r vs H1 Q
theorem Ki(g:fF X (.builtin id) r)(k:Gl X x)(l:X.mg x=none)(o:fM x=some (.builtin id))(f:PA X (e::es) t)(m:x≠"__name__":=by decide) (i:(x==("__debug__":Str))=false:=by decide)
  (j:bz (e::es) X.env=(false,eval e X.env)::bz es X.env:=by rfl) (n:(backTo pos (bz es X.env)).any (·.1)=false:=by rfl):PE X (.Call (.Name x p) (e::es) [] pos) (tCB r t):=by
 intro a s b H Q I h;refine gF (k9 I k l o ?_ m i);exact i3 (thn (f pos a s b H _ I h) fun w v ⟨y,c,d,u,q⟩=>g a v b c y w Q d u q) j n
theorem Hd(g:fF X (.type T) r)(k:Gl X x)(l:X.mg x=none)(o:fM x=some (.type T))(f:PA X (e::es) t)(m:x≠"__name__":=by decide) (i:(x==("__debug__":Str))=false:=by decide)
  (j:bz (e::es) X.env=(false,eval e X.env)::bz es X.env:=by rfl) (n:(backTo pos (bz es X.env)).any (·.1)=false:=by rfl):PE X (.Call (.Name x p) (e::es) [] pos) (tCB r t):=by
 intro a s b H Q I h;refine gF (k9 I k l o ?_ m i);exact dc (thn (f pos a s b H _ I h) fun w v ⟨y,c,d,u,q⟩=>g a v b c y w Q d u q) j n
end
end L2
variable {X:L2.Cx}{H H' H1:L2.Hp}{σ:L2.St}{y:L2.V}{cs dvs xs ys zs:List L2.V}
namespace HT
open PySem PyProof.Rows
section
open PySem.SeqAt
open PySem.AutoSeq1 (wpAny_loadPart')
open PySem.MeetsSeq PySem.MeetsSeq2 PySem.MeetsSeq3
end
section
variable {prog:Program}{w:World}{A:Around}{E:Value->Shared->Prop}{s:Shared}
noncomputable def sIx(n d:Nat):Option Int->Nat
 |none=>d
 |some v=>if v<0 then(v+(n:Int)).toNat else min v.toNat n
theorem qK(n d:Nat):sIx n d none=d:=rfl
theorem oG(n d k:Nat):sIx n d (some (k:Int))=min k n:=by show(if(k:Int)<0 then((k:Int)+(n:Int)).toNat else min (k:Int).toNat n)=min k n;rw[if_neg (by lia),aM]
theorem JC(n d:Nat)(a:d<=n)(o:Option Int):sIx n d o<=n:=by
 cases o with
 |none=>exact a
 |some v=>
  show(if v<0 then(v+(n:Int)).toNat else min v.toNat n)<=n;by_cases hv:v<0;·rw[if_pos hv];lia
  ·rw[if_neg hv];exact Nat.min_le_right _ _
theorem clip_eq(v:Int)(n d:Nat):(if v<0 then max (v+(n:Int)) 0 else min v (n:Int))=((sIx n d (some v):Nat):Int):=by
 show(if v<0 then max (v+(n:Int)) 0 else min v (n:Int))=(((if v<0 then(v+(n:Int)).toNat else min v.toNat n):Nat):Int);by_cases hv:v<0;·simp only[if_pos hv];lia
 ·simp only[if_neg hv];lia
end
end HT
namespace L2
open PySem PySem.Spec PyProof.Rows
noncomputable abbrev TO:=St->Hp->(Option Int->Hp->Prop)->Prop
def PO(X:Cx)(e:Option Expr)(t:TO):Prop:=
 ∀(pins:List (Addr×Obj))(s:Shared)(σ:St)(H:Hp)(Q:Option Int->Hp->Prop),Inv X pins σ H s->t σ H Q->
  wpAny (model X.prog X.w) X.A (evalPart e X.env) (fun u s'=>∃o H',Inv X pins σ H' s'/\IsPart u o/\Q o H') X.xe s
def yY:TO:=fun _ H Q=>Q none H
def Jg(t:TE):TO:=fun σ H Q=>t σ H fun x H1=>∃i,x=.int i/\Q (some i) H1
theorem intsAre_of:∀{us:List Value},bM (ns.map V.int) us->bZ us ns:=by
 induction ns with
 |nil=>intro us r;rw[o8]at r;cases r;exact .nil
 |cons n ns ih=>
  intro us r;rw[bR]at r;cases r with
  |cons r1 r2=>obtain⟨t,e⟩:=r1;subst e;exact .cons n t (ih r2)
section
variable {X:Cx}{e:Expr}{te:TE}{lo hi:Option Expr}{tl th:TO}{pos p2:Pos}
theorem po_none:PO X none yY:=by intro a s b H Q I h;rw[evalPart_none];exact aj ⟨none,H,I,.none,h⟩
theorem po_some(h:PE X e te):PO X (some e) (Jg te):=by intro d s j H Q I c;rw[evalPart_some];refine thn (h d s j H _ I c) fun u k ⟨x,a,b,g,f⟩=>?_;obtain⟨i,rfl,q⟩:=f;obtain⟨t,rfl⟩:=g;exact⟨some i,a,b,.int i t,q⟩
def SlR(X:Cx)(r:V->Option Int->Option Int->Hp->VK->Prop):Prop:=
 ∀(pins:List (Addr×Obj))(s:Shared)(σ:St)(H:Hp)(x:V)(v a b:Value)(lo hi:Option Int)(sl:Addr)(Q:VK),Inv X pins σ H s->RelV x v->s.heap.IsSliceOf sl a b .none->IsPart a lo->IsPart b hi->r x lo hi H Q->
  ∃T id,typeLookup (.type T) "__getitem__"=pure (some (.builtin id))/\s.TypeIs v T/\wpAny (model X.prog X.w) X.A (getItem v (.ref sl)) (EP X pins σ Q) X.xe s
theorem SlR.or{r r':V->Option Int->Option Int->Hp->VK->Prop}(h:SlR X r)(h':SlR X r'):SlR X (fun x lo hi H Q=>r x lo hi H Q\/r' x lo hi H Q):=by
 intro b s j H x v g i lo hi f Q I e a c d q;rcases q with q|q;·exact h b s j H x v g i lo hi f Q I e a c d q
 ·exact h' b s j H x v g i lo hi f Q I e a c d q
def tSl(r:V->Option Int->Option Int->Hp->VK->Prop)(te:TE)(tl th:TO):TE:=fun σ H Q=>te σ H fun x H1=>tl σ H1 fun l H2=>th σ H2 fun u a=>r x l u a Q
theorem Kb{r:V->Option Int->Option Int->Hp->VK->Prop}(z:SlR X r)(t:PE X e te)(y:PO X lo tl)(B:PO X hi th):PE X (.Subscript e (.Slice lo hi none p2) pos) (tSl r te tl th):=by intro c s d H Q I h;refine Subscript_ (thn (t c s d H _ I h) fun v K ⟨x,i,k,J,E⟩=>?_);refine wpAny_Slice (thn (y c K d i _ k E) fun f L ⟨l,j,m,C,F⟩=>thn (B c L d j _ m F) fun vu a ⟨u,g,n,D,G⟩=>?_);rw[evalPart_none];refine aj ?_;have o:Inv X c d g {a with heap:=a.heap.push {cls:=.type "slice",data:=.fields #[f,vu,.none]}}:=n.kept (t':=a.toks) fun b M q=>ag _ q;obtain⟨T,id,p,A,w⟩:=z c {a with heap:=a.heap.push {cls:=.type "slice",data:=.fields #[f,vu,.none]}} d g x v f vu l u a.heap.objs.size Q o J (Heap.IsSliceOf.new ..) C D G;show wpAny (model X.prog X.w) X.A (L7 e (.Slice lo hi none p2) v (.ref a.heap.objs.size)) (EP X c d Q) X.xe {a with heap:=a.heap.push {cls:=.type "slice",data:=.fields #[f,vu,.none]}};exact tail_any (ops:=[.ref a.heap.objs.size,v]) A p w (by with_unfolding_all rfl)
noncomputable def nO(xs:List V)(lo hi:Option Int):List V:=(xs.drop (HT.sIx xs.length 0 lo)).take (HT.sIx xs.length xs.length hi-HT.sIx xs.length 0 lo)
theorem B9(xs:List V)(lo hi:Option Int):(nO xs lo hi).length<=xs.length:=by unfold nO;rw[dw,cN];lia
def rSlT(K:ah):V->Option Int->Option Int->Hp->VK->Prop:=fun x lo hi H Q=>∃a xs,x=.ref a/\SqT K H a xs/\
 ¬(HT.sIx xs.length 0 lo=0/\HT.sIx xs.length xs.length hi=xs.length)/\∀p,H p=none->Q (.ref p) (upd H p (.tup (nO xs lo hi)))
end
noncomputable def ixN(n:Nat)(i:Int):Option Nat:=if 0<=i then(if i<n then some i.toNat else none)else if -(n:Int)<=i then some (i+n).toNat else none
noncomputable def atI{α:Type}(xs:List α)(i:Int):Option α:=(ixN xs.length i).bind fun j=>xs[j]?
theorem ixN_seq{i:Int}(h:ixN n i=some j):seqIndex? i n=some j/\j<n∧-(n:Int)<=i/\i<n:=by
 unfold ixN at h;by_cases h0:0<=i
 ·rw[if_pos h0]at h;by_cases h1:i<n;·rw[if_pos h1]at h;have e:i.toNat=j:=bj h;exact⟨by rw[CW h0 h1,e],by lia,by lia,h1⟩
  ·rw[if_neg h1]at h;cases h
 ·rw[if_neg h0]at h;by_cases h1: -(n:Int)<=i;·rw[if_pos h1]at h;have e:(i+n).toNat=j:=bj h;exact⟨by rw[seqIndex_neg (by lia) h1,e],by lia,h1,by lia⟩
  ·rw[if_neg h1]at h;cases h
theorem As{a:Type}{xs:List a}{i:Int}{v:a}(h:atI xs i=some v):∃j,seqIndex? i xs.length=some j/\xs[j]? =some v/\j<xs.length∧-(xs.length:Int)<=i/\i<xs.length:=by
 unfold atI at h;cases e:ixN xs.length i with
 |none=>rw[e]at h;cases h
 |some j=>rw[e]at h;obtain⟨b,c,d,f⟩:=ixN_seq e;exact⟨j,b,h,c,d,f⟩
theorem cn{a:Type}{xs:List a}{v:a}(h:xs[j]? =some v):atI xs (j:Int)=some v:=by
 have b:j<xs.length:=(aC.mp h).1;have e:ixN xs.length (j:Int)=some j:=by unfold ixN;rw[if_pos (by lia),if_pos (by lia)];simp
 unfold atI;rw[e];exact h
def Ge(b:Expr):Prop:=∀o i,subscripted b false o i=operate [o,i] (getItem o i)
def IxR(X:Cx)(r:R2):Prop:=
 ∀(value a:Expr)(pins:List (Addr×Obj))(s:Shared)(σ:St)(H:Hp)(x y:V)(v u:Value)(Q:VK),Inv X pins σ H s->RelV x v->RelV y u->r x y H Q->
  subscripted a false v u=operate [v,u] (getItem v u)->wpAny (model X.prog X.w) X.A (L7 value a v u) (EP X pins σ Q) X.xe s
def MtR(X:Cx)(id:String)(r:V->List V->Hp->VK->Prop):Prop:=
 ∀(pins:List (Addr×Obj))(s:Shared)(σ:St)(H:Hp)(x:V)(xs:List V)(v:Value)(us:List Value)(Q:VK),Inv X pins σ H s->RelV x v->bM xs us->r x xs H Q->
  wpAny (model X.prog X.w) X.A (call (.builtin id) (v::us)) (EP X pins σ Q) X.xe s
section
variable {X:Cx}{a b:Expr}{ta tb:TE}{pos:Pos}
theorem IxR.or{r r':R2}(h:IxR X r)(h':IxR X r'):IxR X (fun x y H Q=>r x y H Q\/r' x y H Q):=by
 intro f e b s g H x y v u Q I c d q a;rcases q with q|q;·exact h f e b s g H x y v u Q I c d q a
 ·exact h' f e b s g H x y v u Q I c d q a
theorem MtR.or{id:String}{r r':V->List V->Hp->VK->Prop}(h:MtR X id r)(h':MtR X id r'):MtR X id (fun x xs H Q=>r x xs H Q\/r' x xs H Q):=by
 intro a s e H x xs v d Q I c b q;rcases q with q|q;·exact h a s e H x xs v d Q I c b q
 ·exact h' a s e H x xs v d Q I c b q
theorem pe_ix{r:R2}(g:IxR X r)(e:PE X a ta)(f:PE X b tb)(i:Ge b):PE X (.Subscript a b pos) (tOp r ta tb):=by intro j s n H Q I h;exact Subscript_ (binT e f I h fun v u m x y c d k l q=>g a b j m n c x y v u Q d k l q (i _ _))
def rIxL(K:ah):R2:=fun x y H Q=>∃p xs i v,x=.ref p/\y=.int i/\SqL K H p xs/\atI xs i=some v/\Q v H
def rIxT(K:ah):R2:=fun x y H Q=>∃p xs i v,x=.ref p/\y=.int i/\SqT K H p xs/\atI xs i=some v/\Q v H
def rIxS:R2:=fun x y H Q=>∃z i c,x=.str z/\y=.int i/\z.length<=sizeLine/\atI z.cps.toList i=some c/\Q (.str ⟨#[c]⟩) H
theorem ix_list:IxR X (rIxL X.K):=by
 intro M L g s k H x y v u Q I D E h f;obtain⟨p,N,i,z,rfl,rfl,hq,o,q⟩:=h;cases D;obtain⟨t,rfl⟩:=E;obtain⟨B,r,c,K⟩:=I.list hq;obtain⟨j,a,l,G,m,n⟩:=As o;obtain⟨w,d,C⟩:=r.get l;have A:=r.length;have J:=sM;have e:EP X g k Q w s:=⟨z,H,I,C,q⟩;by_cases h0:0<=i
 ·have b:i.toNat=j:=by rw[CW h0 n]at a;exact bj a
  exact item_listR c.isList h0 (by lia) (by rw[b];simpa using d) e f
 ·have b:(i+(B.toArray.size:Int)).toNat=j:=by rw[seqIndex_neg (by lia) m]at a;rw[aB,<-A];exact bj a
  exact r8 (x:=w) c.isList.typeIs slot_list_getitem.lookup
   (wpAny_getItem_list_neg (Q:=fun r F=>r=w/\EP X g k Q r F) c.isList (by lia) (by rw[aB]<;>lia) (by lia) (by rw[b];simpa using d) ⟨rfl,e⟩) f
theorem ix_tup:IxR X (rIxT X.K):=by
 intro L K a s c H x y v u Q I o A h m;obtain⟨p,M,i,z,rfl,rfl,hq,k,q⟩:=h;cases o;obtain⟨t,rfl⟩:=A;obtain⟨J,r,b,G⟩:=I.tuple hq;obtain⟨j,f,g,C,D,E⟩:=As k;obtain⟨w,d,n⟩:=r.get g;have l:=r.length;have F:=sM;have e:EP X a c Q w s:=⟨z,H,I,n,q⟩;exact r8 (x:=w) b.typeIs slot_tuple_getitem.lookup
  (getItem_tuple (j:=j) (Q:=fun r B=>r=w/\EP X a c Q r B) b (by lia) (by lia) (by rw[aB,<-l];exact f) (by simpa using d) ⟨rfl,e⟩) m
theorem ix_str:IxR X rIxS:=by
 intro D B A s E H x y v u Q I n o h m;obtain⟨z,i,c,rfl,rfl,w,k,q⟩:=h;obtain⟨t,rfl⟩:=n;obtain⟨C,rfl⟩:=o;obtain⟨j,a,e,p,f,g⟩:=As k;have l:z.cps.toList.length=z.length:=by simp[CH]
 rw[l]at a f g;have r:=sM;exact tail_any (typeIs_str s z t) slot_str_getitem.lookup (getItem_str (c:=c) (by have b:decide (i< -(2^63:Int))=false:=decide_eq_false (by lia);have d:decide (i≥ 2^63)=false:=decide_eq_false (by lia);rw[b,d,Bool.or_false]) (by rw[a];simpa using e) ⟨.str ⟨#[c]⟩,H,I.tok _,⟨_,rfl⟩,q⟩) m
def rIx(K:ah):R2:=fun x y H Q=>rIxL K x y H Q\/rIxT K x y H Q\/rIxS x y H Q
theorem ix_seq:IxR X (rIx X.K):=ix_list.or (ix_tup.or ix_str)
theorem zi(lo hi:Option Int)(n:Nat):(lu lo hi none n).1=((HT.sIx n 0 lo:Nat):Int)/\(lu lo hi none n).2.1=((HT.sIx n n hi:Nat):Int)/\(lu lo hi none n).2.2=1:=by
 refine⟨?_,?_,rfl⟩
 ·cases lo with
  |none=>simp[lu,HT.sIx]
  |some i=>
   simp only[lu,HT.sIx,uZ,show(1:Int)>0 by decide,if_true];by_cases h:i<0;·simp only[h,if_true]<;>lia
   ·simp only[h,if_false]<;>lia
 ·cases hi with
  |none=>simp[lu,HT.sIx]
  |some i=>
   simp only[lu,HT.sIx,uZ,show(1:Int)>0 by decide,if_true];by_cases h:i<0;·simp only[h,if_true]<;>lia
   ·simp only[h,if_false]<;>lia
theorem xA(a:List Value)(lo hi:Option Int):slicePick a.toArray lo hi none=((a.drop (HT.sIx a.length 0 lo)).take (HT.sIx a.length a.length hi-HT.sIx a.length 0 lo)).toArray:=by obtain⟨b,c,d⟩:=zi lo hi a.toArray.size;unfold slicePick;rw[b,c,d];simp only[sliceRange_one,pick_run,aB]<;>rfl
def rSlL(K:ah):V->Option Int->Option Int->Hp->VK->Prop:=fun x lo hi H Q=>∃a xs,x=.ref a/\SqL K H a xs/\∀p,H p=none->Q (.ref p) (upd H p (.lst (nO xs lo hi)))
theorem sl_list:SlR X (rSlL X.K):=by intro p s y H x v u w lo hi t Q I l f j k h;obtain⟨a,c,rfl,g,q⟩:=h;cases l;obtain⟨m,r,d,i⟩:=I.list g;have e:=r.length;refine⟨"list",_,slot_list_getitem.lookup,d.isList.typeIs,?_⟩;refine wpAny_getItem_list_slice d.isList f j k .none (by simp) ?_ (by rw[aB]<;>lia);rw[xA,<-e];refine⟨.ref s.heap.objs.size,_,I.laid (t':=s.toks) (o:=.lst (nO c lo hi)) (fun b n q=>ag _ q) (az _) ?_,rfl,q _ (I.hok.fresh (az _))⟩;exact⟨aP (B9 c lo hi) i,_,0,(r.drop (HT.sIx c.length 0 lo)).take (HT.sIx c.length c.length hi-HT.sIx c.length 0 lo),ay _ rfl⟩
noncomputable def pI:V->Bool
 |.non=>true
 |.bl _=>true
 |.int _=>true
 |.str _=>true
 |_=>false
noncomputable def eqV:V->V->Bool
 |.non,.non=>true
 |.bl a,.bl b=>a==b
 |.bl a,.int b=>(if a then 1 else 0)==b
 |.int a,.bl b=>a==(if b then 1 else 0)
 |.int a,.int b=>a==b
 |.str a,.str b=>a==b
 |_,_=>false
theorem gy{x:V}{v:Value}(f:RelV y u)(c:RelV x v)(g:pI y=true)(e:pI x=true):SeqAt.EqAt A s u v (eqV y x):=by
 cases y with
 |non=>
  cases f;cases x with
  |non=>cases c;exact SeqAt.EqAt.same _
  |bl b=>cases c;exact SeqAt.EqAt.none_bool b
  |int b=>obtain⟨t,rfl⟩:=c;exact SeqAt.EqAt.none_int b t
  |str b=>obtain⟨t,rfl⟩:=c;exact SeqAt.EqAt.none_str b t
  |_=>exact absurd (show false=true from e) ao
 |bl a=>
  cases f;cases x with
  |non=>cases c;exact SeqAt.EqAt.bool_none a
  |bl b=>cases c;exact SeqAt.EqAt.bool_bool a b
  |int b=>obtain⟨t,rfl⟩:=c;exact SeqAt.EqAt.bool_int a b t
  |str b=>obtain⟨t,rfl⟩:=c;exact SeqAt.EqAt.bool_str a b t
  |_=>exact absurd (show false=true from e) ao
 |int a=>
  obtain⟨d,rfl⟩:=f;cases x with
  |non=>cases c;exact SeqAt.EqAt.int_none a d
  |bl b=>cases c;exact SeqAt.EqAt.int_bool a d b
  |int b=>obtain⟨t,rfl⟩:=c;exact SeqAt.EqAt.int_int a d b t
  |str b=>obtain⟨t,rfl⟩:=c;exact CZ a d b t
  |_=>exact absurd (show false=true from e) ao
 |str a=>
  obtain⟨d,rfl⟩:=f;cases x with
  |non=>cases c;exact SeqAt.EqAt.str_none a d
  |bl b=>cases c;exact SeqAt.EqAt.str_bool a d b
  |int b=>obtain⟨t,rfl⟩:=c;exact CY a d b t
  |str b=>obtain⟨t,rfl⟩:=c;exact SeqAt.EqAt.str_str a d b t
  |_=>exact absurd (show false=true from e) ao
 |_=>exact absurd (show false=true from g) ao
noncomputable def eqU(x:V)(u:Value):Bool:=match u with
 |.none=>eqV .non x
 |.bool b=>eqV (.bl b) x
 |.int i _=>eqV (.int i) x
 |.str z _=>eqV (.str z) x
 |_=>false
theorem Lr{x:V}(r:RelV y u)(f:pI y=true):eqU x u=eqV y x:=by
 cases y with
 |non=>cases r;rfl
 |bl b=>cases r;rfl
 |int i=>obtain⟨t,rfl⟩:=r;rfl
 |str z=>obtain⟨t,rfl⟩:=r;rfl
 |_=>exact absurd (show false=true from f) ao
theorem rX{x:V}:∀{xs:List V}{us:List Value},bM xs us->xs.all pI=true->us.any (eqU x)=xs.any fun y=>eqV y x
 |_,_,.nil,_=>rfl
 |y::xs,u::us,.cons r t,f=>by rw[C6,aE]at f;rw[C5,C5,Lr r f.1,rX t f.2]
theorem nC{x:V}{v:Value}(b:RelV x v)(a:pI x=true):∀{xs:List V}{us:List Value},bM xs us->xs.all pI=true->∀u∈us,SeqAt.EqAt A s u v (eqU x u)
 |_,_,.nil,_=>fun u hu=>by cases hu
 |y::xs,u::us,.cons r t,f=>fun c hu=>by
  rw[C6,aE]at f;rcases aH.mp hu with rfl|hu;·rw[Lr r f.1];exact gy r b f.1 a
  ·exact nC b a t f.2 c hu
noncomputable def inV(x:V)(xs:List V):Bool:=xs.any fun y=>eqV y x
def rIn(K:ah)(a:Bool):R2:=fun x y H Q=>∃p xs,y=.ref p/\(SqL K H p xs\/SqT K H p xs)/\pI x=true/\xs.all pI=true/\Q (.bl (if a then !inV x xs else inV x xs)) H
theorem Hi:OpR X (dq .In) (rIn X.K false):=by
 intro i s k H x y v u Q I e g h;obtain⟨p,j,rfl,hq,d,fs,q⟩:=h;cases g;rcases hq with hq|hq;·obtain⟨a,r,c,f⟩:=I.list hq;refine SeqAt.in_listAt (eqU x) c.isList (fun w b=>nC e d r fs w (by simpa using b)) ⟨.bl _,H,I,rfl,?_⟩;rw[show a.toArray.any (eqU x)=a.any (eqU x) by simp,rX r fs];exact q
 ·obtain⟨a,r,c,f⟩:=I.tuple hq;refine SeqAt.in_tupleAt (eqU x) c (fun w b=>nC e d r fs w (by simpa using b)) ⟨.bl _,H,I,rfl,?_⟩;rw[show a.toArray.any (eqU x)=a.any (eqU x) by simp,rX r fs];exact q
theorem zK:OpR X (dq .NotIn) (rIn X.K true):=by
 intro i s k H x y v u Q I e g h;obtain⟨p,j,rfl,hq,d,fs,q⟩:=h;cases g;rcases hq with hq|hq;·obtain⟨a,r,c,f⟩:=I.list hq;refine SeqAt.notIn_listAt (eqU x) c.isList (fun w b=>nC e d r fs w (by simpa using b)) ⟨.bl _,H,I,rfl,?_⟩;rw[show a.toArray.any (eqU x)=a.any (eqU x) by simp,rX r fs];exact q
 ·obtain⟨a,r,c,f⟩:=I.tuple hq;refine SeqAt.notIn_tupleAt (eqU x) c (fun w b=>nC e d r fs w (by simpa using b)) ⟨.bl _,H,I,rfl,?_⟩;rw[show a.toArray.any (eqU x)=a.any (eqU x) by simp,rX r fs];exact q
theorem zJ:OpR X (dq .NotIn) (fun x y H Q=>∃i j,x=.str i/\y=.str j/\Q (.bl (!(!(iq j i 0 j.length 1).isEmpty))) H):=by intro c s e H x y v u Q I a b h;obtain⟨i,j,rfl,rfl,q⟩:=h;obtain⟨t,rfl⟩:=a;obtain⟨d,rfl⟩:=b;exact notIn_str ⟨.bl _,H,I,rfl,q⟩
theorem An:fF X (.builtin "len") (fun xs H Q=>∃p ys,xs=[.ref p]/\(SqL X.K H p ys\/SqT X.K H p ys)/\Q (.int ys.length) H):=by
 intro i s k H xs j Q I r h;obtain⟨p,ys,rfl,hq,q⟩:=h;obtain⟨u,rfl,f⟩:=vals1 r;cases f;have g:=sM;rcases hq with hq|hq;·obtain⟨e,c,b,d⟩:=I.list hq;have a:=c.length;exact Calls.call_len_list b.isList (by simp only[aB]<;>lia) ⟨.int ys.length,H,I.tok _,⟨s.toks+1,by rw[aB,a]⟩,q⟩
 ·obtain⟨e,c,b,d⟩:=I.tuple hq;have a:=c.length;exact len_tuple b (by simp only[aB]<;>lia) ⟨.int ys.length,H,I.tok _,⟨s.toks+1,by rw[aB,a]⟩,q⟩
theorem Am:fF X (.builtin "len") (fun xs H Q=>∃z,xs=[.str z]/\z.length<=sizeLine/\Q (.int z.length) H):=by intro c s e H xs d Q I r h;obtain⟨z,rfl,b,q⟩:=h;obtain⟨u,rfl,t,rfl⟩:=vals1 r;have a:=sM;exact len_str (by lia) ⟨.int z.length,H,I.tok _,⟨_,rfl⟩,q⟩
theorem fF.or{f:Value}{r r':List V->Hp->VK->Prop}(h:fF X f r)(h':fF X f r'):fF X f (fun xs H Q=>r xs H Q\/r' xs H Q):=by
 intro a s d H xs c Q I b q;rcases q with q|q;·exact h a s d H xs c Q I b q
 ·exact h' a s d H xs c Q I b q
theorem Al:fF X (.type "list") (fun xs H Q=>∃p ys,xs=[.ref p]/\(SqL X.K H p ys\/SqT X.K H p ys)/\∀l,H l=none->Q (.ref l) (upd H l (.lst ys))):=by
 intro y s A H xs B Q I r h;obtain⟨p,ys,rfl,hq,q⟩:=h;obtain⟨u,rfl,z⟩:=vals1 r;cases z;have v:∀(c:List Value),bM ys c->ys.length<=sizeLine->∀(a:Heap)(d:Nat),(∀b w,s.heap.get? b=some w->a.get? b=some w)->
   a.get? s.heap.objs.size=some {cls:=.type "list",dict:=none,data:=.seq c.toArray d,slots:= #[]}->EP X y A Q (.ref s.heap.objs.size) {s with heap:=a}:=fun c f g a d i e=>
  ⟨.ref s.heap.objs.size,_,I.laid (t':=s.toks) i (az _) (show dU X.prog X.w _ a _ (.lst ys)from⟨g,c,d,f,e⟩),rfl,q _ (I.hok.fresh (az _))⟩
 rcases hq with hq|hq;·obtain⟨c,f,t,g⟩:=I.list hq;have x:=f.length;obtain⟨o,m,j,n,k⟩:=t.isList;exact call_list_seq p (.inl rfl) m j k (fun a d i e=>v c f g a d i e) (by simp only[aB]<;>lia)
 ·obtain⟨c,f,t,g⟩:=I.tuple hq;have x:=f.length;obtain⟨o,m,j,n,k⟩:=t;exact call_list_seq p (.inr rfl) m j k (fun a d i e=>v c f g a d i e) (by simp only[aB]<;>lia)
theorem xK:fF X (.type "tuple") (fun xs H Q=>∃p ys,xs=[.ref p]/\((SqL X.K H p ys/\∀l,H l=none->Q (.ref l) (upd H l (.tup ys)))\/(SqT X.K H p ys/\Q (.ref p) H))):=by
 intro j s k H xs w Q I r h;obtain⟨p,ys,rfl,h⟩:=h;obtain⟨u,rfl,t⟩:=vals1 r;cases t;rcases h with⟨hq,q⟩ |⟨hq,q⟩
 ·obtain⟨c,f,d,i⟩:=I.list hq;have v:=f.length;refine call_tuple_list d.isList (fun a n=>?_) (by simp only[aB]<;>lia);have g:Inv X j k H {s with heap:=a}:=I.kept (t':=s.toks) n;have m:Inv X j k (upd H a.objs.size (.tup ys)) {s with heap:=a.push {cls:=.type "tuple",data:=.seq c.toArray}}:=
   g.laid (t':=s.toks) (fun b o e=>ag _ e) (az _) (show dU X.prog X.w _ _ _ (.tup ys)from⟨i,c,f,IsTup.new _ _⟩)
  exact⟨.ref a.objs.size,_,m,rfl,q _ (g.hok.fresh (az _))⟩
 ·obtain⟨c,f,d,i⟩:=I.tuple hq;exact call_tuple_same d ⟨.ref p,H,I,rfl,q⟩
def tyV(K:ah)(T:String)(x:V)(H:Hp):Prop:=match x with
 |.str _=>T="str"
 |.int _=>T="int"
 |.ref p=>(T="list"/\∃xs,SqL K H p xs)\/(T="tuple"/\∃o,K.lookup p=some o/\o.cls=.type "tuple"/\o.dict=none)\/
   (T="dict"/\((∃kvs,H p=some (.dK kvs))\/∃kvs,H p=some (.dT kvs)))\/(T="set"/\∃S n,H p=some (.set S n))
 |_=>False
theorem IX{T:String}{x:V}{v:Value}(I:Inv X pins σ H s)(r:RelV x v)(ty:tyV X.K T x H):
  s.TypeIs v T/\∀a,v=.ref a->∃h,s.heap.get? a=some h/\h.dict=none:=by
 cases x with
 |str z=>obtain⟨t,rfl⟩:=r;cases(show T="str" from ty);exact⟨typeIs_str s z t,fun _ e=>nomatch e⟩
 |int i=>obtain⟨t,rfl⟩:=r;cases(show T="int" from ty);exact⟨typeIs_int s i t,fun _ e=>nomatch e⟩
 |ref p=>
  cases r;rcases ty with⟨rfl,q,hq⟩ |⟨rfl,o,b,k,g⟩ |⟨rfl,b⟩ |⟨rfl,S,n,b⟩;·obtain⟨m,_,j,_⟩:=I.list hq;refine⟨j.isList.typeIs,fun a e=>?_⟩;cases e;obtain⟨o,n,e,c,g,_⟩:=j;exact⟨o,e,g⟩
  ·refine⟨⟨o,I.kIn p o b,k⟩,fun a e=>?_⟩;cases e;exact⟨o,I.kIn _ o b,g⟩
  ·have z:∃o,s.heap.get? p=some o/\o.ExactDict:=by
    rcases b with⟨l,b⟩ |⟨l,b⟩;·obtain⟨_,_,_,_,o,_,_,e,d,_⟩:=I.hok p _ b;exact⟨o,e,d⟩
    ·obtain⟨_,_,_,_,o,_,_,e,d,_⟩:=I.hok p _ b;exact⟨o,e,d⟩
   obtain⟨o,e,d⟩:=z;refine⟨⟨o,e,d.1⟩,fun a f=>?_⟩;cases f;exact⟨o,e,d.2.1⟩
  ·obtain⟨o,_,_,_,e,d,_⟩:=I.hok p _ b;refine⟨⟨o,e,d.1⟩,fun a f=>?_⟩;cases f;exact⟨o,e,d.2.1⟩
 |_=>exact gS ty
def tBM0(K:ah)(T:String)(r:V->List V->Hp->VK->Prop)(to:TE):TE:=fun σ H Q=>to σ H fun x H1=>tyV K T x H1/\r x [] H1 Q
def tBM(K:ah)(T:String)(r:V->List V->Hp->VK->Prop)(to:TE)(t:TA):TE:=fun σ H Q=>to σ H fun x H1=>tyV K T x H1/\t σ H1 fun xs H2=>r x xs H2 Q
variable {o e:Expr}{es:List Expr}{to:TE}{t:TA}{name:Str}{apos cpos:Pos}{T id:String}{r:V->List V->Hp->VK->Prop}
theorem pe_bm0(n:PlainAttrs T)(slot:Slot T name id)(m:typeOf (.builtin id)=pure (.type "method_descriptor"))(k:MtR X id r)(l:PE X o to)
  (i:xi o name X.env (eval o X.env)=eval o X.env:=by rfl) (j:(apos.endLine==cpos.line)=true:=by rfl):PE X (.Call (.Attribute o name apos) [] [] cpos) (tBM0 X.K T r to):=by
 intro b s d H Q I h;refine wpAny_Call_method0_late i j (thn (l b s d H _ I h) fun v q ⟨x,e,a,c,ty,p⟩=>?_);obtain⟨f,g⟩:=IX a c ty;exact⟨T,id,n,slot,m,f,g,EE rfl (PySem.evalArgs_none (k b q d e x [] v [] Q a c .nil p))⟩
theorem pe_bm(B:PlainAttrs T)(slot:Slot T name id)(A:typeOf (.builtin id)=pure (.type "method_descriptor"))(u:MtR X id r)(w:PE X o to)(m:PA X (e::es) t)
  (n:xi o name X.env (eval o X.env)=eval o X.env:=by rfl)
  (p:((backTo cpos (bz (e::es) X.env)).all (fun x=> !x.1)&&(AA cpos (oZ [] X.env)).all (fun x=>x.1.isSome)
   &&decide ((e::es).length+([]:List Keyword).length+(if([]:List Keyword).isEmpty then 0 else 1)<30))=true:=by rfl)
  (q:(apos.endLine==cpos.line)=true:=by rfl) (z:bz (e::es) X.env=(false,eval e X.env)::bz es X.env:=by rfl) (y:(backTo cpos (bz es X.env)).any (·.1)=false:=by rfl):
  PE X (.Call (.Attribute o name apos) (e::es) [] cpos) (tBM X.K T r to t):=by
 intro a s b H Q I h;refine wpAny_Call_method_late n p q rfl (thn (w a s b H _ I h) fun v F ⟨x,g,c,f,ty,C⟩=>?_);obtain⟨k,l⟩:=IX c f ty;refine⟨T,id,B,slot,A,k,l,?_⟩;have d:=m cpos a F b g _ c C;rw[z]at d⊢;refine EE (by show(false||(backTo cpos (bz es X.env)).any (·.1))=false;rw[y]<;>rfl) (Calls.evalArgs_plain ?_);exact thn d fun J G ⟨K,i,j,E,D⟩=>u a G b i x K v J Q j f E D
end
def MtM(X:Cx)(id:String)(r:V->List V->Hp->VK->Prop):Prop:=
 ∀(pins:List (Addr×Obj))(s:Shared)(σ:St)(H:Hp)(x:V)(xs:List V)(v:Value)(us:List Value)(Q:VK),Inv X pins σ H s->RelV x v->bM xs us->r x xs H Q->
  wpAny (model X.prog X.w) X.A (call (.builtin id) (v::us)) (EP X pins σ Q) X.xe s
theorem bM.one{x:V}(h:bM [x] us):∃u,us=[u]/\RelV x u:=by
 cases h with
 |cons r k=>cases k with
  |nil=>exact⟨_,rfl,r⟩
theorem bM.two{x:V}(h:bM [x,y] us):∃u v,us=[u,v]/\RelV x u/\RelV y v:=by
 cases h with
 |cons r k=>obtain⟨v,e,q⟩:=bM.one k;exact⟨_,v,by rw[e],r,q⟩
theorem bM.zero:∀{us:List Value},bM [] us->us=[]
 |_,.nil=>rfl
theorem bM.eraseIdx:∀{xs:List V}{us:List Value}(i:Nat),bM xs us->bM (xs.eraseIdx i) (us.eraseIdx i)
 |_,_,_,.nil=>.nil
 |_,_,0,.cons _ t=>t
 |_,_,i+1,.cons r t=>.cons r (bM.eraseIdx i t)
theorem bM.reverse(h:bM xs us):bM xs.reverse us.reverse:=by
 induction h with
 |nil=>exact .nil
 |cons r t ih=>rw[u6,u6];exact bM.append ih (.cons r .nil)
theorem bM.rep(h:bM xs us):∀k:Nat,bM (bp k xs).flatten (bp k us).flatten
 | 0=>.nil
 |k+1=>by rw[dN,dN,jm,jm];exact bM.append h (bM.rep h k)
theorem yk{a:Type}:∀(l:List a)(i:Nat),(l.eraseIdx i).length<=l.length
 | [],_=>az _
 |_::_,0=>dy _
 |_::r,i+1=>iB (yk r i)
theorem foldl_rep(a:List Value):∀(k:Nat)(acc:List Value),
  List.foldl (fun c d=>c++d) acc.toArray (bp k a.toArray)=(acc++(bp k a).flatten).toArray
 | 0,acc=>by simp
 |k+1,acc=>by
  have e:acc.toArray++a.toArray=(acc++a).toArray:=by simp
  have b:(acc++a)++(bp k a).flatten=acc++(bp (k+1) a).flatten:=by rw[dN,jm,mJ]
  rw[<-b,<-foldl_rep a k (acc++a),<-e,dN,dR]
section
variable {X:Cx}{pins:List (Addr×Obj)}{σ:St}{H:Hp}{s:Shared}{l b:Addr}{xs ys zs:List V}
theorem Inv.KJ{f:Array Value->Array Value}(I:Inv X pins σ H s)(a:H l=some (.lst xs))
  (e:s.heap.get? l=some {cls:=.type "list",data:=.seq its.toArray n}) (hf:f its.toArray=its'.toArray) (d:bM ys its') (hz:ys.length<=sizeLine):
  Inv X pins σ (upd H l (.lst ys)) {s with heap:=s.heap.update l (a8 f),toks:=t'}:=by
 have q:=IB e f;rw[hf]at q;refine I.write (x:=l) (e:=l) (by rw[a];exact trivial) (.inl rfl) (fun g u b c=>(aR s.heap (a8 f) (bA b)).trans c) ⟨_,q⟩ ?_;exact⟨hz,its',_,d,q⟩
theorem Inv.lnew(I:Inv X pins σ H s)(a:bM ys its)(hz:ys.length<=sizeLine):
  Inv X pins σ (upd H s.heap.objs.size (.lst ys)) {s with heap:=s.heap.push {cls:=.type "list",data:=.seq its.toArray},toks:=t'}:=
 I.laid (fun _ _ q=>ag _ q) (az _) ⟨hz,its,0,a,ay _ rfl⟩
theorem Inv.fresh(I:Inv X pins σ H s):H s.heap.objs.size=none:=I.hok.fresh (az _)
theorem Inv.zT(I:Inv X pins σ H s)(a:H l=some (.lst xs)):xs.length<=sizeLine/\∃(its:List Value)(n:Nat),bM xs its/\xs.length=its.length/\s.heap.get? l=some {cls:=.type "list",data:=.seq its.toArray n}:=by obtain⟨z,its,n,r,e⟩:=I.hok l _ a;exact⟨z,its,n,r,r.length,e⟩
theorem Bz(h:n<=sizeLine):gL n=false:=by unfold gL;exact decide_eq_false (by lia)
end
section
variable {X:Cx}
def E4:V->List V->Hp->VK->Prop:=fun x vs H Q=>∃l xs y,x=.ref l/\vs=[y]/\H l=some (.lst xs)/\xs.length<sizeLine/\Q .non (upd H l (.lst (xs++[y])))
theorem Hs:MtM X "list.append" E4:=by intro j s p H x m v k Q I f d h;obtain⟨l,o,y,rfl,rfl,a,i,q⟩:=h;cases f;obtain⟨u,rfl,c⟩:=d.one;obtain⟨z,b,n,r,g,e⟩:=I.zT a;refine kG F.slot_list_append ⟨_,e,rfl⟩ F.entry_list_append (F.args_list_append_2 _ _) (PySem.list_append l b.toArray n u (by rw[aB];lia)) ⟨e,?_⟩;refine⟨.non,_,I.KJ (its':=b++[u]) a e (by simp) (r.append (.cons c .nil)) ?_,rfl,q⟩;rw[bw,dY];lia
def E3:V->List V->Hp->VK->Prop:=fun x vs H Q=>∃l b xs zs,x=.ref l/\vs=[.ref b]/\H l=some (.lst xs)/\H b=some (.lst zs)/\xs.length+zs.length<=sizeLine/\Q .non (upd H l (.lst (xs++zs)))
theorem Hr:MtM X "list.extend" E3:=by
 intro B s K H x D v C Q I t p h;obtain⟨l,b,E,J,rfl,rfl,d,g,A,q⟩:=h;cases t;obtain⟨u,rfl,o⟩:=p.one;cases o;obtain⟨z,a,n,r,w,e⟩:=I.zT d;obtain⟨G,c,k,m,y,f⟩:=I.zT g;have j:a.toArray.size+c.toArray.size<=sizeLine:=by rw[aB,aB];lia
 have i:¬(!a.toArray.isEmpty&&gL (a.toArray.size+c.toArray.size))=true:=by rw[Bz j,fP];exact ao
 refine kG F.slot_list_extend ⟨_,e,rfl⟩ F.entry_list_extend (F.args_list_extend_2 _ _)
  (AutoSeq1.list_extend_list_list_0 l a.toArray n b c.toArray k i (by rw[aB];lia) (by lia)) ⟨e,f,?_⟩
 refine⟨.non,_,I.KJ (its':=a++c) d e (by simp) (r.append m) ?_,rfl,q⟩;rw[bw];lia
def JV:V->List V->Hp->VK->Prop:=fun x vs H Q=>∃l xs i k y,x=.ref l/\vs=[.int i]/\H l=some (.lst xs)∧-(2^63)<=i/\i<2^63/\seqIndex? i xs.length=some k/\xs[k]? =some y/\Q y (upd H l (.lst (xs.eraseIdx k)))
theorem Kz:MtM X "list.pop" JV:=by
 intro D s J H x G v E Q I B p h;obtain⟨l,C,i,k,y,rfl,rfl,b,c,d,f,m,q⟩:=h;cases B;obtain⟨u,rfl,o⟩:=p.one;obtain⟨t,rfl⟩:=o;obtain⟨z,a,n,r,g,e⟩:=I.zT b;obtain⟨w,j,A⟩:=r.get m;refine kG F.slot_list_pop ⟨_,e,rfl⟩ F.entry_list_pop (F.args_list_pop_2 _ _)
  (MeetsSeq.list_pop_at l a.toArray n i t k w (fitsIndex_both c d) (by rw[aB,<-g];exact f) (by rw[<-Gw];exact j) (by rw[aB];lia)) ⟨e,?_⟩
 refine⟨y,_,I.KJ (its':=a.eraseIdx k) b e ?_ (r.eraseIdx k) ?_,A,q⟩;·show a.toArray.eraseIdxIfInBounds k=(a.eraseIdx k).toArray;rw[List.eraseIdxIfInBounds_toArray]
 ·have :=yk C k;lia
def Be:V->List V->Hp->VK->Prop:=fun x vs H Q=>∃l xs,x=.ref l/\vs=[]/\H l=some (.lst xs)/\Q .non (upd H l (.lst xs.reverse))
theorem DN:MtM X "list.reverse" Be:=by intro i s o H x k v j Q I f d h;obtain⟨l,m,rfl,rfl,a,q⟩:=h;cases f;have c:=d.zero;subst c;obtain⟨z,b,n,r,g,e⟩:=I.zT a;refine kG F.slot_list_reverse ⟨_,e,rfl⟩ F.entry_list_reverse (F.args_list_reverse_1 _) (AutoSeq1.list_reverse_list_0 l b.toArray n (by rw[aB];lia)) ⟨e,?_⟩;refine⟨.non,_,I.KJ (its':=b.reverse) a e (by simp) r.reverse ?_,rfl,q⟩;rw[List.length_reverse];lia
def JX:V->List V->Hp->VK->Prop:=fun x vs H Q=>∃l xs,x=.ref l/\vs=[]/\H l=some (.lst xs)/\Q .non (upd H l (.lst []))
theorem KA:MtM X "list.clear" JX:=by intro i s o H x k v j Q I f d h;obtain⟨l,m,rfl,rfl,a,q⟩:=h;cases f;have b:=d.zero;subst b;obtain⟨z,c,n,r,g,e⟩:=I.zT a;refine kG F.slot_list_clear ⟨_,e,rfl⟩ F.entry_list_clear (F.args_list_clear_1 _) (AutoSeq1.list_clear_list_0 l c.toArray n (by rw[aB];lia)) ⟨e,?_⟩;exact⟨.non,_,I.KJ (its':=[]) (ys:=[]) a e rfl .nil (aZ _),rfl,q⟩
def rCat:R2:=fun x y H Q=>∃l b xs zs,x=.ref l/\y=.ref b/\H l=some (.lst xs)/\H b=some (.lst zs)/\xs.length+zs.length<=sizeLine/\∀p,H p=none->Q (.ref p) (upd H p (.lst (xs++zs)))
theorem op_cat:OpR X (fN .Add) rCat:=by
 intro A s E H x y v u Q I k m h;obtain⟨l,b,B,D,rfl,rfl,i,g,t,q⟩:=h;cases k;cases m;obtain⟨z,a,n,r,o,e⟩:=I.zT i;obtain⟨C,c,w,j,p,d⟩:=I.zT g;refine PySem.P.add_list e d ?_ (by rw[aB,aB];lia);have f:a.toArray++c.toArray=(a++c).toArray:=by simp
 rw[f];exact⟨.ref _,_,I.lnew (t':=s.toks) (r.append j) (by rw[bw];lia),rfl,q _ I.fresh⟩
def rRep:R2:=fun x y H Q=>∃l k xs,x=.ref l/\y=.int k/\H l=some (.lst xs)∧-(2^63)<=k/\k<2^63/\xs.length*k.toNat<=sizeLine/\
 ∀p,H p=none->Q (.ref p) (upd H p (.lst (bp k.toNat xs).flatten))
theorem len_rep{a:Type}(xs:List a)(k:Nat):(bp k xs).flatten.length=k*xs.length:=by
 induction k with
 |zero=>simp
 |succ k ih=>rw[dN,jm,bw,ih,Nat.succ_mul,Nat.add_comm]
theorem op_rep:OpR X (fN .Mult) rRep:=by
 intro K s M H x y v u Q I E G h;obtain⟨l,k,L,rfl,rfl,o,i,j,f,q⟩:=h;cases E;obtain⟨t,rfl⟩:=G;obtain⟨z,b,n,r,A,e⟩:=I.zT o;have B:b.toArray.size*k.toNat<=sizeLine:=by rw[aB,<-A];exact f
 have p:¬b.toArray.size*k.toNat>(2^63-1)/8:=by
  have :(sizeLine:Nat)<=(2^63-1)/8:=by decide
  lia
 have w:¬(!Builtin.List.listFitsIndex k)=true:=by rw[fitsIndex_both i j];exact ao
 have C:¬gL (b.toArray.size*k.toNat)=true:=by rw[Bz B];exact ao
 have D:List.foldl (fun c d=>c++d) #[] (bp (if b.toArray.isEmpty=true then 0 else k.toNat) b.toArray)=(bp k.toNat b).flatten.toArray:=by
  have g:∀m:Nat,List.foldl (fun c d=>c++d) #[] (bp m b.toArray)=(bp m b).flatten.toArray:=fun m=>by have :=foldl_rep b m [];rw[List.nil_append]at this;exact this
  rw[g];cases b with
  |nil=>simp
  |cons a r'=>rw[if_neg (by simp)]
 refine wpAny_binaryOp_repeat_ref (T:="list") (U:="int") (by decide) ⟨_,e,rfl⟩ (fun J=>typeIs_int J k t) noFill_list_mul F.fills_int_mul F.slot_int_rmul repeat_list F.slot_int_index.lookup
  (kG F.slot_int_rmul (typeIs_int s k t) F.entry_int_rmul (F.args_int_rmul_2 _ _) (int___rmul___int_list k t l b.toArray n)
   ⟨e,rfl,⟨_,e,rfl⟩,kG F.slot_list_mul ⟨_,e,rfl⟩ F.entry_list_mul (F.args_list_mul_2 _ _) (AutoListH.list___mul___list_int_3 l b.toArray n k t w p C) ⟨e,?_⟩⟩)
 rw[D];exact⟨.ref _,_,I.lnew (t':=s.toks) (r.rep k.toNat) (by rw[len_rep,Nat.mul_comm];exact f),rfl,q _ I.fresh⟩
end
section
variable {κ:Type}[DecidableEq κ]
noncomputable def eH(kvs:List (κ×V))(k:κ):Option V:=(kvs.find? fun kv=>decide (kv.1=k)).map (·.2)
noncomputable def putK(kvs:List (κ×V))(k:κ)(v:V):List (κ×V):=
 if(kvs.any fun kv=>decide (kv.1=k))=true then kvs.map (fun kv=>if kv.1=k then(kv.1,v)else kv)else kvs++[(k,v)]
theorem gU{p:κ×V}{r:List (κ×V)}{k:κ}(e:p.1=k):eH (p::r) k=some p.2:=by simp[eH,iY,e]
theorem gV{p:κ×V}{r:List (κ×V)}{k:κ}(e:¬p.1=k):eH (p::r) k=eH r k:=by simp[eH,iY,e]
theorem j9(k:κ):∀kvs:List (κ×V),(kvs.any fun kv=>decide (kv.1=k))=(eH kvs k).isSome
 | []=>rfl
 |p::r=>by
  rw[C5];by_cases e:p.1=k;·simp only[gU e,decide_eq_true e,Bool.true_or,fW]
  ·rw[gV e,decide_eq_false e,bO];exact j9 k r
theorem AW(k j:κ)(y:V):∀kvs:List (κ×V),eH (kvs.map fun kv=>if kv.1=k then(kv.1,y)else kv) j=(eH kvs j).map fun x=>if j=k then y else x
 | []=>rfl
 |p::r=>by
  have a:=AW k j y r;rw[bR];by_cases h:p.1=k
  ·rw[if_pos h];by_cases e:p.1=j;·rw[gU (p:=(p.1,y)) e,gU e,jY,if_pos (e.symm.trans h)]
   ·rw[gV (p:=(p.1,y)) e,gV e,a]
  ·rw[if_neg h];by_cases e:p.1=j;·rw[gU (p:=p) e,gU e,jY,if_neg (fun z=>h (e.trans z))]
   ·rw[gV (p:=p) e,gV e,a]
theorem xS(k j:κ)(y:V):∀kvs:List (κ×V),eH kvs k=none->eH (kvs++[(k,y)]) j=if j=k then some y else eH kvs j
 | [],_=>by
  by_cases e:k=j;·rw[if_pos e.symm];exact gU (p:=(k,y)) e
  ·rw[if_neg (fun z=>e z.symm)];exact gV (p:=(k,y)) e
 |p::r,hn=>by
  rw[xp];have a:¬p.1=k:=fun z=>by rw[gU z]at hn;cases hn
  rw[gV a]at hn;have b:=xS k j y r hn;by_cases e:p.1=j;·rw[gU e,gU e,if_neg (fun z=>a (e.trans z))]
  ·rw[gV e,gV e,b]
theorem IV(b:List (κ×V))(k j:κ)(y:V):eH (putK b k y) j=if j=k then some y else eH b j:=by
 unfold putK;by_cases a:(b.any fun d=>decide (d.1=k))=true
 ·rw[if_pos a,AW];rw[j9]at a;by_cases e:j=k;·obtain⟨x,c⟩:=ck.mp a;rw[if_pos e,e,c,jY,if_pos rfl]
  ·rw[if_neg e];cases eH b j with
   |none=>rfl
   |some x=>rw[jY,if_neg e]
 ·rw[if_neg a];refine xS k j y b ?_;rw[j9]at a;cases q:eH b k with
  |none=>rfl
  |some x=>rw[q]at a;exact(a rfl).elim
theorem tR(a:List (κ×V))(k:κ)(v:V):(putK a k v).length<=a.length+1:=by
 unfold putK;split;·rw[ai];lia
 ·rw[bw,bG,pA];lia
theorem J0{a:List (κ×V)}{k:κ}(v:V)(h:eH a k=none):putK a k v=a++[(k,v)]:=by unfold putK;rw[j9,h];exact if_neg (by decide)
theorem tf.HB{o:Option V}{u:Option Value}(r:tf o u):o.isSome=u.isSome:=by
 cases o with
 |none=>cases u with
  |none=>rfl
  |some _=>exact(show False from r).elim
 |some _=>cases u with
  |none=>exact(show False from r).elim
  |some _=>rfl
end
theorem K1{k:Key}(r:RelV (kV k) u):(cw P w).is k u=true:=by
 cases k with
 |inl i=>obtain⟨t,e⟩:=(show ∃t,u=wW i t from r);subst e;exact ny P w i t
 |inr x=>obtain⟨t,e⟩:=(show ∃t,u=iZ x t from r);subst e;exact BF P w x t
theorem sO:∀{ks:List Key}{us:List Value},bM (ks.map kV) us->ItemsAre (cw P w) ks us
 | [],_,r=>by rw[o8]at r;cases r;exact .nil
 |k::ks,_,r=>by
  rw[bR]at r;cases r with
  |cons h t=>exact .cons (K1 h) (sO t)
noncomputable abbrev KT(H:Hp):List (List Key×V)->List (List Key×Addr×Value)->Prop:=Paired fun p q=>p.1=q.1/\H q.2.1=some (.tup (p.1.map kV))/\RelV p.2 q.2.2
theorem KT.val{d:List (List Key×V)}{xs:List (List Key×Addr×Value)}(r:KT H d xs)(k:List Key):tf (eH d k) ((atKey xs k).map (·.2)):=by
 induction r with
 |nil=>exact True.intro
 | @cons p q ps qs h t ih=>
  obtain⟨c,_,f⟩:=h;by_cases e:p.1=k
  ·have a:q.1=k:=c.symm.trans e;have b:atKey (q::qs) k=some q.2:=by simp[atKey,iY,a]
   rw[gU e,b];exact f
  ·have a:¬q.1=k:=fun z=>e (c.trans z);have b:atKey (q::qs) k=atKey qs k:=by simp[atKey,iY,a]
   rw[gV e,b];exact ih
theorem KT.repl{c:List (List Key×V)}{xs:List (List Key×Addr×Value)}(r:KT H c xs)(k:List Key)(f:RelV y u):
  KT H (c.map fun kv=>if kv.1=k then(kv.1,y)else kv) (xs.map (putAt k u)):=by
 induction r with
 |nil=>exact .nil
 | @cons p q ps qs h t ih=>
  rw[bR,bR];refine .cons ?_ ih;obtain⟨a,b,d⟩:=h;unfold putAt;by_cases e:p.1=k;·rw[if_pos e,if_pos (a.symm.trans e)];exact⟨a,b,f⟩
  ·rw[if_neg e,if_neg (fun z=>e (a.trans z))];exact⟨a,b,d⟩
theorem KT.put{a:List (List Key×V)}{xs:List (List Key×Addr×Value)}(r:KT H a xs)(k:List Key)(d:H b=some (.tup (k.map kV)))(c:RelV y u):
  KT H (putK a k y) (storedH xs k b u):=by
 have e:(a.any fun f=>decide (f.1=k))=(atKey xs k).isSome:=by rw[j9,(r.val k).HB,Option.isSome_map]
 unfold putK storedH;rw[e];by_cases q:(atKey xs k).isSome=true;·rw[if_pos q,if_pos q];exact r.repl k c
 ·rw[if_neg q,if_neg q];exact Paired.snoc r ⟨rfl,d,c⟩
theorem KT.keeps{a:List (List Key×V)}{xs:List (List Key×Addr×Value)}(r:KT H a xs)(c:∀b ys,H b=some (.tup ys)->H' b=some (.tup ys)):KT H' a xs:=
 Paired.jM r fun _ _ z=>⟨z.1,c _ _ z.2.1,z.2.2⟩
section
variable {P:Program}{w:World}{H:Hp}{h:Heap}{a:Addr}
theorem rd_of{u:HO}(ok:HOk P w H h)(e:Rd H a u):dU P w H h a u:=e.ok ok
theorem K0{ks:List Key}(ok:HOk P w H h)(e:H a=some (.tup (ks.map kV))):(qy (cw P w)).is h ks a:=by obtain⟨_,f,r,o,b,c,n,d⟩:=(show dU P w H h a (.tup (ks.map kV))from ok a _ e);exact⟨o,f.toArray,n,b,c,d,by simpa using sO r⟩
theorem dt_rd{b:List (List Key×V)}(ok:HOk P w H h)(e:Rd H a (.dT b)):b.length<=sizeLine/\(a==gG)=false/\
  ∃xs,KT H b xs/\h.DictOfH (qy (cw P w)) a xs:=by
 obtain⟨z,y,xs,r,o,d,c,f,g,i,j,k⟩:=(show dU P w H h a (.dT b)from rd_of ok e);refine⟨z,y,xs,r,o,d,c,f,g,i,j,fun x hx=>?_,k⟩;have all:∀{l:List (List Key×V)}{m:List (List Key×Addr×Value)},KT H l m->∀x∈m,(qy (cw P w)).is h x.1 x.2.1:=by
  intro l m q
  induction q with
  |nil=>intro x hx;exact nomatch hx
  | @cons p q ps qs hq t ih=>
   intro x hx;rcases aH.mp hx with e|hx;·subst e;exact K0 ok (by rw[<-hq.1];exact hq.2.1)
   ·exact ih x hx
 exact all r x hx
theorem Lu{b:List (List Key×V)}(ok:HOk P w H h)(e:H a=some (.dT b)):b.length<=sizeLine/\(a==gG)=false/\
  ∃xs,KT H b xs/\h.DictOfH (qy (cw P w)) a xs:=dt_rd ok (.inl e)
end
section
variable {X:Cx}{pins:List (Addr×Obj)}{σ:St}{H:Hp}{s:Shared}{a:Addr}{y v:V}{u r:Value}{o:Option V}{A:Around}{E:Value->Shared->Prop}
theorem Inv.big(I:Inv X pins σ H s):gG<s.heap.objs.size:=by have h:bF<s.heap.objs.size:=(I.mod.glob.keeps I.bk).lt;exact gf (by decide) h
theorem d_write{c:HO}(I:Inv X pins σ H s)(h:Mut (H a))(g:di a s.heap h')(f:∃q,h'.get? a=some q)(new:dU X.prog X.w (upd H a c) h' a c):
  Inv X pins σ (upd H a c) {s with heap:=h',toks:=t'}:=
 I.write (x:=a) (e:=a) h (.inl rfl) (fun b q d z=>(g.2 b d).trans z) f new
end
theorem Lv(h:Heap)(a:gG<h.objs.size):dU P w H (h.push {cls:=.type "dict",data:=.dict #[]}) h.objs.size (.dT []):=
 ⟨aZ _,beq_eq_false_iff_ne.mpr (bA (aK a)),[],.nil,_,#[],0,ay _ rfl,⟨rfl,rfl,rfl⟩,rfl,rfl,jk⟩
def tDNewK:TE:=fun _ H Q=>∀p,H p=none->Q (.ref p) (upd H p (.dK []))
def Jj:TE:=fun _ H Q=>∀p,H p=none->Q (.ref p) (upd H p (.dT []))
section
variable {X:Cx}{pos:Pos}
theorem Kf:PE X (.Dict [] [] pos) Jj:=fun b s c H Q I h=>
 wpAny_Dict_empty ⟨.ref s.heap.objs.size,_,I.laid (a:=s.heap.objs.size) (o:=.dT []) (t':=s.toks) (fun _ _ q=>ag _ q) (az _) (Lv s.heap I.big),rfl,h _ (I.hok.fresh (az _))⟩
end
noncomputable def Dj:List (TE×TE)->St->Hp->(List (V×V)->Hp->Prop)->Prop
 | [],_,H,Q=>Q [] H
 | (tk,tv)::r,σ,H,Q=>tk σ H fun x H1=>tv σ H1 fun y H2=>Dj r σ H2 fun ps a=>Q ((x,y)::ps) a
noncomputable abbrev VV:List (V×V)->List (Value×Value)->Prop:=Paired fun p q=>RelV p.1 q.1/\RelV p.2 q.2
def PPs(X:Cx)(pos:Pos)(a:List (Option Expr))(b:List Expr)(trs:List (TE×TE)):Prop:=
 ∀(pins:List (Addr×Obj))(s:Shared)(σ:St)(H:Hp)(Q:List (V×V)->Hp->Prop),Inv X pins σ H s->Dj trs σ H Q->
  wpAny (model X.prog X.w) X.A (evalPairs (pairTrees a b X.env pos)) (fun vs s'=>∃ps H',Inv X pins σ H' s'/\VV ps vs/\Q ps H') X.xe s
theorem pps_nil:PPs X pos [] [] []:=fun a s b H Q I h=>pairTrees_nil_walk ⟨[],H,I,.nil,h⟩
theorem J4{k v:Expr}{ks:List (Option Expr)}{vs:List Expr}{tk c:TE}{trs:List (TE×TE)}(l:PE X k tk)(n:PE X v c)(m:PPs X pos ks vs trs):
  PPs X pos (some k::ks) (v::vs) ((tk,c)::trs):=fun a s b H Q I h=>
 pairTrees_cons_walk (thn (l a s b H _ I h) fun u A ⟨x,d,g,w,p⟩=>thn (n a A b d _ g p) fun D B ⟨y,e,i,z,q⟩=>
  thn (m a B b e _ i q) fun E C ⟨o,f,j,t,r⟩=>⟨(x,y)::o,f,j,.cons ⟨w,z⟩ t,r⟩)
noncomputable def mergeK(kvs more:List (Key×V)):List (Key×V):=more.foldl (fun acc kv=>putK acc kv.1 kv.2) kvs
def tDisp(trs:List (TE×TE)):TE:=fun σ H Q=>∀p,H p=none->Dj trs σ (upd H p (.dK [])) fun ps H2=>H2 p=some (.dK [])/\∃kvs:List (Key×V),ps=kvs.map (fun kv=>(kV kv.1,kv.2))/\kvs.length<=15/\Q (.ref p) (upd H2 p (.dK (mergeK [] kvs)))
end L2
namespace Att
open PySem PySem.W PySem.Calls PyProof.Rows
theorem uy{P:Params}:∀(ns:List Int)(vs:List Value),WellAll P h vs (ns.map WData.int)->bZ vs ns:=by
 intro ns
 induction ns with
 |nil=>intro vs w;rw[o8]at w;cases w;exact .nil
 |cons n ns ih=>
  intro vs w;rw[bR]at w;cases w with
  |cons a b=>cases a;exact .cons _ _ (ih _ b)
theorem GY{l:OpenLaw}(m:l.most=some n){P:Params}{args:List WData}{vals:List Value}
  (f:l.row.toRowW.claim.pre args=true)(p:WellAll P h vals args):
  ∃a vs ns,vals=[bB a]/\args=[WData.list (ns.map WData.int)]/\h.get? a=some {cls:=.type "list",data:=.seq vs.toArray}/\bZ vs ns/\ns.length<=n:=by
 have o:WShape.hasAll [] args [.list .int]=true:=(pre_splitW f).1;have e:l.pre.holds [] {args:=args}=true:=(pre_splitW f).2;obtain⟨d,r,rfl,g,i⟩:=hasAllW_cons o;obtain rfl:=hasAllW_nil i;obtain⟨t,rfl,j⟩:=hasW_list g;obtain⟨ns,rfl⟩:=items_int j;have k:ns.length<=n:=by
  unfold OpenLaw.pre at e;have b:(WTm.not (.lt (.lit (.int (n:Int))) (.len (.arg 0)))).holds [] {args:=[.list (ns.map .int)]}=true:=by have b:=(holds_andW e).1;rw[m]at b;exact b
  have c:=condW_of b (w_not (w_lt w_lit (w_len_list (w_arg rfl))));rw[ai]at c;refine fT fun q=>?_;have s:(n:Int)<((ns.length:Nat):Int):=by lia
  first
   | (rw[decide_eq_true s]at c;exact absurd c (by decide))
   | (simp at c;lia)
 cases p with
 |cons w1 w2=>
  cases w2;cases w1 with
  |list ho hall=>exact⟨_,_,ns,rfl,rfl,ho,uy ns _ hall,k⟩
theorem G9(l:OpenLaw)(args:List WData):l.row.toRowW.claim.post args (.bool true) args=true:=
 postW_of (r:=l.row.toRowW) (X:=(true==true))
  (show WShape.has [] (.bool true) .bool=true by first |rfl|decide|simp[WShape.has,WShape.arms,WShape.armsAll])
  (show(WTm.eq .res (.lit (.bool true))).value [] {args:=args,res:=some (.bool true),after:=args}=some (.bool (true==true))from w_eq_bool (w_res rfl) w_lit) rfl
theorem Cu{l:OpenLaw}{q:Program}{XP:(Str->Option Value)->Heap->Prop}{YP:World->Heap->Prop}{d:DefRec}
  (y:l.most=some n)(p:d.params.defaults=[])
  (call:∀(w:World)(c b:Shared)(mg mb:Str->Option Value)(fa:Addr)(o:Obj)(pm cd doc:Value)(a:Addr)(vs:List Value)(ns:List Int),
   Ground q loose [] XP w c mg mb b.heap->YP w b.heap->
   b.heap.get? fa=some o->o.data=.func (docDef d.name d.params d.body d.scope pm cd doc)->b.heap.CodeRec cd d.name->mg d.name=some (.ref fa)->
   b.heap.get? a=some {cls:=.type "list",data:=.seq vs.toArray}->bZ vs ns->ns.length<=n->b.gens= #[]->
   gH (model l.prog w) Gf (.call (.ref fa) ⟨[.ref a],[]⟩) (fun r s'=>r=.ok (.ret (.bool true))/\OldK b.heap s'.heap/\s'.os=b.os/\ph s'.gens) b):
  WalkO q loose XP YP l.row.toRowW d [] (fun f vs=>PySem.call f vs):=by
 intro w c b mg mb G Y fa o pm cd doc g kV z m k e x s D vals E B F I C H;obtain rfl:g=.none:=Dflts.none e p;obtain rfl:kV=.none:=Dflts.noKw e;obtain⟨a,vs,ns,rfl,rfl,A,t,u⟩:=GY y B C;refine enter_call (jT (call w c b mg mb fa o pm cd doc a vs ns G Y z (fd_plain m) k x A t u s) fun r s' hq=>?_);obtain⟨rfl,h,i,j⟩:=hq;exact⟨.inl ⟨.bool true,.bool true,[],rfl,fun _=>rfl,.bool true,G9 l _,fun _=>⟨j6,fun _ v=>(nomatch v)⟩⟩,h,i,j⟩
end Att
namespace L2
open PySem PySem.Spec PyProof.Rows
theorem sx:∀{vs:List Value}{ns:List Int},bZ vs ns->bM (ns.map V.int) vs
 |_,_,.nil=>.nil
 |_,_,.cons n t h=>.cons ⟨t,rfl⟩ (sx h)
noncomputable abbrev KOf{K:ah}{h:Heap}(_:K.In h):ah:=K
noncomputable abbrev CX0:CXT:=fun _ _ _ _ _ _=>False
noncomputable abbrev E0:XK:=fun _ _ _=>False
structure Fun(K:ah)(x qual:Str)(st:Stmt)(f:Addr)(fd:fh):Prop where
 ex:∃(oc:Value)(od:Option Addr)(kV doc pm:Value)(an:Option Addr)(cdv ct:Value)(osl:Array (Option Value)),
  fd=aD x qual (bh st) (aX st) (aO st) .none kV doc pm an cdv ct/\K.lookup f=some ⟨oc,od,.func fd,osl⟩/\eO K cdv qual=true
 kp:cL K (.ref f)=true
section
variable {P:Program}{w:World}{K:ah}{mg:Str->Option Value}{base:Heap}
theorem Fun.binds{st:Stmt}{a:fh}(F:Fun K x qual st f a)
  (h:∀(kV doc pm:Value)(an:Option Addr)(cdv ct:Value)(us:List Value),us.length=ps.length->qB (aD x qual (bh st) (aX st) (aO st) .none kV doc pm an cdv ct) ⟨us,[]⟩=pure (ps.zip us)):Binds K a ps []:=by
 obtain⟨d,e,kV,doc,pm,an,cdv,ct,g,rfl,c,b⟩:=F.ex;exact .all (h kV doc pm an cdv ct)
theorem D9{st:Stmt}{an:Option Addr}{kV:Value}(l:K.lookup f=some ⟨oc,od,.func (aD x qual (bh st) (aX st) (aO st) .none kV doc pm an cdv ct),osl⟩)
  (c:eO K cdv qual=true)(k:cL K (.ref f)=true):Fun K x qual st f (aD x qual (bh st) (aX st) (aO st) .none kV doc pm an cdv ct):=⟨⟨oc,od,kV,doc,pm,an,cdv,ct,osl,rfl,l,c⟩,k⟩
end
def aQ(H H':Hp):Prop:=∀b o,H b=some o->H' b=some o
theorem aQ.refl(H:Hp):aQ H H:=fun _ _ h=>h
theorem aQ.trans{d:Hp}(a:aQ H H1)(b:aQ H1 d):aQ H d:=fun c o h=>b c o (a c o h)
theorem aQ.free(e:aQ H H')(h:H' l=Option.none):H l=Option.none:=by
 cases q:H l with
 |none=>rfl
 |some o=>rw[e l o q]at h;cases h
theorem aQ.seq(e:aQ H H')(h:SqL K H a xs):SqL K H' a xs:=by
 rcases h with(h|⟨o,h⟩) |h;·exact .inl (.inl (e _ _ h))
 ·exact .inl (.inr ⟨o,e _ _ h⟩)
 ·exact .inr h
section
variable {κ:Type}[DecidableEq κ]
theorem AV{a:List (κ×V)}{k:κ}(h:eH a k=none):¬k∈a.map (·.1):=by intro m;obtain⟨p,hp,e⟩:=aF.mp m;have q:(a.any fun b=>decide (b.1=k))=true:=cB.mpr ⟨p,hp,decide_eq_true e⟩;rw[j9,h]at q;exact absurd q (by simp)
theorem valV_in{a:List (κ×V)}{k:κ}{v:V}(h:eH a k=some v):k∈a.map (·.1):=by
 have q:(a.any fun b=>decide (b.1=k))=true:=by rw[j9,h];all_goals rfl
 obtain⟨p,hp,e⟩:=cB.mp q;exact aF.mpr ⟨p,hp,of_decide_eq_true e⟩
theorem Fj:∀{l:List κ}{k:κ},l.Nodup->¬k∈l->(l++[k]).Nodup
 | [],k,_,_=>by simp
 |a::r,k,h,hk=>by
  obtain⟨b,c⟩:=bP.mp h;show(a::(r++[k])).Nodup;refine bP.mpr ⟨fun m=>?_,Fj c fun m=>hk (aH.mpr (Or.inr m))⟩;rcases dh.mp m with q|q;·exact b q
  ·exact hk (aH.mpr (Or.inl (bg.mp q).symm))
theorem nd_putK{a:List (κ×V)}{k:κ}(v:V)(b:(a.map (·.1)).Nodup)(h:eH a k=none):((putK a k v).map (·.1)).Nodup:=by rw[J0 v h,dQ];exact Fj b (AV h)
end
noncomputable def fK(cells:List (Str×Addr)):List (Str×eD)->List (Str×Addr)->List (Str×Addr)
 | [],acc=>acc
 | (n,k)::r,acc=>fK cells r (if k=.free then(n,(cells.lookup n).getD 0)::acc else acc)
theorem qt{env:Env}{f:Str×eD->List (Str×Addr)->Sem (ForInStep (List (Str×Addr)))}
  (hf:∀n k a c,k=.free->env.cells.lookup n=some c->f (n,k) a=pure (.yield ((n,c)::a)))(b:∀n k a,k≠.free->f (n,k) a=pure (.yield a)):
  ∀(g:List (Str×eD))(acc:List (Str×Addr)),(∀y∈g,y.2=.free->∃c,env.cells.lookup y.1=some c)->forIn g acc f=(pure (fK env.cells g acc):Sem _)
 | [],acc,_=>rfl
 | (n,k)::r,acc,h=>by
  rw[List.forIn_cons];by_cases e:k=.free;·obtain⟨c,i⟩:=h (n,k) aL e;rw[hf n k acc c e i];show forIn r ((n,c)::acc) f=_;rw[qt hf b r _ fun y d=>h y (aJ _ d)];simp[fK,e,i]
  ·rw[b n k acc e];show forIn r acc f=_;rw[qt hf b r _ fun y d=>h y (aJ _ d)];simp[fK,e]
theorem xJ{env:Env}(h:∀y∈scope.names,y.2=.free->∃c,env.cells.lookup y.1=some c):Iz scope env=pure (fK env.cells scope.names []):=by
 have q:=qt (env:=env) (f:=fun x b=>match x with | (name,kind)=>if(kind==bU)=true then(do let a<-cellOf env name;pure (ip ((name,a)::b)))else pure (ip b))
  (fun n k a c e g=>by
   subst e;simp only[cellOf,g];rfl) (fun n k a e=>by
   have d:(k==bU)=false:=by simpa using e
   simp only[d,aW,if_false]) scope.names [] h
 unfold Iz;show(forIn scope.names [] _>>=fun r=>pure r)=_;exact(congrArg (·>>=fun r=>pure r) q).trans rfl
theorem lb{cells:List (Str×Addr)}:∀(a:List (Str×eD))(acc:List (Str×Addr))(x:Str)(c:Addr),(fK cells a acc).lookup x=some c->
  ((x,bU)∈a/\c=(cells.lookup x).getD 0)\/acc.lookup x=some c
 | [],acc,x,c,h=>.inr h
 | (n,k)::r,acc,x,c,h=>by
  rcases lb r _ x c h with⟨q,e⟩ |q;·exact .inl ⟨aJ _ q,e⟩
  ·by_cases e:k=.free
   ·rw[if_pos e,a6]at q;cases hx:x==n with
    |true=>
     rw[hx]at q;have b:x=n:=by simpa using hx
     subst b;subst e;exact .inl ⟨aL,(bj q).symm⟩
    |false=>rw[hx]at q;exact .inr q
   ·rw[if_neg e]at q;exact .inr q
theorem wF{cells:List (Str×Addr)}:∀(a:List (Str×eD))(acc:List (Str×Addr))(x:Str),(acc.lookup x).isSome=true->((fK cells a acc).lookup x).isSome=true
 | [],acc,x,h=>h
 | (n,k)::r,acc,x,h=>by
  refine wF r _ x ?_;split;·rw[a6];cases x==n<;>simp_all
  ·exact h
theorem qu{cells:List (Str×Addr)}:∀(a:List (Str×eD))(acc:List (Str×Addr))(x:Str),(x,bU)∈a->((fK cells a acc).lookup x).isSome=true
 | [],acc,x,h=>by simp at h
 | (n,k)::r,acc,x,h=>by
  rcases aH.mp h with q|q;·cases q;refine wF r _ n ?_;simp[a6]
  ·exact qu r _ x q
theorem fV:∀(a:List (Str×eD))(n:Nat)(acc:List (Str×Addr)),cG n a acc=cG n a []++acc
 | [],_,_=>rfl
 | (x,k)::r,n,acc=>by
  unfold cG;split;·rw[fV r (n+1) ((x,n)::acc),fV r (n+1) [(x,n)],mJ];rfl
  ·exact fV r n acc
theorem lh:∀(a:List (Str×eD))(n:Nat)(acc:List (Str×Addr))(x:Str),(acc.lookup x).isSome=true->((cG n a acc).lookup x).isSome=true
 | [],_,_,_,h=>h
 | (y,k)::r,n,acc,x,h=>by
  unfold cG;split;·refine lh r _ _ x ?_;rw[a6];cases x==y<;>simp_all
  ·exact lh r _ _ x h
theorem jj:∀(a:List (Str×eD))(n:Nat)(acc:List (Str×Addr))(x:Str),(x,cQ)∈a->((cG n a acc).lookup x).isSome=true
 | [],_,_,_,h=>nomatch h
 | (y,k)::r,n,acc,x,h=>by
  unfold cG;rcases aH.mp h with q|q;·cases q;rw[if_pos (by rfl)];refine lh r _ _ _ ?_;simp[a6]
  ·split;·exact jj r _ _ x q
   ·exact jj r _ _ x q
theorem lg:∀(a:List (Str×eD))(n:Nat)(acc:List (Str×Addr))(x:Str)(c:Addr),(x,c)∈cG n a acc->(x,cQ)∈a\/(x,c)∈acc
 | [],_,_,_,_,h=>.inr h
 | (y,k)::r,n,acc,x,c,h=>by
  unfold cG at h;split at h
  ·rename_i hk;rcases lg r _ _ x c h with q|q;·exact .inl (aJ _ q)
   ·rcases aH.mp q with e|e
    ·cases e;have :k=.cell:=by simpa using hk
     subst this;exact .inl aL
    ·exact .inr e
  ·rcases lg r _ _ x c h with q|q;·exact .inl (aJ _ q)
   ·exact .inr q
theorem Ec{M:Model}{d:Addr}{b:List (Str×Addr)}{c:Value}{outer:Env}{a:Addr}{Q:Env->Shared->Prop}
  (h:Q (newEnv scope s.heap.objs.size d (cG (s.heap.objs.size+1) scope.names b) qual func c (some outer) a) {s with heap:=pushCells (s.heap.push {cls:=.type "dict",data:=.dict #[]}) scope.names}):
  wpAny M A (newFunctionEnv scope d b [] qual func c (some outer) a) Q E s:=by
 simp only[newFunctionEnv,fW,if_true];refine af (wpAny_alloc ?_);refine af (wpAny_layCells _ (fun name kind e=>by cases hkc:kind==cQ<;>simp[hkc]) _ _ _ _ ?_);rw[show({s with heap:=s.heap.push {cls:=.type "dict",data:=.dict #[]}}:Shared).heap.objs.size=s.heap.objs.size+1 from bE ..];rw[AQ];exact af (aj (aj h))
structure oU(X:Cx)(N':List Str)(sc:Scope):Prop where
 kind:sc.kind=.function
 cellk:∀y∈sc.names,y.2=.cell->sc.names.lookup y.1=some .cell
 own:∀y∈sc.names,y.2=.local->sc.names.lookup y.1=some .local
 free:∀y∈sc.names,y.2=.free->X.env.kindOf y.1=some .cell\/X.env.kindOf y.1=some .free
noncomputable def d5(X:Cx)(N':List Str)(sc:Scope)(C:Addr)(s₀:Shared)(H₀:Hp)(fp:List Addr):Cx:=
 {X with N:=N',s₀:=s₀,H₀:=H₀,env:=compEnvC sc (cG (C+1) sc.names (fK X.env.cells sc.names [])) C X.env,outer:=X.stack,stack:=X.stack,ex:=fp,fn:=fun x=>sc.names.any fun y=>decide (y.1=x)&&decide (y.2=.cell),pn:=[],xe:=fun _ _=>False}
theorem ng{env:Env}:∀{a:List (Str×eD)}{x:Str}{k:eD},
  (a.map fun(n,k)=>if(k==bU&&env.scope.kind== .function&&env.kindOf n==some .cell)then(n,cQ)else(n,k)).lookup x=some k->
  a.lookup x=some k\/(a.lookup x=some .free/\k=.cell)
 | [],_,_,h=>by simp at h
 | (n,k)::r,x,k',h=>by
  have b:= @ng env r x k';rw[bR]at h;change cU x ((if(k==bU&&env.scope.kind== .function&&env.kindOf n==some .cell)=true then(n,cQ)else(n,k))::_)=_ at h;cases hx:x==n with
  |true=>
   by_cases hc:(k==bU&&env.scope.kind== .function&&env.kindOf n==some .cell)=true
   ·rw[if_pos hc]at h;simp only[a6,hx]at h⊢;have :k=.free:=by have :=hc;simp only[aE]at this;simpa using this.1.1
    subst this;exact .inr ⟨rfl,(bj h).symm⟩
   ·rw[if_neg hc]at h;simp only[a6,hx]at h⊢;exact .inl h
  |false=>
   have e:cU x (r.map fun(n,k)=>if(k==bU&&env.scope.kind== .function&&env.kindOf n==some .cell)then(n,cQ)else(n,k))=some k':=by split at h<;>simpa only[a6,hx]using h
   simp only[a6,hx];exact b e
theorem gM{env:Env}:∀{a:List (Str×eD)}{x:Str},a.lookup x=some .free->
  (a.map fun(n,k)=>if(k==bU&&env.scope.kind== .function&&env.kindOf n==some .cell)then(n,cQ)else(n,k)).lookup x=some .free\/
  (a.map fun(n,k)=>if(k==bU&&env.scope.kind== .function&&env.kindOf n==some .cell)then(n,cQ)else(n,k)).lookup x=some .cell
 | [],_,h=>by simp at h
 | (n,k)::r,x,h=>by
  have b:= @gM env r x;rw[bR];change cU x ((if(k==bU&&env.scope.kind== .function&&env.kindOf n==some .cell)=true then(n,cQ)else(n,k))::_)=_\/cU x ((if(k==bU&&env.scope.kind== .function&&env.kindOf n==some .cell)=true then(n,cQ)else(n,k))::_)=_;cases hx:x==n with
  |true=>
   simp only[a6,hx]at h;cases h;by_cases hc:(bU==bU&&env.scope.kind== .function&&env.kindOf n==some .cell)=true;·rw[if_pos hc];right;simp only[a6,hx]
   ·rw[if_neg hc];left;simp only[a6,hx]
  |false=>simp only[a6,hx]at h;split <;>simpa only[a6,hx]using b h
theorem gw{env:Env}:∀{a:List (Str×eD)}{x:Str}{k:Option eD},a.lookup x=k->k≠some .free->
  (a.map fun(n,k)=>if(k==bU&&env.scope.kind== .function&&env.kindOf n==some .cell)then(n,cQ)else(n,k)).lookup x=k
 | [],_,_,h,_=>by simpa using h
 | (n,k)::r,x,k',h,hf=>by
  have d:= @gw env r x k';rw[bR];change cU x ((if(k==bU&&env.scope.kind== .function&&env.kindOf n==some .cell)=true then(n,cQ)else(n,k))::_)=_;cases hx:x==n with
  |true=>
   simp only[a6,hx]at h;have c:k≠.free:=fun e=>hf (by rw[<-h,e]);have b:(k==bU)=false:=by simpa using c
   rw[if_neg (by rw[b];simp)];simp only[a6,hx];exact h
  |false=>simp only[a6,hx]at h;split <;>simpa only[a6,hx]using d h hf
theorem yo{a:List (Str×Addr)}{env:Env}{k:eD}(h:(compEnvC sc a C env).kindOf x=some k):sc.names.lookup x=some k\/(sc.names.lookup x=some .free/\k=.cell):=ng (env:=env) h
theorem Eh{R:Result->Shared->Prop}{f d:Expr}{g:List Expr}{b e:Value}{env:Env}(I:Nat->Shared->Prop)
  (turn:∀n s,I n s->wpAny (model prog w) A (pyNext b) (fun r i=>match r with
   |none=>R (.ok .next) i
   |some v=>wpAny (model prog w) A (si d b v) (fun _ o=>wpAny (model prog w) A (assign d env v) (fun _ p=>
     wpAny (model prog w) A (forIn g true fun c r=>if r=true then do let ok<-isTrue c env (eval c env);pure (ip ok)else pure (ip r)) (fun ok j=>
      if ok=true then wpAny (model prog w) A (eval f env) (fun x q=>
       wpAny (model prog w) A (call (.builtin "list.append") [e,x]) (fun _ t=>∃m,m<n/\I m t) (fun _ _=>False) q) (fun _ _=>False) j
      else ∃m,m<n/\I m j) (fun _ _=>False) p) (fun _ _=>False) o) (fun _ _=>False) i) (fun _ _=>False) s)
  (n:Nat) (h:I n s):
  gH (model prog w) A (.compLoop (.ListComp f [⟨d,iter,g,0⟩] scope pos) 0 b e env) R s:=by
 refine codeAny_loop rfl I (fun n s u=>?_) n h;show wpAny _ A ((compTurn (.ListComp f [⟨d,iter,g,0⟩] scope pos) 0 b e env).onRaise (fun x=>do mW x env;theTreesLotGoes x)) _ _ s;refine wpAny_noted ?_;rw[compTurn_list];refine af (pq (af (cX (turn n s u) (fun r i k=>?_) fun _ _ a=>a.elim)));cases r with
 |none=>exact aj k
 |some v=>
  refine af (cX k (fun _ o y=>?_) fun _ _ a=>a.elim);refine af (cX y (fun _ p z=>af (cX z (fun ok j l=>?_) fun _ _ a=>a.elim)) fun _ _ a=>a.elim);cases ok with
  |false=>exact aj ⟨rfl,l⟩
  |true=>exact af (af (cX l (fun x q B=>af (cX B (fun _ t C=>aj (aj ⟨rfl,C⟩)) fun _ _ a=>a.elim)) fun _ _ a=>a.elim))
def PTs(X:Cx)(ifs:List Expr)(t:TT):Prop:=
 ∀(pins:List (Addr×Obj))(s:Shared)(σ:St)(H:Hp)(Q:Bool->Hp->Prop),Inv X pins σ H s->t σ H Q->
  wpAny (model X.prog X.w) X.A (forIn ifs true fun c r=>if r=true then do let ok<-isTrue c X.env (eval c X.env);pure (ip ok)else pure (ip r)) (TP X pins σ Q) X.xe s
def tYes:TT:=fun _ H Q=>Q true H
theorem pts_nil:PTs X [] tYes:=by intro a s b H Q I h;rw[AQ];exact aj ⟨H,I,h⟩
theorem pts_one{c:Expr}{t:TT}(h:PT X c t):PTs X [c] t:=by intro d s f H Q I a;rw[List.forIn_cons];simp only[if_true];refine af (af (thn (h d s f H Q I a) fun b e q=>?_));refine aj ?_;show wpAny _ _ (forIn ([]:List Expr) b _) _ _ e;rw[AQ];exact aj q
def xW(wi:TI)(g:TG)(tc:TT)(te:TE)(mk:St->St):TE:=fun σ H Q=>wi σ H fun J H1=>∃W:Nat->Nat->St->List V->Hp->Prop,(∃m,W 0 m (mk σ) [] H1)/\
 ∀i m h acc H2,W i m h acc H2->(J.stop i H2/\∀l,H2 l=none->Q (.ref l) (upd H2 l (.lst acc)))\/(J.go i H2/\∃N:St->List V->Hp->Prop,(∀j e H',N j e H'->∃f,f<m/\W (i+1) f j e H')/\
  ∀x c,J.yld i H2 x c->g x h c fun a k=>tc a k fun b d=>if b=true then te a d fun v n=>acc.length<sizeLine/\N a (acc++[v]) n else N a acc d)
theorem Inv.track{o:HO}(I:Inv X pins σ H s)(hf:r6 X pins H a)(new:dU X.prog X.w (upd H a o) s.heap a o):Inv X pins σ (upd H a o) s:=by
 obtain⟨g,h,r,i,j,k⟩:=hf;have :=I.step (g':=s.gens) (d':=s.drawn) (t':=s.toks) (h':=s.heap) (H':=upd H a o) (ch:=[a]) (fun b d=>by
   have e:b=a:=by simpa using d
   subst e;exact⟨i,h,j,k⟩)
  (fun b f _ _ _ q _=>q) (fun b f _ _ _ q _=>⟨f.slots,q⟩) (fun b f d q n=>by rw[aS (fun z=>d (by simp[z]))];exact n) (fun b f _ q=>⟨f,q⟩)
  (fun b p q=>by rw[aS (a9 q g)];exact q) (fun b f u q=>by rw[aS (a9 q g)];exact q) (fun b t q=>⟨#[],by rw[aS (a9 q g),q];simp⟩)
  (fun m l=>l) (fun b u q=>by
   by_cases d:b=a;·subst d;rw[au]at q;cases q;exact new
   ·rw[aS d]at q;exact(I.hok b u q).lE (fun c v _ e=>e) (fun c e=>by rw[aS (a9 e g)];exact e) fun c p e=>by rw[aS (a9 e g)];exact e) I.bare
 exact this
theorem Es{Q:Value->Shared->Prop}(I:Inv X pins σ H s)(hf:r6 X pins H a)
  (e:s.heap.get? a=some {cls:=.type "list",data:=.seq its.toArray n}) (hz:its.length<sizeLine)
  (h:∀h' m,Inv X pins σ H {s with heap:=h'}->h'.get? a=some {cls:=.type "list",data:=.seq (its++[u]).toArray m}->(∀b o,b≠a->s.heap.get? b=some o->h'.get? b=some o)->Q .none {s with heap:=h'}):
  wpAny (model X.prog X.w) X.A (call (.builtin "list.append") [.ref a,u]) Q E s:=by
 refine kG F.slot_list_append ⟨_,e,rfl⟩ F.entry_list_append (F.args_list_append_2 _ _) (PySem.list_append a its.toArray n u (by rw[aB];lia)) ⟨e,?_⟩;have q:=IB e (·.push u);have c:its.toArray.push u=(its++[u]).toArray:=by simp
 rw[c]at q;have k:∀b o,b≠a->s.heap.get? b=some o->(s.heap.update a (a8 (·.push u))).get? b=some o:=fun b o l z=>(aR s.heap _ (bA l)).trans z;obtain⟨d,f,p,g,i,j⟩:=hf;exact h _ _ (I.turned (t':=s.toks) k d f g i j) q k
section
variable {X:Cx}{N':List Str}{sc:Scope}{elt tg iter:Expr}{ifs:List Expr}{pos:Pos}{wi:TI}{g:TG}{tc:TT}{te:TE}{mk:St->St}
def MkOk(X:Cx)(N':List Str)(sc:Scope)(mk:St->St):Prop:=
 ∀σ:St,σ.length=X.N.length->(mk σ).length=N'.length/\∀(i:Nat)(x:Str)(v:V),N'[i]? =some x->(mk σ)[i]? =some (some v)->sc.names.lookup x=some .free/\∃j:Nat,X.N[j]? =some x/\σ[j]? =some (some v)
theorem yx{Q:VK}{use:Option (Value->Sem Unit)}(S:oU X N' sc)(hm:MkOk X N' sc mk)(hc:X.calm=true)
  (hi:PI X tg iter wi)
  (a:∀C a5 a2 fp,(d5 X N' sc C a5 a2 fp).Ok->PG (d5 X N' sc C a5 a2 fp) tg g/\PTs (d5 X N' sc C a5 a2 fp) ifs tc/\PE (d5 X N' sc C a5 a2 fp) elt te)
  (hs:∀x,jS iter X.env x=pure x)(I:Inv X pins σ H s)(h:xW wi g tc te mk σ H Q)
  (e9:∀(l C:Addr)(H':Hp)(s':Shared)(m:Str->Option Value),Inv X pins σ H' s'->s'.heap.Ns C m->r6 X pins H' C->(∃o,s'.heap.get? C=some o/\∀v,o.data≠.cell v)->Q (.ref l) H'->compPost (model X.prog X.w) X.A X.xe use QQ (.ref l) C (.ok .next) s'):
  wpAny (model X.prog X.w) X.A (comprehension (.ListComp elt [⟨tg,iter,ifs,0⟩] sc pos) sc X.env (firstIterPos [⟨tg,iter,ifs,0⟩] pos) (newList []) false (eval iter X.env) use) QQ X.xe s:=by
 have c5:∀y∈sc.names,y.2=.free->∃c,X.env.cells.lookup y.1=some c:=fun y hy hf=>I.ok.has _ (S.free y hy hf);refine wpAny_comprehension_free (use:=use) rfl hs (xJ c5) S.kind S.own ?_;refine thn (hi pins s σ H _ I h) fun v s1 Y=>thn Y fun h9 s2 Z=>?_;obtain⟨it,fp,tn,J,d,e,E,T,d4,V,e4,⟨m0,w0⟩,turn⟩:=Z;subst e
 --the list
 refine bW ?_;have f6:d s2.heap.objs.size=none:=E.fresh;have fD:r6 X pins d s2.heap.objs.size:=E.z7 (az _) f6;have c0:(s2.heap.push {cls:=.type "list",dict:=none,data:=.seq ([]:List Value).toArray}).get? s2.heap.objs.size=some {cls:=.type "list",data:=.seq ([]:List Value).toArray 0}:=ay _ rfl;have j:Inv X pins σ d {s2 with heap:=s2.heap.push {cls:=.type "list",dict:=none,data:=.seq ([]:List Value).toArray}}:=E.kept (t':=s2.toks) fun b o e=>ag _ e
 --the block's frame
 refine Ec ?_;dsimp only;have b4:(s2.heap.push {cls:=.type "list",dict:=none,data:=.seq ([]:List Value).toArray}).objs.size=s2.heap.objs.size+1:=bE ..;have c3:s2.heap.objs.size≠(s2.heap.push {cls:=.type "list",dict:=none,data:=.seq ([]:List Value).toArray}).objs.size:=by rw[b4];exact aK (eh _)
 have O:∀b o,s2.heap.get? b=some o->(s2.heap.push {cls:=.type "list",dict:=none,data:=.seq ([]:List Value).toArray}).get? b=some o:=fun b o e=>ag _ e;generalize hH3:s2.heap.push {cls:=.type "list",dict:=none,data:=.seq ([]:List Value).toArray}=P3 at j b4 c0 c3 O⊢;generalize hD:s2.heap.objs.size=D0 at *;have c6:(pushCells (P3.push {cls:=.type "dict",data:=.dict #[]}) sc.names).Ns P3.objs.size (fun _=>none):=(Heap.Ns.new P3 (.type "dict")).keeps (pushCells_keeps _ _);have P:∀b o,P3.get? b=some o->(pushCells (P3.push {cls:=.type "dict",data:=.dict #[]}) sc.names).get? b=some o:=fun b o e=>pushCells_keeps _ _ b o (ag _ e);have R:=cellsFrom_ok sc.names (P3.push {cls:=.type "dict",data:=.dict #[]}) (P3.objs.size+1) [] ⟨fun _ _ hm=>(nomatch hm),j6⟩ (by rw[bE];exact az _);rw[bE]at R;generalize pushCells (P3.push {cls:=.type "dict",data:=.dict #[]}) sc.names=h4 at c6 P R⊢
 --the context
 have c2:∀b∈fp,b<D0:=fun b a=>by obtain⟨o,e,_⟩:=T.obj _ _ d4 b a;rw[<-hD];exact aw e
 have a9:D0<P3.objs.size:=by rw[b4];exact eh _
 have A:∀x c,(fK X.env.cells sc.names []).lookup x=some c->X.env.cells.lookup x=some c/\(x,bU)∈sc.names:=fun x c e=>by
  rcases lb _ _ x c e with⟨q,e'⟩ |q;·obtain⟨M,a0⟩:=c5 _ q rfl;have f1:X.env.cells.lookup x=some M:=a0;rw[f1]at e'⊢;exact⟨by rw[e'];rfl,q⟩
  ·simp at q
 have b9:∀x c,(fK X.env.cells sc.names []).lookup x=some c->c<P3.objs.size:=fun x c e=>by obtain⟨v,o,f,_⟩:=j.cell x c (A x c e).1;exact aw f
 have N:∀x c,(cG (P3.objs.size+1) sc.names (fK X.env.cells sc.names [])).lookup x=some c->((x,c)∈cG (P3.objs.size+1) sc.names []/\P3.objs.size+1<=c/\h4.IsCell c none)\/(fK X.env.cells sc.names []).lookup x=some c:=fun x c e=>by
  rw[fV,uf]at e;cases f:(cG (P3.objs.size+1) sc.names []).lookup x with
  |none=>rw[f]at e;exact .inr e
  |some M=>rw[f]at e;cases e;have m:=bu f;exact .inl ⟨m,(R.empty x c m).2,(R.empty x c m).1⟩
 have b8:∀x,sc.names.lookup x=some .free->(cG (P3.objs.size+1) sc.names (fK X.env.cells sc.names [])).lookup x=(fK X.env.cells sc.names []).lookup x:=fun x hf=>by
  rw[fV,uf];cases f:(cG (P3.objs.size+1) sc.names []).lookup x with
  |none=>rfl
  |some M=>
   rcases lg _ _ _ _ _ (bu f)with q|q;·have :=S.cellk _ q rfl;rw[hf]at this;cases this
   ·cases q
 have F:∀b∈D0::fp,r6 X pins d b/\b<P3.objs.size:=fun b a=>by
  rcases aH.mp a with z|z;·rw[z];exact⟨fD,a9⟩
  ·exact⟨V b z,gf (c2 b z) a9⟩
 have ok:(d5 X N' sc P3.objs.size {s2 with heap:=P3} d (D0::fp)).Ok:=by
  refine⟨I.ok.mod,S.kind,I.ok.glob,I.ok.blt,az _,fun x y c Y Z=>?_,fun x hx=>?_,fun x c z=>?_,fun z=>I.ok.hd z,I.ok.frames,.inl rfl,fun b a=>⟨?_,fun x c e=>?_⟩,j.bs,aP I.ok.bsz j.sz,fun b o e a=>?_,fun b a z=>?_,j.stack,j.y6⟩
  ·rcases N x c Y with⟨m1,l1,_⟩ |q1<;>rcases N y c Z with⟨m2,l2,_⟩ |q2;·exact PySem.name_of_addr R.apart m1 m2
   ·exact absurd l1 (Nat.not_le.mpr (bL (b9 y c q2)))
   ·exact absurd l2 (Nat.not_le.mpr (bL (b9 x c q1)))
   ·exact I.ok.inj x y c (A x c q1).1 (A y c q2).1
  ·have q:sc.names.lookup x=some .free\/sc.names.lookup x=some .cell:=by
    rcases hx with hx|hx
    ·rcases yo hx with q|q;·exact .inr q
     ·exact .inl q.1
    ·rcases yo hx with q|q;·exact .inl q
     ·exact .inl q.1
   rcases q with q|q;·have Y:=ck.mp (qu (cells:=X.env.cells) _ [] _ (bu q));show ∃c,(cG (P3.objs.size+1) sc.names (fK X.env.cells sc.names [])).lookup x=some c;rw[b8 x q];exact Y
   ·exact ck.mp (jj _ _ _ _ (bu q))
  ·have z:(sc.names.any fun y=>decide (y.1=x)&&decide (y.2=cQ))=true:=z;obtain⟨y,hy,e⟩:=cB.mp z;rw[aE,decide_eq_true_eq,decide_eq_true_eq]at e;intro hc;rcases N x c hc with⟨_,l1,_⟩ |q1;·show P3.objs.size<=c;lia
   ·have hk:=S.cellk y hy e.2;rw[e.1]at hk;rcases lb _ _ x c q1 with⟨q,_⟩ |q
    ·have Z:(cG (P3.objs.size+1) sc.names []).lookup x≠none:=fun h=>by have :=jj sc.names (P3.objs.size+1) [] x (bu hk);rw[h]at this;cases this
     have a0:(cG (P3.objs.size+1) sc.names (fK X.env.cells sc.names [])).lookup x=some c:=hc;rw[fV,uf]at a0;cases f:(cG (P3.objs.size+1) sc.names []).lookup x with
     |none=>exact absurd f Z
     |some M=>rw[f]at a0;cases a0;have :=(R.empty x c (bu f)).2;show P3.objs.size<=c;lia
    ·cases q
  ·exact aK (F b a).2
  ·rcases N x c e with⟨_,l1,_⟩ |q1;·have :=(F b a).2;exact fun z=>by subst z;lia
   ·exact(F b a).1.2.2.2.2.1 x c (A x c q1).1
  ·rcases(F b a).1.2.2.2.1 with z|z;·exact I.ok.noex b o e z
   ·exact absurd (aT (aw e) (aP I.ok.bsz z)) (dJ _)
  ·rcases aH.mp (E.Dm b z)with q|q;·exact(F b a).1.2.1 q
   ·exact(F b a).1.2.2.1 q
 obtain⟨pg,pt,pe⟩:=a _ _ _ _ ok;have I4:Inv (d5 X N' sc P3.objs.size {s2 with heap:=P3} d (D0::fp)) [] (mk σ) d {s2 with heap:=h4}:=by
  obtain⟨ml,f7⟩:=hm σ I.len;have c9:∀x c v,X.env.cells.lookup x=some c->P3.IsCell c v->h4.IsCell c v:=fun x c v e ⟨o,f,hd⟩=>⟨o,P c o f,hd⟩;refine⟨ok,rfl,E.bare,Un.kept P,⟨_,c6,fun i x v e1 e2 e3=>?_⟩,fun x c e=>?_,j.hok.fresh (az _),fun x c e=>?_,fun p hp=>absurd (show p∈([]:List (Addr×Obj))from hp) (by simp),j.hok.kept P,ml⟩
  ·obtain⟨hf,f8,hj,hv⟩:=f7 i x v e1 e2;obtain⟨m,G,hl⟩:=j.loc;have kx:=S.free (x,.free) (bu hf) rfl;obtain⟨u,b3,l⟩:=hl f8 x v hj hv (by
    rcases kx with q|q;·exact .inr (.inl q)
    ·exact .inr (.inr q))
   refine⟨u,b3,.inr ⟨?_,?_⟩⟩
   ·rcases gM (env:=X.env) hf with q|q;·exact .inr q
    ·exact .inl q
   ·rcases l with⟨q,_⟩ |⟨_,c,c4,f5⟩;·have c8:X.env.kindOf x=some .cell\/X.env.kindOf x=some .free:=kx;rw[q]at c8;rcases c8 with z|z<;>cases z
    ·obtain⟨M,q⟩:=ck.mp (qu (cells:=X.env.cells) _ [] _ (bu hf));have :=(A x M q).1;rw[c4]at this;cases this;exact⟨c,by show(cG (P3.objs.size+1) sc.names (fK X.env.cells sc.names [])).lookup x=some c;rw[b8 x hf];exact q,c9 x c _ c4 f5⟩
  ·rcases N x c e with⟨_,_,hv⟩ |q1;·exact⟨none,hv⟩
   ·obtain⟨v,hv⟩:=j.cell x c (A x c q1).1;exact⟨v,c9 x c v (A x c q1).1 hv⟩
  ·rcases N x c e with⟨_,l1,_⟩ |q1;·exact j.hok.fresh (by show P3.objs.size<=c;lia)
   ·exact j.freeC x c (A x c q1).1
 have d7:tn 0 h4:=T.keep _ _ _ d4 fun b a o e=>P b o (O b o e);have f4:∀{H':Hp}{b:Addr},b∈D0::fp->H' b=none->r6 (d5 X N' sc P3.objs.size {s2 with heap:=P3} d (D0::fp)) [] H' b:=fun{H' b} a G=>
  ⟨G,(ok.exf b a).1,ok.exfs b a,.inl a,(ok.exf b a).2,fun p hp=>absurd (show p∈([]:List (Addr×Obj))from hp) (by simp)⟩
 have a3:∀{b:Addr},b∈fp->b∈D0::fp:=fun a=>aJ _ a;have nD:∀b∈fp,b≠D0:=fun b a=>aK (c2 b a)
 --the b2
 have b2:gH (model X.prog X.w) X.A (.compLoop (.ListComp elt [⟨tg,iter,ifs,0⟩] sc pos) 0 (.ref it) (.ref D0) (compEnvC sc (cG (P3.objs.size+1) sc.names (fK X.env.cells sc.names [])) P3.objs.size X.env))
   (compPost (model X.prog X.w) X.A X.xe use QQ (.ref D0) P3.objs.size) {s2 with heap:=h4}:=by
  refine Eh (fun n s'=>∃i B k H' r f9,Inv (d5 X N' sc P3.objs.size {s2 with heap:=P3} d (D0::fp)) [] B H' s'/\tn i s'.heap/\(∀b∈D0::fp,H' b=none)/\bM k r/\k.length<=sizeLine/\
    s'.heap.get? D0=some {cls:=.type "list",data:=.seq r.toArray f9}/\e4 i n B k H') ?_ m0
   ⟨0,mk σ,[],_,[],0,I4,d7,fun b a=>(F b a).1.1,.nil,aZ _,P _ _ c0,w0⟩
  rintro n t ⟨i,B,k,D,r,kk,I5,d8,W,a6,c7,e5,w5⟩;have b6:Inv (d5 X N' sc P3.objs.size {s2 with heap:=P3} d (D0::fp)) ([]++jA [D0] t.heap) B D t:=by
   refine I5.pinned (fun b a=>?_) (fun b a=>?_)
   ·have z:b=D0:=by simpa using a
    rw[z];exact f4 aL (W D0 aL)
   ·have z:b=D0:=by simpa using a
    rw[z];exact⟨_,e5,fun v z=>by cases z⟩
  obtain q|⟨go,NN,hN,step⟩:=turn i n B k D w5
  ·obtain⟨h3,q⟩:=q;refine thn (T.done (d5 X N' sc P3.objs.size {s2 with heap:=P3} d (D0::fp)) rfl rfl rfl hc i _ t B D (fun _ _=>False) b6 (fun b a=>?_) d8 h3) fun b3 K ⟨hr,b7⟩=>?_
   ·obtain⟨g0,g1,g2,g3,g4,_⟩:=f4 (a3 a) (W b (a3 a));refine⟨g0,g1,g2,g3,g4,fun p hp=>?_⟩;have b1:p∈jA [D0] t.heap:=by simpa[d5]using hp
    obtain⟨z,_⟩:=sJ b1;have z':p.1=D0:=by simpa using z
    rw[z'];exact(nD b a).symm
   subst hr;have L:=b7.iP;have e6:K.heap.get? D0=some {cls:=.type "list",data:=.seq r.toArray kk}:=(b7.pin (D0,_) (a7 _ (a7 _ (ja (by simp) e5)))).1
   --back in the context around
   have un:Un (frs X.stack) fp d D s2.heap K.heap:=by
    have u:=L.base;have nb:∀b o,s2.heap.get? b=some o->b∉fp->b∉D0::fp:=fun b o e a z=>by
     rcases aH.mp z with z|z;·exact absurd (aw e) (by rw[z,hD];exact dJ _)
     ·exact a z
    exact⟨fun b o e n a hx=>u.keep b o (O b o e) n a (nb b o e hx),fun b o e n a hx=>u.slot b o (O b o e) n a (nb b o e hx),fun b o e n hx=>u.free b o (O b o e) n (nb b o e hx),fun b o e hx=>u.there b o (O b o e) (nb b o e hx),u.tups,u.frzs,u.tbls⟩
   have I7:Inv X pins σ D K:=by obtain⟨hh,g6,d6,t6,g8⟩:=K;have eo:g8=s2.os:=L.os;subst eo;exact E.call (h':=hh) (g':=g6) (d':=d6) (t':=t6) (ch:=fp) un L.hok L.bare fun b a=>⟨(V b a).2.2.2.1,(V b a).2.1,(V b a).2.2.2.2.1,(V b a).2.2.2.2.2⟩
   have e8:r6 X pins D D0:=⟨W D0 aL,fD.2⟩;have I8:=I7.track (o:=.lst k) e8 (show dU X.prog X.w _ K.heap D0 (.lst k)from⟨c7,r,kk,a6,e6⟩);obtain⟨m,G,_⟩:=id L.loc;refine e9 _ P3.objs.size _ K m I8 G (E.z7 (by rw[hD];exact jx a9) (by rw[aS (bA c3)];exact L.free)) ?_ (q D0 (W D0 aL));obtain⟨o,es,ep,f,hd,_⟩:=G;exact⟨o,f,fun v z=>by rw[hd]at z;cases z⟩
  ·skip
   have c1:∀{H':Hp}{b:Addr},b∈fp->H' b=none->r6 (d5 X N' sc P3.objs.size {s2 with heap:=P3} d (D0::fp)) ([]++jA [D0] t.heap) H' b:=fun{H' b} a G=>by
    obtain⟨g0,g1,g2,g3,g4,_⟩:=f4 (H':=H') (a3 a) G;refine⟨g0,g1,g2,g3,g4,fun p hp=>?_⟩;have b1:p∈jA [D0] t.heap:=by simpa[d5]using hp
    obtain⟨z,_⟩:=sJ b1;have z':p.1=D0:=by simpa using z
    rw[z'];exact(nD b a).symm
   refine thn (T.item (d5 X N' sc P3.objs.size {s2 with heap:=P3} d (D0::fp)) rfl rfl rfl hc i _ t B D (fun _ _=>False) b6 (fun b a=>c1 a (W b (a3 a))) d8 go) fun b3 K ⟨u,hr,h6⟩=>?_;subst hr;refine thn h6 fun _ s7 ⟨x,H7,I7,r7,y7,a4,f0⟩=>?_;have e0:=I7.pinned (fun b a=>c1 a (f0 b a)) (T.obj _ _ a4);refine thn (pg _ s7 B H7 x u _ e0 r7 (step x H7 y7)) fun _ s8 ⟨U,H8,I8,q8⟩=>?_;refine thn (pt _ s8 U H8 _ I8 q8) fun b s9 ⟨H9,I9,q9⟩=>?_;have d0:∀{a1:St}{H':Hp}{s':Shared},Inv (d5 X N' sc P3.objs.size {s2 with heap:=P3} d (D0::fp)) ([]++jA [D0] t.heap++jA fp s7.heap) a1 H' s'->s'.heap.get? D0=some {cls:=.type "list",data:=.seq r.toArray kk}/\H' D0=none:=fun{a1 H' s'} J=>by have :=J.pin (D0,_) (a7 _ (cJ _ (a7 _ (ja (by simp) e5))));exact⟨this.1,this.2.1⟩
   have d3:∀{a1:St}{H':Hp}{s':Shared},Inv (d5 X N' sc P3.objs.size {s2 with heap:=P3} d (D0::fp)) ([]++jA [D0] t.heap++jA fp s7.heap) a1 H' s'->(∀b∈fp,∀o,s7.heap.get? b=some o->s'.heap.get? b=some o)/\(∀b∈fp,H' b=none):=fun{a1 H' s'} J=>by refine⟨fun b a o e=>(J.pin (b,o) (a7 _ (a7 _ (ja a e)))).1,fun b a=>?_⟩;obtain⟨o,e,h5⟩:=T.obj _ _ a4 b a;exact(J.pin (b,o) (a7 _ (a7 _ (ja a e)))).2.1
   cases b with
   |false=>
    rw[if_neg (by decide)]at q9⊢;obtain⟨m',b0,w7⟩:=hN U k H9 q9;obtain⟨d1,d2⟩:=d0 I9;obtain⟨p1,p2⟩:=d3 I9;refine⟨m',b0,i+1,U,k,H9,r,kk,I9.iP.iP,T.keep _ _ _ a4 p1,fun b a=>?_,a6,c7,d1,w7⟩;rcases aH.mp a with z|z;·rw[z];exact d2
    ·exact p2 b z
   |true=>
    rw[if_pos rfl]at q9⊢;refine thn (pe _ s9 U H9 _ I9 q9) fun y i0 ⟨z,b5,a8,h0,g9⟩=>?_;obtain⟨h8,g7⟩:=g9;obtain⟨m',b0,w7⟩:=hN U _ b5 g7;obtain⟨d1,d2⟩:=d0 a8;obtain⟨p1,p2⟩:=d3 a8;have h7:r.length=k.length:=a6.length.symm;refine Es (X:=d5 X N' sc P3.objs.size {s2 with heap:=P3} d (D0::fp)) a8.iP.iP (f4 aL d2) d1 (by lia) fun h' n' d9 e7 g5=>?_;refine⟨m',b0,i+1,U,k++[z],b5,r++[y],n',d9,T.keep _ _ _ a4 fun b a o e=>g5 b o (nD b a) (p1 b a o e),fun b a=>?_,a6.append (.cons h0 .nil),?_,e7,w7⟩
    ·rcases aH.mp a with w|w;·rw[w];exact d2
     ·exact p2 b w
    ·rw[bw,dY];lia
 exact codeAny_compStart_list b2 (T.self _ 0 _ _ _ d7 b2)
theorem pe_comp(S:oU X N' sc)(r:MkOk X N' sc mk)(p:X.calm=true)(hi:PI X tg iter wi)
  (f:∀C d c fp,(d5 X N' sc C d c fp).Ok->PG (d5 X N' sc C d c fp) tg g/\PTs (d5 X N' sc C d c fp) ifs tc/\PE (d5 X N' sc C d c fp) elt te)
  (u:∀x,jS iter X.env x=pure x:=by intro _;rfl):PE X (.ListComp elt [⟨tg,iter,ifs,0⟩] sc pos) (xW wi g tc te mk):=by
 intro w s y H Q I h;rw[eval_ListComp];refine yx (use:=none) S r p hi f u I h fun l C i s' m j t a z q=>⟨m,t,fun n v=>?_⟩;have k:Inv X w y i {s' with heap:=n,toks:=s'.toks}:=j.turned (fun b o f e=>v.extBut b o f e) a.1 a.2.1 a.2.2.2.1 a.2.2.2.2.1 a.2.2.2.2.2;exact⟨.ref l,i,k,rfl,q⟩
theorem DA{A:Pos}(S:oU X N' sc)(Q:MkOk X N' sc mk)(P:X.calm=true)(hi:PI X tg iter wi)
  (n:∀C k f fp,(d5 X N' sc C k f fp).Ok->PG (d5 X N' sc C k f fp) tg g/\PTs (d5 X N' sc C k f fp) ifs tc/\PE (d5 X N' sc C k f fp) elt te)
  (O:X.N.Nodup)(Y:X.N[i]? =some x)(w:X.env.scope.names.lookup x=some .local)
  (W:qz (.ListComp elt [⟨tg,iter,ifs,0⟩] sc pos) (some (.Name x pos')) A.line X.env=pure true)
  (U:∀x,jS iter X.env x=pure x:=by intro _;rfl):PS X (.Assign [.Name x pos'] (.ListComp elt [⟨tg,iter,ifs,0⟩] sc pos) A) (yZ (xW wi g tc te mk) (nH i)):=by
 intro j a1 B a2 D I h;rw[exec_Assign_Name_used _ _ _ _ W];refine af (pq (af ?_));show wpAny _ X.A (do let _<-comprehension (.ListComp elt [⟨tg,iter,ifs,0⟩] sc pos) sc X.env (firstIterPos [⟨tg,iter,ifs,0⟩] pos) (newList []) false (eval iter X.env) (some (assign (.Name x pos') X.env))) _ _ a1;refine af (thn (yx (use:=some (assign (.Name x pos') X.env)) (QQ:=fun _ c=>SP X j D .next c) S Q P hi n U I h fun l C r c m t R a N q=>?_) fun _ c hq=>aj (aj hq));obtain⟨d,v,H⟩:=id N;have F:Inv X (j++[(C,d)]) B r c:=t.zy fun p hp=>(dh.mp hp).elim (fun z=>t.pin p (a7 _ z)) fun z=>by
  have e:p=(C,d):=by simpa using z
  subst e;exact⟨v,a.1,a.2.1,a.2.2.1,H⟩
 show wpAny _ X.A (assign (.Name x pos') X.env (.ref l)) _ _ c;refine thn (zz (i:=i) O Y (.inl w) (.inr w) (j++[(C,d)]) c B r (.ref l) (.ref l) D.nx F rfl q) fun _ s2 ⟨E,s,u,q2⟩=>?_;obtain⟨J,Z,_,_,_⟩:=u.pin (C,d) (a7 _ (a7 _ (by simp)));have T:s2.heap.Ns C m:=by
  obtain⟨o,L,K,y,a0⟩:=R;have :o=d:=by rw[v]at y;exact(bj y).symm
  subst this;exact⟨o,L,K,J,a0⟩
 refine⟨m,T,fun M V=>?_⟩;have G:Inv X j E s {s2 with heap:=M,toks:=s2.toks}:=u.iP.turned (fun b o n e=>V.extBut b o n e) Z a.2.1 a.2.2.2.1 a.2.2.2.2.1 a.2.2.2.2.2;exact⟨E,s,G,q2⟩
end
section
variable {X:Cx}
theorem tV:fF X (.builtin "isinstance") (fun xs H Q=>∃x T t b,xs=[x,.ty T]/\mZ X.K H x t/\cP X.K t (.type T)=some b/\Q (.bl b) H):=by intro g s j H xs i Q I f h;obtain⟨x,T,t,b,rfl,ty,e,q⟩:=h;obtain⟨u,c,rfl,d,a⟩:=f.two;cases a;exact yp I d ty e fun tk=>⟨.bl b,H,I.tok tk,rfl,q⟩
theorem rG:fF X (.builtin "isinstance") (fun xs H Q=>∃x C t b,xs=[x,.ref C]/\mZ X.K H x t/\cP X.K t (.ref C)=some b/\Q (.bl b) H):=by intro g s j H xs i Q I f h;obtain⟨x,T,t,b,rfl,ty,e,q⟩:=h;obtain⟨u,c,rfl,d,a⟩:=f.two;cases a;exact yp I d ty e fun tk=>⟨.bl b,H,I.tok tk,rfl,q⟩
theorem Jc{bs:List Bool}(r:bM (bs.map V.bl) its):TruthOf prog w A (fun i v=>its.toArray[i]? =some v) (fun i=>bs.getD i false):=by
 intro i v s Q E c h;have hi:its[i]? =some v:=by simpa using c
 have e:v=.bool (bs.getD i false):=by
  have d:=r.length;rw[ai]at d;have a:i<bs.length:=by have :=(aC.mp hi).1;lia
  obtain⟨u,b,f⟩:=bM.get (i:=i) (x:=.bl bs[i]) r (by simp[a]);rw[hi]at b;cases b;have g:v=AB bs[i]:=f;rw[g,ae,aa a];rfl
 rw[e];exact dg h
theorem range_all(bs:List Bool):(aG bs.length).all (fun i=>bs.getD i false)=bs.all id:=by
 have :bs=(aG bs.length).map fun i=>bs.getD i false:=by
  apply bS;·simp
  ·intro i a c;simp[a]
 rw[cz];simp only[bI,aY];constructor;·intro h x b;obtain⟨i,hi,rfl⟩:=cH.mp b;have :=h i hi;simpa[hi]using this
 ·intro h i hi;have :=h bs[i] (bo hi);simpa[hi]using this
theorem LN(d:X.calm=true):fF X (.builtin "all") (fun xs H Q=>∃(p:Addr)(bs:List Bool),xs=[.ref p]/\SqL X.K H p (bs.map V.bl)/\Q (.bl (bs.all id)) H):=by
 intro w s y H xs x Q I m h;obtain⟨p,bs,rfl,hq,q⟩:=h;obtain⟨u,rfl,l⟩:=m.one;cases l;obtain⟨c,r,a,v⟩:=I.list hq;have f:c.toArray.size=bs.length:=by rw[aB,<-r.length,ai]
 have g:p≠s.heap.objs.size:=by obtain⟨o,n,j,_⟩:=id a;exact aK (aw j)
 refine call_all_walk (oV a.isList ⟨s.heap.objs.size,_,_,_,_,_,fun i=>bs.getD i false,rfl,Walks.list (A:=X.A.in1) (I.ok.hd d) _ p g c.toArray,⟨⟨_,ay _ rfl,rfl,rfl⟩,a.isList.at fun o e=>ag _ e⟩,Jc r,fun t tk k=>?_⟩);rw[f,range_all];exact⟨.bl (bs.all id),H,I.kept (t':=tk) fun b o e=>k b o (by simpa using aK (aw e)) (ag _ e),rfl,q⟩
noncomputable def wA(x:Str)(lo hi:Option Int):Str:=⟨((x.cps.toList.drop (HT.sIx x.length 0 lo)).take (HT.sIx x.length x.length hi-HT.sIx x.length 0 lo)).toArray⟩
theorem sIx_eq(n d:Nat)(i:Int):(max 0 (min (if i<0 then i+(n:Int)else i) (n:Int)))=((HT.sIx n d (some i):Nat):Int):=by have :=HT.clip_eq i n d;rw[<-this];split <;>lia
theorem strIx(lo hi:Option Int)(n:Nat):um lo hi 1 n=(aG (HT.sIx n n hi-HT.sIx n 0 lo)).map fun k=>HT.sIx n 0 lo+k:=by
 have key:∀a b:Nat,sliceRange (a:Int) (b:Int) 1=(aG (b-a)).map fun k=>a+k:=by
  intro a b;unfold sliceRange;have e:(if(1:Int)>0 then(if(a:Int)<b then((b:Int)-a+1-1)/1 else 0)else(if(a:Int)>b then((a:Int)-b-1-1)/(-1)else 0)).toNat=b-a:=by rw[if_pos (by decide)];split <;>lia
  simp only[e];apply cO;intro k j;lia
 have f:∀(o:Option Int)(d:Nat),(match o with |none=>(d:Int) |some i=>max 0 (min (if i<0 then i+(n:Int)else i) (n:Int)))=((HT.sIx n d o:Nat):Int):=by
  intro o d;cases o with
  |none=>rfl
  |some i=>exact sIx_eq n d i
 have c:=f lo 0;have g:=f hi n;unfold um;simp only[show(1:Int)>0 by decide,if_true];have h:((0:Nat):Int)=0:=rfl;rw[h]at c;rw[<-key,<-c,<-g];cases lo<;>cases hi<;>rfl
theorem pickN(xs:Array Nat)(i:Nat):∀k,((aG k).map fun m=>i+m).filterMap (xs[·]?)=(xs.toList.drop i).take k:=by
 intro k
 induction k with
 |zero=>simp
 |succ k ih=>
  rw[kA,dQ,List.filterMap_append,ih];by_cases h:i+k<xs.size;·rw[List.take_succ,fZ];simp[h]
  ·rw[List.take_succ,fZ];simp[h]
theorem GS(x:Str)(lo hi:Option Int):Txt.slice x lo hi=wA x lo hi:=by
 have c:HT.sIx x.length 0 lo<=x.length:=HT.JC _ _ (aZ _) lo;have d:HT.sIx x.length x.length hi<=x.length:=HT.JC _ _ (az _) hi;unfold Txt.slice wA;rw[strIx];split
 ·rename_i h;rw[aE,beq_iff_eq,beq_iff_eq,ai,ba]at h;have a:HT.sIx x.length 0 lo=0:=by lia
  have b:HT.sIx x.length x.length hi=x.length:=by lia
  rw[a,b];have :x.cps.toList.length=x.length:=by simp[CH]
  rw[List.drop_zero,Nat.sub_zero,<-this,hZ]
 ·rw[pickN]
theorem tS{v:Value}{o:Option Int}(p:IsPart v o):∃l:Option (Int×Tok),v=partValue l/\o=l.map (·.1):=by
 cases p with
 |none=>exact⟨none,rfl,rfl⟩
 |int i t=>exact⟨some (i,t),rfl,rfl⟩
def rSlS:V->Option Int->Option Int->Hp->VK->Prop:=fun x lo hi H Q=>∃z,x=.str z/\z.length<=sizeLine/\Q (.str (wA z lo hi)) H
theorem sl_str:SlR X rSlS:=by intro i s o H x v m n lo hi j Q I f a c d h;obtain⟨z,rfl,b,q⟩:=h;obtain⟨t,rfl⟩:=f;obtain⟨l,rfl,rfl⟩:=tS c;obtain⟨u,rfl,rfl⟩:=tS d;refine⟨"str",_,F.slot_str_getitem.lookup,typeIs_str _ _ _,?_⟩;refine wpAny_getItem_str_slice (l:=l) (u:=u) (st:=none) a rfl (post_val_or_str ⟨aP (Txt.slice_le z _ _) b,fun g k=>?_⟩);have e:=GS z (l.map (·.1)) (u.map (·.1));unfold Txt.slice at e;refine⟨.str (wA z (l.map (·.1)) (u.map (·.1))),H,I.tok k,⟨g,?_⟩,q⟩;rw[<-e];rfl
noncomputable def Its(x:Str):It:=⟨fun i _=>i<x.length,fun i H v H'=>H'=H/\∃c,x.cps[i]? =some c/\v=.str ⟨#[c]⟩,fun i _=>x.length<=i⟩
end
theorem xY(a:Addr)(x:Str)(t:Tok)(A:Around)(b:A.handled=none):
  Walks prog w A a [a] [a] x.cps.size (SignAt x) (fun i h=>h.IsStrIter a (iJ x) x t i):=by
 unfold iJ;cases ha:x.cps.all (·<128);·simp only[aW,if_false];exact Walks.strWide b a x t
 ·simp only[if_true];exact Walks.strAscii b a x t
theorem IZ(x:Str)(f:Addr)(t:Tok):Turn P w K tg (Its x) [f] f (fun i h=>h.IsStrIter f (iJ x) x t i) where
 mem:=by simp
 obj:=fun i h j b a=>by
  have e:b=f:=by simpa using a
  subst e;obtain⟨o,e,c,d⟩:=j;exact⟨o,e,fun v z=>by rw[d]at z;cases z⟩
 keep:=fun i h l j k=>let⟨o,ho,r⟩:=j;⟨o,k f (by simp) o ho,r⟩
 item:=by intro X G L F C i O s R H E I hf j J;subst G L F;obtain⟨m,p,U,q,y,B⟩:=hf f (by simp);have W:=xY (prog:=X.prog) (w:=X.w) f x t X.A (I.ok.hd C);refine W.item i s _ _ J j fun v l tk Z Q M=>?_;obtain⟨c,u,V,rfl⟩:=Z;have S:Inv X O R H {s with heap:=l,toks:=tk}:=I.turned (fun b o a e=>M b o (by simpa using a) e) m p q y B;obtain⟨o,e,T,d⟩:=id Q;refine⟨_,rfl,FI (s:={s with heap:=l,toks:=tk}) (n:=iJ x) e T d ?_ ⟨.str ⟨#[c]⟩,H,S,⟨u,rfl⟩,⟨rfl,c,V,rfl⟩,Q,fun b a=>(hf b a).1⟩⟩;unfold iJ;split <;>decide
 done:=by
  intro X G L F C i O s R H E I hf j J;subst G L F;obtain⟨m,p,U,q,y,B⟩:=hf f (by simp);have Y:x.length<=i:=J;by_cases hi:i=x.cps.size;·subst hi;have W:=xY (prog:=X.prog) (w:=X.w) f x t X.A (I.ok.hd C);exact W.done s _ _ j fun l tk M=>⟨rfl,I.turned (fun b o a e=>M b o (by simpa using a) e) m p q y B⟩
  ·have N:x.cps[i]? =none:=by rw[Array.getElem?_eq_none_iff];exact Y
   have g:s.heap.IsStrIter f (iJ x) x t i:=j;unfold iJ at g;cases ha:x.cps.all (·<128);·rw[ha]at g;exact wpAny_pyNext_wide_end (I.ok.hd C) g N fun l D=>⟨rfl,I.turned (t':=s.toks) (fun b o a e=>D b o a e) m p q y B⟩
   ·rw[ha]at g;exact wpAny_pyNext_ascii_end (I.ok.hd C) g N fun l D=>⟨rfl,I.turned (t':=s.toks) (fun b o a e=>D b o a e) m p q y B⟩
 self:=fun A i s a0 E j h=>by
  have g:s.heap.IsStrIter f (iJ x) x t i:=j;unfold iJ at g;cases ha:x.cps.all (·<128);·rw[ha]at g;exact wpAny_pyIter_striter_wide g h
  ·rw[ha]at g;exact wpAny_pyIter_striter_ascii g h
noncomputable def Ite(K:ah)(a:Addr):It:=
 ⟨fun i H=>∃xs x,SqL K H a xs/\xs[i]? =some x,fun i H v H'=>∃p x,H p=none/\H'=upd H p (.tup [.int i,x])/\v=.ref p/\∀xs,SqL K H a xs->xs[i]? =some x,fun i H=>∃xs,SqL K H a xs/\xs.length<=i⟩
theorem GD{es:List Expr}{kk:Nat}(a d e:Addr)(R:e≠d):Turn P w K (.Tuple es kk pp) (Ite K a) [e,d] e (fun i h=>(∃old,IsEnum h e d i old)/\h.IsListIter d a i) where
 mem:=by simp
 obj:=fun i h l b f=>by
  obtain⟨⟨old,g⟩,o,e1,c,a4⟩:=l;have p:b=e\/b=d:=by simpa using f
  rcases p with rfl|rfl;·exact⟨_,g,fun v z=>by cases z⟩
  ·exact⟨o,e1,fun v z=>by rw[a4]at z;cases z⟩
 keep:=fun i h C l a1=>by obtain⟨⟨old,g⟩,m⟩:=l;exact⟨⟨old,a1 e (by simp) _ g⟩,m.at fun o q=>a1 d (by simp) o q⟩
 item:=by
  intro X N U M O i W s σ H a3 I hf l Q;subst N U M;obtain⟨xs,x,hq,V⟩:=Q;obtain⟨E,Z,t,hz⟩:=I.list hq;obtain⟨c0,hu,ru⟩:=Z.get V;obtain⟨⟨old,g⟩,m⟩:=l;obtain⟨f0,F,f2,f3,f4,f5⟩:=hf e (by simp);obtain⟨u,B,g2,G,J,L⟩:=hf d (by simp);have b4:i<E.toArray.size:=by have :=(aC.mp hu).1;simpa using this
  have b5:d<s.heap.objs.size:=by obtain⟨o,q,_⟩:=m;exact aw q
  have b0:a≠d:=by obtain⟨o,n,q,Y,_⟩:=id t;obtain⟨o',k,a2,_⟩:=id m;rintro rfl;rw[q]at k;cases k;rw[Y]at a2;exact absurd a2 (by decide+kernel)
  have a8:e≠a:=by obtain⟨o,n,q,Y,_⟩:=id t;rintro rfl;rw[show s.heap.get? e=_ from g]at q;cases q;exact absurd (show gR "enumerate"=.type "list" from Y) (by decide+kernel)
  have D:=Draws.list (prog:=X.prog) (w:=X.w) (A:=X.A.in1) (I.ok.hd O) d a b0 E.toArray;refine wpAny_pyNext_enum_itemD D g ⟨m,t.isList⟩ b4 R (by simp[R,a8]) fun y C tk hy S b6 ht c2 r=>?_;have a6:y=c0:=by
   have :E[i]? =some y:=by simpa using hy
   rw[hu]at this;exact(bj this).symm
  subst a6;have hp:H s.heap.objs.size=none:=I.hok.fresh (az _);have nE:∀b v,H b=some v->b≠e:=fun b v q z=>by rw[z,f0]at q;cases q
  have nI:∀b v,H b=some v->b≠d:=fun b v q z=>by rw[z,u]at q;cases q
  have I1:Inv X W σ (upd H s.heap.objs.size (.tup [.int i,x])) {s with heap:=C,toks:=tk+1}:=by
   refine I.step (g':=s.gens) (d':=s.drawn) (ch:=[e,d]) (fun b f=>?_) (fun b o _ _ j q _=>r b o (fun z=>j (by simp[z])) (fun z=>j (by simp[z])) q)
    (fun b o _ _ j q _=>⟨o.slots,r b o (fun z=>j (by simp[z])) (fun z=>j (by simp[z])) q⟩) (fun b o _ q n=>by rw[aS (aK (aw q))];exact n)
    (fun b o j q=>⟨o,r b o (fun z=>j (by simp[z])) (fun z=>j (by simp[z])) q⟩) (fun b ys q=>by rw[aS (a9 q hp)];exact q) (fun b o v q=>by rw[aS (a9 q hp)];exact q)
    (fun b ps q=>⟨#[],by rw[aS (a9 q hp),q];simp⟩) (fun c3 hm=>?_) (fun b v q=>?_) I.bare
   ·have p:b=e\/b=d:=by simpa using f
    rcases p with rfl|rfl;·exact⟨f3,F,f4,f5⟩
    ·exact⟨G,B,J,L⟩
   ·obtain⟨o,a5,ep,q,b9⟩:=hm;exact⟨o,a5,ep,r _ o (bA F) (bA B) q,b9⟩
   ·by_cases f:b=s.heap.objs.size;·subst f;rw[au]at q;cases q;exact⟨by show 2<=sizeLine;decide,[.int i tk,y],.cons ⟨tk,rfl⟩ (.cons ru .nil),⟨_,ht,rfl,_,rfl⟩⟩
    ·rw[aS f]at q;refine(I.hok b v q).lE (fun c o j k=>r c o ?_ ?_ k) (fun c k=>by rw[aS (a9 k hp)];exact k) fun c ys k=>by rw[aS (a9 k hp)];exact k
     ·rcases j with z|z;·rw[z];exact nE b v q
      ·exact nE c _ z
     ·rcases j with z|z;·rw[z];exact nI b v q
      ·exact nI c _ z
  have fe:(upd H s.heap.objs.size (.tup [.int i,x])) e=none:=by rw[aS (aK (aw g))];exact f0
  refine⟨_,rfl,Ik (s:={s with heap:=C,toks:=tk+1}) S fun a7 b3 a0=>?_⟩;have I2:Inv X W σ (upd H s.heap.objs.size (.tup [.int i,x])) {s with heap:=a7,toks:=tk+1}:=I1.turned (t':=tk+1) (fun b o f q=>a0.extBut b o f q) fe F f3 f4 f5;refine⟨.ref s.heap.objs.size,_,I2,rfl,⟨_,x,hp,rfl,rfl,fun ys b8=>by rw[I.vZ b8 hq];exact V⟩,⟨⟨y,?_⟩,b6.1.at fun o q=>a0.extBut d o (bA R) q⟩,fun b f=>?_⟩
  ·have :((i:Int)+1)=((i+1:Nat):Int):=by push_cast;rfl
   rw[<-this];exact b3
  ·have p:b=e\/b=d:=by simpa using f
   rcases p with rfl|rfl;·exact fe
   ·rw[aS (aK b5)];exact u
 done:=by
  intro X N U M O i W s σ H a3 I hf l Q;subst N U M;obtain⟨xs,hq,V⟩:=Q;obtain⟨E,Z,t,hz⟩:=I.list hq;obtain⟨⟨old,g⟩,m⟩:=l;obtain⟨u,B,g2,G,J,L⟩:=hf d (by simp);have hT:s.TypeIs (.ref e) "enumerate":=⟨_,g,rfl⟩;have c1:=Z.length;unfold pyNext;refine af (gT (dF (name:=bf "__next__") hT j7
   (cF j7 hT Mh ?_ (IJ _))))
  show wpAny _ _ (field (.ref e) 2>>=_) _ _ _;refine af (gC g rfl (x:=.ref d) rfl ?_);refine af (wpAny_nextOf_list_end (A:=X.A.in1) (I.ok.hd O) m t.isList (by simp;lia) fun C z b2 b7=>?_);obtain⟨o,S,b1⟩:=b7;refine af (kF (T:="StopIteration") (b:=true) ⟨o,S,b1⟩ Iu ?_);exact aj ⟨rfl,I.turned (t':=s.toks) (fun b o f q=>b2 b o f q) u B G J L⟩
 self:=fun _ _ _ _ _ l h=>by obtain⟨⟨old,g⟩,_⟩:=l;exact oW g h
section
variable {X:Cx}{es:List Expr}{kk:Nat}{pp:Pos}
def Lc(K:ah)(tl:TE):TI:=fun σ H R=>tl σ H fun x H1=>∃a,x=.ref a/\(∃xs,SqL K H1 a xs)/\R (Ite K a) H1
theorem pi_enum{l:Expr}{f:TE}{p:Pos}(B:Gl X "enumerate")(E:X.mg "enumerate"=none)(C:PE X l f)(n:bz [l] X.env=[(false,eval l X.env)]:=by rfl):
  PI X (.Tuple es kk pp) (.Call (.Name "enumerate" p) [l] [] pos) (Lc X.K f):=by
 intro o s j H R I h;have w:PA X [l] (lD f uu):=gZ C k7 n;refine Call_ (k9 I B E boot_enumerate (dc (thn (w pos o s j H (fun t c=>∃a,t=[.ref a]/\(∃d,SqL X.K c a d)/\R (Ite X.K a) c) I ?_) fun S s1 ⟨t,c,g,L,K⟩=>?_) n rfl))
 ·show f j H fun x c=>_;have F:∀x c,(∃a,x=V.ref a/\(∃d,SqL X.K c a d)/\R (Ite X.K a) c)->(∃a,[x]=[V.ref a]/\(∃d,SqL X.K c a d)/\R (Ite X.K a) c):=fun x c ⟨a,e,r⟩=>⟨a,by rw[e],r⟩;have e:(fun(x:V)(c:Hp)=>∃a,x=V.ref a/\(∃d,SqL X.K c a d)/\R (Ite X.K a) c)=fun x c=>∃a,[x]=[V.ref a]/\(∃d,SqL X.K c a d)/\R (Ite X.K a) c:=by
   funext x c
   apply propext
   exact⟨F x c,fun⟨a,e,r⟩=>⟨a,by simpa using e,r⟩⟩
  have i:f j H fun x c=>∃a,[x]=[V.ref a]/\(∃d,SqL X.K c a d)/\R (Ite X.K a) c:=by rw[<-e];exact h
  exact i
 ·obtain⟨a,rfl,⟨d,hq⟩,q⟩:=K;obtain⟨u,rfl,M⟩:=L.one;cases M;obtain⟨P,Q,J,O⟩:=g.list hq;refine call_enumerate_list J.isList fun i m D N G=>?_;refine oW (s:={s1 with heap:=i}) m ?_;have v:Inv X o j c {s1 with heap:=i,toks:=s1.toks}:=g.kept G;refine⟨_,[s1.heap.objs.size+1,s1.heap.objs.size],_,_,c,rfl,v,GD a s1.heap.objs.size (s1.heap.objs.size+1) (Nat.succ_ne_self _),⟨⟨_,m⟩,D⟩,fun b y=>?_,q⟩;have A:b=s1.heap.objs.size+1\/b=s1.heap.objs.size:=by simpa using y
  have k:s1.heap.objs.size<=b:=by
   rcases A with z|z;·rw[z];exact dy _
   ·rw[z];exact az _
  exact g.z7 k (g.hok.fresh k)
end
inductive D where
 |non|bl (b:Bool) |int (i:Int) |str (x:Str) |tup (ds:List D) |lst (ds:List D)
 deriving Inhabited
mutual
noncomputable def Rep(K:ah)(H:Hp):D->V->Prop
 |.non,v=>v=.non
 |.bl b,v=>v=.bl b
 |.int i,v=>v=.int i
 |.str x,v=>v=.str x
 |.tup ds,v=>∃a xs,v=.ref a/\SqT K H a xs/\fL K H ds xs
 |.lst ds,v=>∃a xs,v=.ref a/\SqL K H a xs/\fL K H ds xs
noncomputable def fL(K:ah)(H:Hp):List D->List V->Prop
 | [],xs=>xs=[]
 |d::ds,xs=>∃x r,xs=x::r/\Rep K H d x/\fL K H ds r
end
theorem aQ.tup{K:ah}{H H':Hp}{a:Addr}{xs:List V}(e:aQ H H')(h:SqT K H a xs):SqT K H' a xs:=by
 rcases h with(h|⟨o,h⟩) |h;·exact .inl (.inl (e _ _ h))
 ·exact .inl (.inr ⟨o,e _ _ h⟩)
 ·exact .inr h
theorem fL.length:∀{ds:List D}{xs:List V},fL K H ds xs->xs.length=ds.length
 | [],_,h=>by rw[show _=[]from h];rfl
 |d::ds,_,h=>by obtain⟨x,r,rfl,_,a⟩:=h;rw[bG,bG,fL.length a]
theorem fL.at:∀{ds:List D}{xs:List V}{i:Nat}{d:D},fL K H ds xs->ds[i]? =some d->∃x,xs[i]? =some x/\Rep K H d x
 | [],_,i,d,h,e=>by simp at e
 |d::ds,_,0,d',h,e=>by obtain⟨y,r,rfl,a,b⟩:=h;simp at e;subst e;exact⟨y,rfl,a⟩
 |d::ds,_,i+1,d',h,e=>by obtain⟨y,r,rfl,a,b⟩:=h;obtain⟨x,c,f⟩:=fL.at (i:=i) b (by simpa using e);exact⟨x,by simpa using c,f⟩
theorem fL.ints:∀(ns:List Int),fL K H (ns.map D.int) (ns.map V.int)
 | []=>rfl
 |n::ns=>⟨_,_,rfl,rfl,fL.ints ns⟩
mutual
noncomputable def eqD:D->D->Bool
 |.non,.non=>true
 |.bl a,.bl b=>a==b
 |.bl a,.int b=>(if a then 1 else 0)==b
 |.int a,.bl b=>a==(if b then 1 else 0)
 |.int a,.int b=>a==b
 |.str a,.str b=>a==b
 |.tup a,.tup b=>nL a b
 |.lst a,.lst b=>nL a b
 |_,_=>false
noncomputable def nL:List D->List D->Bool
 | [],[]=>true
 |a::as,b::bs=>eqD a b&&nL as bs
 |_,_=>false
end
mutual
noncomputable def hgt:D->Nat
 |.tup ds=>fX ds+1
 |.lst ds=>fX ds+1
 |_=>0
noncomputable def fX:List D->Nat
 | []=>0
 |d::ds=>max (hgt d) (fX ds)
end
theorem sQ:∀{ds:List D}{i:Nat}{d:D},ds[i]? =some d->hgt d<=fX ds
 | [],i,d,e=>by simp at e
 |d::ds,0,d',e=>by simp at e;subst e;simp only[fX];lia
 |d::ds,i+1,d',e=>by have :=sQ (i:=i) (ds:=ds) (d:=d') (by simpa using e);simp only[fX];lia
theorem B6:∀(c bs:List D)(e:Nat->Bool),c.length=bs.length->(∀(i:Nat) a b,c[i]? =some a->bs[i]? =some b->e i=eqD a b)->(aG c.length).all e=nL c bs
 | [],[],e,_,_=>rfl
 |a::c,b::bs,e,hl,h=>by rw[bG,Gj,C6,o9];have d:=h 0 a b rfl rfl;have j:=B6 c bs (fun i=>e (i+1)) (by simpa using hl) fun i x y f g=>h (i+1) x y (by simpa using f) (by simpa using g);rw[d];show(eqD a b&&(aG c.length).all (fun i=>e (i+1)))=_;rw[j];rfl
 | [],b::bs,e,hl,_=>by simp at hl
 |a::c,[],e,hl,_=>by simp at hl
theorem rD:∀(c bs:List D),c.length≠bs.length->nL c bs=false
 | [],[],h=>absurd rfl h
 |a::c,b::bs,h=>by show(eqD a b&&nL c bs)=false;rw[rD c bs (by simpa using h),fP]
 | [],b::bs,_=>rfl
 |a::c,[],_=>rfl
mutual
theorem wy:∀d:D,eqD d d=true
 |.non=>rfl
 |.bl b=>beq_self_eq_true b
 |.int i=>beq_self_eq_true i
 |.str x=>beq_self_eq_true x
 |.tup ds=>sT ds
 |.lst ds=>sT ds
theorem sT:∀ds:List D,nL ds ds=true
 | []=>rfl
 |d::ds=>fm.mpr ⟨wy d,sT ds⟩
end
section
variable {X:Cx}{pins:List (Addr×Obj)}{σ:St}{H:Hp}{s:Shared}
mutual
theorem Inv.zu(I:Inv X pins σ H s):∀{d c:D}{v:V},Rep X.K H d v->Rep X.K H c v->d=c
 |.non,c,v,h,h'=>by cases(show v=V.non from h);cases c<;>first | (obtain⟨_,_,z,_⟩:=h';cases z;done) |rfl| (cases h';done)
 |.bl b,c,v,h,h'=>by cases(show v=V.bl b from h);cases c<;>first | (obtain⟨_,_,z,_⟩:=h';cases z;done) | (cases h';rfl) | (cases h';done)
 |.int b,c,v,h,h'=>by cases(show v=V.int b from h);cases c<;>first | (obtain⟨_,_,z,_⟩:=h';cases z;done) | (cases h';rfl) | (cases h';done)
 |.str b,c,v,h,h'=>by cases(show v=V.str b from h);cases c<;>first | (obtain⟨_,_,z,_⟩:=h';cases z;done) | (cases h';rfl) | (cases h';done)
 |.tup ds,c,v,h,h'=>by
  obtain⟨a,w,rfl,j,p⟩:=h;cases c with
  |tup ds'=>obtain⟨b,q,e,f,k⟩:=h';cases e;have :=I.sy j f;subst this;rw[Inv.vz I p k]
  |lst ds'=>obtain⟨b,q,e,f,k⟩:=h';cases e;obtain⟨r,_,⟨o,m,l,_⟩,_⟩:=I.tuple j;obtain⟨t,_,⟨u,n,i,g,_⟩,_⟩:=I.list f;rw[m]at i;cases i;rw[l]at g;exact absurd g (by decide+kernel)
  |_=>cases h'
 |.lst ds,c,v,h,h'=>by
  obtain⟨a,w,rfl,j,p⟩:=h;cases c with
  |lst ds'=>obtain⟨b,q,e,f,k⟩:=h';cases e;have :=I.vZ j f;subst this;rw[Inv.vz I p k]
  |tup ds'=>obtain⟨b,q,e,f,k⟩:=h';cases e;obtain⟨r,_,⟨o,n,m,l,_⟩,_⟩:=I.list j;obtain⟨t,_,⟨u,i,g,_⟩,_⟩:=I.tuple f;rw[m]at i;cases i;rw[l]at g;exact absurd g (by decide+kernel)
  |_=>cases h'
theorem Inv.vz(I:Inv X pins σ H s):∀{ds a:List D}{xs:List V},fL X.K H ds xs->fL X.K H a xs->ds=a
 | [],[],_,_,_=>rfl
 | [],d::ds,xs,h,h'=>by obtain⟨x,r,e,_⟩:=h';rw[show xs=[]from h]at e;cases e
 |d::ds,[],xs,h,h'=>by obtain⟨x,r,e,_⟩:=h;rw[show xs=[]from h']at e;cases e
 |d::ds,d'::a,xs,h,h'=>by obtain⟨x,r,rfl,b,f⟩:=h;obtain⟨y,i,e,c,g⟩:=h';cases e;rw[Inv.zu I b c,Inv.vz I f g]
end
open PySem.SeqAt
noncomputable def eqJ(ds a:List D)(j:Nat):Bool:=match ds[j]?,a[j]? with |some d,some d'=>eqD d d'|_,_=>false
theorem Ab{ds a:List D}(b:ds.length=a.length):(aG ds.length).all (eqJ ds a)=nL ds a:=B6 ds a _ b fun i x y c d=>by simp only[eqJ,c,d]
theorem FT{ds a:List D}:((aG (min ds.length a.length)).all (eqJ ds a)&&ds.length==a.length)=nL ds a:=by
 by_cases hl:ds.length=a.length;·rw[<-hl,Nat.min_self,beq_self_eq_true,Bool.and_true,Ab hl]
 ·rw[rD ds a hl,beq_eq_false_iff_ne.mpr hl,fP]
theorem Aa{ds a:List D}(q:∀(i:Nat)(d b:D)(x y:V)(u f:Value),ds[i]? =some d->a[i]? =some b->Rep X.K H d x->Rep X.K H b y->RelV x u->RelV y f->EqAt A.in1 s u f (eqD d b))(k:fL X.K H ds xs)(l:fL X.K H a ys)(r:bM xs its)(r':bM ys its'):its.toArray.size=ds.length/\its'.toArray.size=a.length/\∀j (g:j<its.toArray.size)(h:j<its'.toArray.size),EqAt A.in1 s its.toArray[j] its'.toArray[j] (eqJ ds a j):=by
 have l1:=k.length;have l2:=l.length;have E:=r.length;have F:=r'.length;refine⟨by simp;lia,by simp;lia,fun j g h=>?_⟩;have o:j<its.length:=by simpa using g
 have p:j<its'.length:=by simpa using h
 have c:ds[j]? =some ds[j]:=aa (by lia);have e:a[j]? =some a[j]:=aa (by lia);unfold eqJ;rw[c,e];obtain⟨x,t,B⟩:=k.at c;obtain⟨y,v,C⟩:=l.at e;obtain⟨u,m,w⟩:=r.get t;obtain⟨f,n,z⟩:=r'.get v;rw[aa o]at m;rw[aa p]at n;cases m;cases n;exact q j _ _ x y _ _ c e B C w z
theorem Inv.rcTup(I:Inv X pins σ H s)(A:Around){ds g:List D}(o:∀(i:Nat)(d c:D)(x y:V)(u h:Value),ds[i]? =some d->g[i]? =some c->Rep X.K H d x->Rep X.K H c y->RelV x u->RelV y h->EqAt A.in1 s u h (eqD d c))(k:SqT X.K H a xs)(m:fL X.K H ds xs)(l:SqT X.K H b ys)(n:fL X.K H g ys)(q:A.units<cLine):RcAt A s (.ref a) (.ref b) (nL ds g):=by
 obtain⟨w,r,p,_⟩:=I.tuple k;obtain⟨z,v,t,_⟩:=I.tuple l;obtain⟨e,j,f⟩:=Aa o m n r v;have key:=RcAt.tuples p t (A:=A) q f
 rwa [e,j,FT]at key
theorem Inv.rcLst(I:Inv X pins σ H s)(A:Around){ds c:List D}(t:∀(i:Nat)(d g:D)(x y:V)(u l:Value),ds[i]? =some d->c[i]? =some g->Rep X.K H d x->Rep X.K H g y->RelV x u->RelV y l->EqAt A.in1 s u l (eqD d g))(m:SqL X.K H a xs)(o:fL X.K H ds xs)(n:SqL X.K H b ys)(q:fL X.K H c ys)(j:A.units<cLine):RcAt A s (.ref a) (.ref b) (nL ds c):=by
 obtain⟨w,r,p,_⟩:=I.list m;obtain⟨z,v,k,_⟩:=I.list n;obtain⟨e,h,f⟩:=Aa t o q r v;by_cases hl:ds.length=c.length
 ·have key:=RcAt.lists p.isList k.isList (A:=A) (by rw[e,h,hl]) j f
  rwa [e,Ab hl]at key
 ·have key:=RcAt.lists_lengths p.isList k.isList (A:=A) (by rw[e,h];exact bne_iff_ne.mpr hl) j
  rwa [rD ds c hl]
theorem Inv.shp(I:Inv X pins σ H s){d:D}{v:V}(h:Rep X.K H d v)(r:RelV v u):(d=.non/\v=.non/\u=.none)\/(∃x,d=.bl x/\v=.bl x/\u=.bool x)\/(∃x t,d=.int x/\v=.int x/\u=.int x t)\/(∃x t,d=.str x/\v=.str x/\u=.str x t)\/(∃ds a xs its,d=.tup ds/\v=.ref a/\u=.ref a/\SqT X.K H a xs/\fL X.K H ds xs/\IsTup s.heap a its)\/∃ds a xs its,d=.lst ds/\v=.ref a/\u=.ref a/\SqL X.K H a xs/\fL X.K H ds xs/\s.heap.IsList a its:=by
 cases d with
 |non=>cases(show v=_ from h);cases r;exact .inl ⟨rfl,rfl,rfl⟩
 |bl x=>cases(show v=_ from h);cases r;exact .inr (.inl ⟨x,rfl,rfl,rfl⟩)
 |int x=>cases(show v=_ from h);obtain⟨t,rfl⟩:=r;exact .inr (.inr (.inl ⟨x,t,rfl,rfl,rfl⟩))
 |str x=>cases(show v=_ from h);obtain⟨t,rfl⟩:=r;exact .inr (.inr (.inr (.inl ⟨x,t,rfl,rfl,rfl⟩)))
 |tup ds=>obtain⟨a,xs,rfl,b,c⟩:=id h;cases r;obtain⟨its,_,p,_⟩:=I.tuple b;exact .inr (.inr (.inr (.inr (.inl ⟨ds,a,xs,_,rfl,rfl,rfl,b,c,p⟩))))
 |lst ds=>obtain⟨a,xs,rfl,b,c⟩:=id h;cases r;obtain⟨its,_,p,_⟩:=I.list b;exact .inr (.inr (.inr (.inr (.inr ⟨ds,a,xs,_,rfl,rfl,rfl,b,c,p.isList⟩))))
theorem Inv.eqAt1(I:Inv X pins σ H s)(A:Around)(O:∀(m:Nat)(ds k:List D)(i:Nat)(d f:D)(x y:V)(u j:Value),n=m+1->fX ds<=m->ds[i]? =some d->k[i]? =some f->Rep X.K H d x->Rep X.K H f y->RelV x u->RelV y j->EqAt A.in1 s u j (eqD d f)):
  ∀(d f:D)(v N:V)(u j:Value),Rep X.K H d v->Rep X.K H f N->RelV v u->RelV N j->hgt d<=n->A.units+n+1<cLine->EqAt A s u j (eqD d f):=by
 intro d f v N u j h B r c o T;obtain⟨rfl,rfl,rfl⟩ |⟨_,rfl,rfl,rfl⟩ |⟨_,t,rfl,rfl,rfl⟩ |⟨_,t,rfl,rfl,rfl⟩ |⟨ds,a,R,P,rfl,rfl,rfl,C,F,p⟩ |⟨ds,a,R,P,rfl,rfl,rfl,C,F,p⟩:=I.shp h r<;>obtain⟨rfl,rfl,rfl⟩ |⟨_,rfl,rfl,rfl⟩ |⟨_,l,rfl,rfl,rfl⟩ |⟨_,l,rfl,rfl,rfl⟩ |⟨k,b,S,Q,rfl,rfl,rfl,E,G,g⟩ |⟨k,b,S,Q,rfl,rfl,rfl,E,G,g⟩:=I.shp B c
 ·exact gy r c rfl rfl
 ·exact gy r c rfl rfl
 ·exact gy r c rfl rfl
 ·exact gy r c rfl rfl
 ·exact EqAt.none_tuple g (by lia)
 ·exact EqAt.none_list g (by lia)
 ·exact gy r c rfl rfl
 ·exact gy r c rfl rfl
 ·exact gy r c rfl rfl
 ·exact gy r c rfl rfl
 ·exact EqAt.bool_tuple _ g (by lia)
 ·exact EqAt.bool_list _ g (by lia)
 ·exact gy r c rfl rfl
 ·exact gy r c rfl rfl
 ·exact gy r c rfl rfl
 ·exact gy r c rfl rfl
 ·exact EqAt.int_tuple _ t g (by lia)
 ·exact EqAt.int_list _ t g (by lia)
 ·exact gy r c rfl rfl
 ·exact gy r c rfl rfl
 ·exact gy r c rfl rfl
 ·exact gy r c rfl rfl
 ·exact EqAt.str_tuple _ t g (by lia)
 ·exact EqAt.str_list _ t g (by lia)
 ·exact EqAt.tuple_none p (by lia)
 ·exact EqAt.tuple_bool _ p (by lia)
 ·exact EqAt.tuple_int _ l p (by lia)
 ·exact EqAt.tuple_str _ l p (by lia)
 ·have o:fX ds+1<=_:=o;by_cases z:a=b;·subst z;have e:=I.zu h B;rw[<-e,wy];exact EqAt.same _
  ·exact EqAt.of_refs z (Inv.rcTup I A (fun i d f x y u j q w L M J K=>O (n-1) ds k i d f x y u j (by lia) (by lia) q w L M J K) C F E G (by lia))
 ·exact EqAt.tuple_list p g (by lia)
 ·exact EqAt.list_none p (by lia)
 ·exact EqAt.list_bool _ p (by lia)
 ·exact EqAt.list_int _ l p (by lia)
 ·exact EqAt.list_str _ l p (by lia)
 ·exact EqAt.list_tuple p g (by lia)
 ·have o:fX ds+1<=_:=o;by_cases z:a=b;·subst z;have e:=I.zu h B;rw[<-e,wy];exact EqAt.same _
  ·exact EqAt.of_refs z (Inv.rcLst I A (fun i d f x y u j q w L M J K=>O (n-1) ds k i d f x y u j (by lia) (by lia) q w L M J K) C F E G (by lia))
theorem Inv.FU(I:Inv X pins σ H s):∀(n:Nat)(A:Around)(d a:D)(v c:V)(u b:Value),Rep X.K H d v->Rep X.K H a c->RelV v u->RelV c b->hgt d<=n->A.units+n+1<cLine->EqAt A s u b (eqD d a):=by
 intro n
 induction n with
 |zero=>exact fun A d a v c u b h e r j f g=>Inv.eqAt1 I A (fun m l o i d a x y u b k _ _ _ _ _ _ _=>absurd k (by lia)) d a v c u b h e r j f g
 |succ n ih=>exact fun A d a v c u b h e r j f g=>Inv.eqAt1 I A (fun m l o i d a x y u b k C p B w z q t=>ih A.in1 d a x y u b w z q t (by have :=sQ p;lia) (by show A.units+1+n+1<cLine;lia)) d a v c u b h e r j f g
end
end L2
namespace L2
open PySem PySem.Spec PyProof.Rows PySem.SeqAt
section
variable {X:Cx}{pins:List (Addr×Obj)}{σ:St}{H:Hp}{s:Shared}
theorem Inv.neTup(I:Inv X pins σ H s)(A:Around){ds g:List D}(o:∀(i:Nat)(d c:D)(x y:V)(u h:Value),ds[i]? =some d->g[i]? =some c->Rep X.K H d x->Rep X.K H c y->RelV x u->RelV y h->EqAt A.in1 s u h (eqD d c))(k:SqT X.K H a xs)(m:fL X.K H ds xs)(l:SqT X.K H b ys)(n:fL X.K H g ys)(q:A.units<cLine):RcNeAt A s (.ref a) (.ref b) (!nL ds g):=by
 obtain⟨w,r,p,_⟩:=I.tuple k;obtain⟨z,v,t,_⟩:=I.tuple l;obtain⟨e,j,f⟩:=Aa o m n r v;have key:=RcNeAt.tuples p t (A:=A) q f
 rwa [e,j,FT]at key
theorem Inv.neLst(I:Inv X pins σ H s)(A:Around){ds c:List D}(t:∀(i:Nat)(d g:D)(x y:V)(u l:Value),ds[i]? =some d->c[i]? =some g->Rep X.K H d x->Rep X.K H g y->RelV x u->RelV y l->EqAt A.in1 s u l (eqD d g))(m:SqL X.K H a xs)(o:fL X.K H ds xs)(n:SqL X.K H b ys)(q:fL X.K H c ys)(j:A.units<cLine):RcNeAt A s (.ref a) (.ref b) (!nL ds c):=by
 obtain⟨w,r,p,_⟩:=I.list m;obtain⟨z,v,k,_⟩:=I.list n;obtain⟨e,h,f⟩:=Aa t o q r v;by_cases hl:ds.length=c.length
 ·have key:=RcNeAt.lists p.isList k.isList (A:=A) (by rw[e,h,hl]) j f
  rwa [e,Ab hl]at key
 ·have key:=RcNeAt.lists_lengths p.isList k.isList (A:=A) (by rw[e,h];exact bne_iff_ne.mpr hl) j
  rwa [rD ds c hl]
theorem Inv.rcD(I:Inv X pins σ H s)(A:Around)(d d':D)(v C:V)(u f:Value)(h:Rep X.K H d v)(h':Rep X.K H d' C)(r:RelV v u)(r':RelV C f)(B:A.units+hgt d+1<cLine):RcAt A s u f (eqD d d'):=by
 obtain⟨rfl,rfl,rfl⟩ |⟨_,rfl,rfl,rfl⟩ |⟨_,t,rfl,rfl,rfl⟩ |⟨_,t,rfl,rfl,rfl⟩ |⟨g,a,K,G,rfl,rfl,rfl,k,m,p⟩ |⟨g,a,K,G,rfl,rfl,rfl,k,m,p⟩:=I.shp h r<;>obtain⟨rfl,rfl,rfl⟩ |⟨_,rfl,rfl,rfl⟩ |⟨_,c,rfl,rfl,rfl⟩ |⟨_,c,rfl,rfl,rfl⟩ |⟨E,b,L,J,rfl,rfl,rfl,l,n,e⟩ |⟨E,b,L,J,rfl,rfl,rfl,l,n,e⟩:=I.shp h' r'
 ·exact RcAt.none_none
 ·exact RcAt.none_bool _
 ·exact RcAt.none_int _ c
 ·exact RcAt.none_str _ c
 ·exact RcAt.none_tuple e (by lia)
 ·exact RcAt.none_list e (by lia)
 ·exact RcAt.bool_none _
 ·exact RcAt.bool_bool _ _
 ·exact RcAt.bool_int _ _ c
 ·exact RcAt.bool_str _ _ c
 ·exact RcAt.bool_tuple _ e (by lia)
 ·exact RcAt.bool_list _ e (by lia)
 ·exact RcAt.int_none _ t
 ·exact RcAt.int_bool _ t _
 ·exact RcAt.int_int _ t _ c
 ·exact RcAt.int_str _ t _ c
 ·exact RcAt.int_tuple _ t e (by lia)
 ·exact RcAt.int_list _ t e (by lia)
 ·exact RcAt.str_none _ t
 ·exact RcAt.str_bool _ t _
 ·exact RcAt.str_int _ t _ c
 ·exact RcAt.str_str _ t _ c
 ·exact RcAt.str_tuple _ t e (by lia)
 ·exact RcAt.str_list _ t e (by lia)
 ·exact RcAt.tuple_none p (by lia)
 ·exact RcAt.tuple_bool _ p (by lia)
 ·exact RcAt.tuple_int _ c p (by lia)
 ·exact RcAt.tuple_str _ c p (by lia)
 ·exact Inv.rcTup I A (fun i d d' x y u f j F w z o q=>Inv.FU I (fX g) A.in1 d d' x y u f w z o q (sQ j) (by rw[hgt]at B;show A.units+1+fX g+1<cLine;lia)) k m l n (by lia)
 ·exact RcAt.tuple_list p e (by lia)
 ·exact RcAt.list_none p (by lia)
 ·exact RcAt.list_bool _ p (by lia)
 ·exact RcAt.list_int _ c p (by lia)
 ·exact RcAt.list_str _ c p (by lia)
 ·exact RcAt.list_tuple p e (by lia)
 ·exact Inv.rcLst I A (fun i d d' x y u f j F w z o q=>Inv.FU I (fX g) A.in1 d d' x y u f w z o q (sQ j) (by rw[hgt]at B;show A.units+1+fX g+1<cLine;lia)) k m l n (by lia)
theorem Inv.rcNeD(I:Inv X pins σ H s)(A:Around)(d d':D)(v C:V)(u f:Value)(h:Rep X.K H d v)(h':Rep X.K H d' C)(r:RelV v u)(r':RelV C f)(B:A.units+hgt d+1<cLine):RcNeAt A s u f (!eqD d d'):=by
 obtain⟨rfl,rfl,rfl⟩ |⟨_,rfl,rfl,rfl⟩ |⟨_,t,rfl,rfl,rfl⟩ |⟨_,t,rfl,rfl,rfl⟩ |⟨g,a,K,G,rfl,rfl,rfl,k,m,p⟩ |⟨g,a,K,G,rfl,rfl,rfl,k,m,p⟩:=I.shp h r<;>obtain⟨rfl,rfl,rfl⟩ |⟨_,rfl,rfl,rfl⟩ |⟨_,c,rfl,rfl,rfl⟩ |⟨_,c,rfl,rfl,rfl⟩ |⟨E,b,L,J,rfl,rfl,rfl,l,n,e⟩ |⟨E,b,L,J,rfl,rfl,rfl,l,n,e⟩:=I.shp h' r'
 ·exact RcNeAt.none_none
 ·exact RcNeAt.none_bool _
 ·exact RcNeAt.none_int _ c
 ·exact RcNeAt.none_str _ c
 ·exact RcNeAt.none_tuple e (by lia)
 ·exact RcNeAt.none_list e (by lia)
 ·exact RcNeAt.bool_none _
 ·exact RcNeAt.bool_bool _ _
 ·exact RcNeAt.bool_int _ _ c
 ·exact RcNeAt.bool_str _ _ c
 ·exact RcNeAt.bool_tuple _ e (by lia)
 ·exact RcNeAt.bool_list _ e (by lia)
 ·exact RcNeAt.int_none _ t
 ·exact RcNeAt.int_bool _ t _
 ·exact RcNeAt.int_int _ t _ c
 ·exact RcNeAt.int_str _ t _ c
 ·exact RcNeAt.int_tuple _ t e (by lia)
 ·exact RcNeAt.int_list _ t e (by lia)
 ·exact RcNeAt.str_none _ t
 ·exact RcNeAt.str_bool _ t _
 ·exact RcNeAt.str_int _ t _ c
 ·exact RcNeAt.str_str _ t _ c
 ·exact RcNeAt.str_tuple _ t e (by lia)
 ·exact RcNeAt.str_list _ t e (by lia)
 ·exact RcNeAt.tuple_none p (by lia)
 ·exact RcNeAt.tuple_bool _ p (by lia)
 ·exact RcNeAt.tuple_int _ c p (by lia)
 ·exact RcNeAt.tuple_str _ c p (by lia)
 ·exact Inv.neTup I A (fun i d d' x y u f j F w z o q=>Inv.FU I (fX g) A.in1 d d' x y u f w z o q (sQ j) (by rw[hgt]at B;show A.units+1+fX g+1<cLine;lia)) k m l n (by lia)
 ·exact RcNeAt.tuple_list p e (by lia)
 ·exact RcNeAt.list_none p (by lia)
 ·exact RcNeAt.list_bool _ p (by lia)
 ·exact RcNeAt.list_int _ c p (by lia)
 ·exact RcNeAt.list_str _ c p (by lia)
 ·exact RcNeAt.list_tuple p e (by lia)
 ·exact Inv.neLst I A (fun i d d' x y u f j F w z o q=>Inv.FU I (fX g) A.in1 d d' x y u f w z o q (sQ j) (by rw[hgt]at B;show A.units+1+fX g+1<cLine;lia)) k m l n (by lia)
def rEqD(K:ah):R2:=fun x y H Q=>∃d a,Rep K H d x/\Rep K H a y/\hgt d<=30/\Q (.bl (eqD d a)) H
def rNeD(K:ah):R2:=fun x y H Q=>∃d a,Rep K H d x/\Rep K H a y/\hgt d<=30/\Q (.bl (!eqD d a)) H
theorem op_eqD(i:X.A.units+40<cLine):OpR X (dq .Eq) (rEqD X.K):=by intro j s k H x y v u Q I e f h;obtain⟨d,a,b,c,g,q⟩:=h;exact I.rcD X.A d a x y v u b c e f (by lia) _ _ _ _ (wt I q rfl)
theorem op_neD(i:X.A.units+40<cLine):OpR X (dq .NotEq) (rNeD X.K):=by intro j s k H x y v u Q I e f h;obtain⟨d,a,b,c,g,q⟩:=h;exact I.rcNeD X.A d a x y v u b c e f (by lia) _ _ _ _ (wt I q rfl)
end
end L2
namespace Q
open PySem PySem.W PyProof.Rows
noncomputable def run{α:Type}(lt:Nat->Nat->Bool):KasT α->α
 |.ret a=>a
 |.ask i j k=>run lt (k (lt i j))
theorem run_bind{b c:Type}(lt:Nat->Nat->Bool)(f:b->KasT c):∀t:KasT b,run lt (t.bind f)=run lt (f (run lt t))
 |.ret a=>rfl
 |.ask i j k=>run_bind lt f (k (lt i j))
noncomputable def okT{α:Type}(lt:Nat->Nat->Bool)(n:Nat):KasT α->Prop
 |.ret _=>True
 |.ask i j k=>(i<n/\j<n/\i≠j)/\okT lt n (k (lt i j))
theorem oK{b c:Type}{lt:Nat->Nat->Bool}{f:b->KasT c}:∀{t:KasT b},okT lt n t->okT lt n (f (run lt t))->okT lt n (t.bind f)
 |.ret a,_,h=>h
 |.ask i j k,h,h'=>⟨h.1,oK h.2 h'⟩
structure Tot(lt:Nat->Nat->Bool)(n:Nat):Prop where
 tri:∀i j,i<n->j<n->i≠j->lt i j= !lt j i
 tr:∀i j k,i<n->j<n->k<n->lt i j=true->lt j k=true->lt i k=true
noncomputable abbrev at'(p:Array Nat)(i:Nat):Nat:=p.getD i 0
theorem Gc(p:Array Nat)(i:Nat):at' p i=(p[i]?).getD 0:=by simp[at',Array.getD_eq_getD_getElem?]
structure Pm(p:Array Nat)(n:Nat):Prop where
 perm:p.Perm (aG n).toArray
theorem Pm.size{p:Array Nat}(h:Pm p n):p.size=n:=by rw[h.perm.size_eq];simp
theorem Pm.lt{p:Array Nat}(h:Pm p n)(hi:i<n):at' p i<n:=by
 have a:i<p.size:=by rw[h.size];exact hi
 have e:at' p i=p[i]:=by simp[at',a]
 have m:p[i]∈(aG n).toArray:=h.perm.mem_iff.mp (Array.getElem_mem a);rw[e];simpa using m
theorem Pm.inj{p:Array Nat}(h:Pm p n)(hi:i<n)(f:j<n)(e:at' p i=at' p j):i=j:=by
 have a:i<p.size:=by rw[h.size];exact hi
 have b:j<p.size:=by rw[h.size];exact f
 have nd:p.toList.Nodup:=by
  have q:p.toList.Perm (aG n):=by simpa using eU.mp h.perm
  exact q.nodup_iff.mpr xk
 have c:at' p i=p.toList[i]'(by simpa using a):=by simp[at',a]
 have d:at' p j=p.toList[j]'(by simpa using b):=by simp[at',b]
 rw[c,d]at e;exact(eR nd).mp e
theorem LS{p:Array Nat}(a:j<=p.size)(k:Nat):at' (Az p i j) k=if i<=k/\k<j then at' p (i+j-1-k)else at' p k:=by rw[Gc];unfold Az;rw[getElem?_mirror_all a];split <;>rw[Gc]
theorem LU{p:Array Nat}{a d:Nat}(b:a<p.size)(c:d<=a)(k:Nat):at' (bubble p a d) k=if k=a-d then at' p a else if a-d<k/\k<=a then at' p (k-1)else at' p k:=by
 rw[Gc,getElem?_bubble b d c];split;·simp[at',b]
 ·split <;>rw[Gc]
theorem Pm.rev{p:Array Nat}(h:Pm p n):Pm (Az p i j) n:=⟨(mirror_perm _ _ _ _).trans h.perm⟩
theorem Pm.bub{p:Array Nat}(h:Pm p n):Pm (bubble p i j) n:=⟨(bubble_perm _ _ _).trans h.perm⟩
def Up(lt:Nat->Nat->Bool)(p:Array Nat)(m:Nat):Prop:=∀i j,i<j->j<m->lt (at' p i) (at' p j)=true
def Dn(lt:Nat->Nat->Bool)(p:Array Nat)(m:Nat):Prop:=∀i j,i<j->j<m->lt (at' p j) (at' p i)=true
section
variable {lt:Nat->Nat->Bool}{N:Nat}{p:Array Nat}
theorem Tot.flip(T:Tot lt N)(P:Pm p N)(hi:i<N)(a:j<N)(n:i≠j)(h:lt (at' p i) (at' p j)=false):lt (at' p j) (at' p i)=true:=by have q:=T.tri _ _ (P.lt hi) (P.lt a) fun e=>n (P.inj hi a e);rw[h]at q;simpa using q.symm
theorem Pm.ask{p:Array Nat}(P:Pm p N)(hi:i<N)(a:j<N)(n:i≠j):at' p i<N/\at' p j<N/\at' p i≠at' p j:=⟨P.lt hi,P.lt a,fun e=>n (P.inj hi a e)⟩
theorem Up.succ(T:Tot lt N)(P:Pm p N)(c:1<=n)(b:n<N)(u:Up lt p n)(h:lt (at' p (n-1)) (at' p n)=true):Up lt p (n+1):=by
 intro i j a d;by_cases e:j=n
 ·subst e;by_cases e2:i=j-1;·subst e2;exact h
  ·exact T.tr _ _ _ (P.lt (by lia)) (P.lt (by lia)) (P.lt b) (u i (j-1) (by lia) (by lia)) h
 ·exact u i j a (by lia)
theorem Dn.succ(T:Tot lt N)(P:Pm p N)(c:1<=n)(b:n<N)(u:Dn lt p n)(h:lt (at' p n) (at' p (n-1))=true):Dn lt p (n+1):=by
 intro i j a d;by_cases e:j=n
 ·subst e;by_cases e2:i=j-1;·subst e2;exact h
  ·exact T.tr _ _ _ (P.lt b) (P.lt (by lia)) (P.lt (by lia)) h (u i (j-1) (by lia) (by lia))
 ·exact u i j a (by lia)
theorem zq(T:Tot lt N)(P:Pm p N):∀(f n:Nat),1<=n->n+f<=N->Up lt p n->∃m,run lt (kas_asc p f n)=m/\n<=m/\m<=n+f/\Up lt p m/\(m=n+f\/lt (at' p m) (at' p (m-1))=true)/\okT lt N (kas_asc p f n)
 | 0,n,h1,h2,u=>⟨n,rfl,az _,az _,u,.inl rfl,trivial⟩
 |f+1,n,h1,h2,u=>by
  unfold kas_asc;have a:=P.ask (i:=n) (j:=n-1) (by lia) (by lia) (by lia);simp only[run,okT];by_cases c:lt (at' p n) (at' p (n-1))=true;·rw[if_pos c];exact⟨n,rfl,az _,by lia,u,.inr c,a,trivial⟩
  ·rw[if_neg c];have h:lt (at' p n) (at' p (n-1))=false:=by simpa using c
   obtain⟨m,e,k,l,b,d,g⟩:=zq T P f (n+1) (by lia) (by lia) (u.succ T P h1 (by lia) (T.flip P (by lia) (by lia) (by lia) h));refine⟨m,e,by lia,by lia,b,?_,a,g⟩;rcases d with z|z;·exact .inl (by lia)
   ·exact .inr z
theorem A8(T:Tot lt N)(P:Pm p N):∀(f n:Nat),1<=n->n+f<=N->Dn lt p n->∃m,run lt (kas_desc f p n 0)=(p,m,0)/\n<=m/\m<=n+f/\Dn lt p m/\okT lt N (kas_desc f p n 0)
 | 0,n,h1,h2,u=>⟨n,rfl,az _,az _,u,trivial⟩
 |f+1,n,h1,h2,u=>by
  unfold kas_desc;have a:=P.ask (i:=n) (j:=n-1) (by lia) (by lia) (by lia);have k:=P.ask (i:=n-1) (j:=n) (by lia) (by lia) (by lia);simp only[run,okT];by_cases c:lt (at' p n) (at' p (n-1))=true;·rw[if_pos c,if_neg (dJ 0)];obtain⟨m,e,l,o,b,g⟩:=A8 T P f (n+1) (by lia) (by lia) (u.succ T P h1 (by lia) c);exact⟨m,e,by lia,by lia,b,a,g⟩
  ·rw[if_neg c];have h:lt (at' p n) (at' p (n-1))=false:=by simpa using c
   have d:=T.flip P (by lia) (by lia) (by lia) h;simp only[run,okT];rw[if_pos d];exact⟨n,rfl,az _,by lia,u,a,k,trivial⟩
theorem JN(T:Tot lt N)(P:Pm p N)(f:1<=n)(b:n<=N)(u:Dn lt p n):∃m a,run lt (kas_tail3 n N p)=(m,a)/\1<=m/\m<=N/\Up lt a m/\Pm a N/\okT lt N (kas_tail3 n N p):=by
 have h:Up lt (Az p 0 n) n:=by intro i j o g;rw[LS (by rw[P.size];exact b),LS (by rw[P.size];exact b),if_pos ⟨aZ _,by lia⟩,if_pos ⟨aZ _,g⟩];exact u _ _ (by lia) (by lia)
 obtain⟨m,e,k,l,c,_,d⟩:=zq T P.rev (N-n) n f (by lia) h;unfold kas_tail3;refine⟨m,Az p 0 n,?_,by lia,by lia,c,P.rev,oK d trivial⟩;rw[run_bind,e];rfl
theorem zo(T:Tot lt N)(P:Pm p N)(r:n+1<=N)(u:Dn lt p (n+1)):∃m a,run lt (jR n N p)=(m,a)/\1<=m/\m<=N/\Up lt a m/\Pm a N/\okT lt N (jR n N p):=by
 obtain⟨m,e,o,q,b,c⟩:=A8 T P (N-(n+1)) (n+1) (by lia) (by lia) u;obtain⟨k,l,d,f,g,h,i,j⟩:=JN T P (by lia) (by lia) b;unfold jR;refine⟨k,l,?_,f,g,h,i,oK c ?_⟩;·rw[run_bind,e];exact d
 ·rw[e];exact j
theorem G6(T:Tot lt N)(P:Pm p N)(x:1<=N):∃m a,run lt (kas_count N p)=(m,a)/\1<=m/\m<=N/\Up lt a m/\Pm a N/\okT lt N (kas_count N p):=by
 obtain⟨m,e,g,w,f,h,k⟩:=zq T P (N-1) 1 (az _) (by lia) (fun i j t u=>by lia);have v:∃b a,run lt (if(m==N)=true then u9 (m,p)else if m>1 then KasT.ask (p.getD 0 0) (p.getD (m-1) 0) fun c=>if c=true then u9 (m,p)else jR m N (Az p 0 m)else jR m N p)=(b,a)/\1<=b/\b<=N/\Up lt a b/\Pm a N/\
   okT lt N (if(m==N)=true then u9 (m,p)else if m>1 then KasT.ask (p.getD 0 0) (p.getD (m-1) 0) fun c=>if c=true then u9 (m,p)else jR m N (Az p 0 m)else jR m N p):=by
  by_cases c:m=N;·rw[if_pos (by simpa using c)];exact⟨m,p,rfl,g,by lia,f,P,trivial⟩
  ·rw[if_neg (by simpa using c)];by_cases d:m>1;·rw[if_pos d];simp only[run,okT];rw[if_pos (f 0 (m-1) (by lia) (by lia))];exact⟨m,p,rfl,g,by lia,f,P,P.ask (by lia) (by lia) (by lia),trivial⟩
   ·rw[if_neg d];obtain rfl:m=1:=by lia
    rcases h with z|z;·lia
    ·exact zo T P (by lia) fun i j t u=>by
      obtain rfl:j=1:=by lia
      obtain rfl:i=0:=by lia
      exact z
 obtain⟨b,a,l,n,o,q,r,s⟩:=v;unfold kas_count;refine⟨b,a,?_,n,o,q,r,oK k ?_⟩;·rw[run_bind,e];exact l
 ·rw[e];exact s
theorem sE(T:Tot lt N)(P:Pm p N)(g:k<N)(u:Up lt p k):∀(f l r:Nat),l<=r->r<=k->r-l<=f->(∀i,i<l->lt (at' p i) (at' p k)=true)->(∀i,r<=i->i<k->lt (at' p k) (at' p i)=true)->
  ∃q,run lt (kas_place p k f l r)=q/\q<=k/\(∀i,i<q->lt (at' p i) (at' p k)=true)/\(∀i,q<=i->i<k->lt (at' p k) (at' p i)=true)/\okT lt N (kas_place p k f l r)
 | 0,l,r,h1,h2,h3,a,b=>⟨l,rfl,by lia,a,fun i hi=>b i (by lia),trivial⟩
 |f+1,l,r,h1,h2,h3,a,b=>by
  unfold kas_place;by_cases c:l≥ r;·rw[if_pos c];exact⟨l,rfl,by lia,a,fun i hi=>b i (by lia),trivial⟩
  ·rw[if_neg c];have v:=P.ask (i:=k) (j:=(l+r)/2) g (by lia) (by lia);simp only[run,okT];by_cases d:lt (at' p k) (at' p ((l+r)/2))=true
   ·rw[if_pos d];have key:=sE T P g u f l ((l+r)/2) (by lia) (by lia) (by lia) a fun i hi w=>?_;obtain⟨q,h,m,n,o,s⟩:=key;exact⟨q,h,m,n,o,v,s⟩;by_cases e:i=(l+r)/2;·rw[e];exact d
    ·exact T.tr _ _ _ (P.lt g) (P.lt (by lia)) (P.lt (by lia)) d (u _ _ (by lia) w)
   ·rw[if_neg d];have t:=T.flip P g (by lia:(l+r)/2<N) (by lia) (by simpa using d);have key:=sE T P g u f ((l+r)/2+1) r (by lia) h2 (by lia) (fun i hi=>?_) b;obtain⟨q,h,m,n,o,s⟩:=key;exact⟨q,h,m,n,o,v,s⟩;by_cases e:i=(l+r)/2;·rw[e];exact t
    ·exact T.tr _ _ _ (P.lt (by lia)) (P.lt (by lia)) (P.lt g) (u _ _ (by lia) (by lia)) t
end
theorem EV{lt:Nat->Nat->Bool}{N:Nat}(T:Tot lt N):∀(f k:Nat)(p:Array Nat),Pm p N->k+f=N->Up lt p k->∃c,run lt (kas_bin f p k)=c/\Up lt c N/\Pm c N/\okT lt N (kas_bin f p k)
 | 0,k,p,P,h,u=>⟨p,rfl,by rw[<-h];exact u,P,trivial⟩
 |f+1,k,p,P,h,u=>by
  have d:k<N:=by lia
  obtain⟨q,e,hq,a,b,m⟩:=sE T P d u k 0 k (aZ _) (az _) (by lia) (fun i hi=>absurd hi (dm _)) fun i t v=>by lia
  have key:=EV T f (k+1) (bubble p k (k-q)) P.bub (by lia) fun i j w x=>?_;obtain⟨c,n,o,r,s⟩:=key;unfold kas_bin;refine⟨c,?_,o,r,oK m ?_⟩;·rw[run_bind,e];exact n
  ·rw[e];exact s
  have g:k<p.size:=by rw[P.size];exact d
  rw[LU g (by lia),LU g (by lia)];have l:k-(k-q)=q:=by lia
  rw[l];by_cases c1:i=q;·rw[if_pos c1,if_neg (by lia),if_pos (by lia)];exact b _ (by lia) (by lia)
  ·rw[if_neg c1];by_cases c2:j=q;·rw[if_pos c2,if_neg (by lia)];exact a i (by lia)
   ·rw[if_neg c2];by_cases c3:q<i;·rw[if_pos (by lia),if_pos (by lia)];exact u _ _ (by lia) (by lia)
    ·rw[if_neg (by lia)];by_cases c4:q<j;·rw[if_pos (by lia)];exact u _ _ (by lia) (by lia)
     ·rw[if_neg (by lia)];exact u _ _ (by lia) (by lia)
theorem fo{lt:Nat->Nat->Bool}{N:Nat}(T:Tot lt N)(p:1<=N):Pm (run lt (dG N)) N/\Up lt (run lt (dG N)) N/\okT lt N (dG N):=by
 have g:Pm (eA (aG N)) N:=⟨Array.Perm.refl _⟩;obtain⟨m,a,e,s,t,d,f,h⟩:=G6 T g p;have q:max m 1=m:=by lia
 have r:∃b,run lt (if m<N then kas_bin (N-max m 1) a (max m 1)else u9 a)=b/\Up lt b N/\Pm b N/\okT lt N (if m<N then kas_bin (N-max m 1) a (max m 1)else u9 a):=by
  rw[q];by_cases c:m<N;·rw[if_pos c];exact EV T (N-m) m a f (by lia) d
  ·rw[if_neg c];have n:m=N:=by lia
   exact⟨a,rfl,by rw[<-n];exact d,f,trivial⟩
 obtain⟨b,i,j,k,l⟩:=r;have o:run lt (dG N)=b:=by unfold dG;rw[run_bind,e];exact i
 rw[o];refine⟨k,j,?_⟩;unfold dG;refine oK h ?_;rw[e];exact l
theorem wp_run{lt:Nat->Nat->Bool}{N:Nat}{S:Shared->Prop}{b:Nat->Nat->(Bool->Shared->Prop)->Shared->Prop}{c:Type}{G:c->Shared->Prop}
  (h:∀i j C s,i<N->j<N->i≠j->S s->(∀s',S s'->C (lt i j) s')->b i j C s):
  ∀(t:KasT c)(s:Shared),okT lt N t->S s->(∀s',S s'->G (run lt t) s')->t.kasWp b G s
 |.ret a,s,_,hs,g=>g s hs
 |.ask i j k,s,ok,hs,g=>h i j _ s ok.1.1 ok.1.2.1 ok.1.2.2 hs fun s' d=>wp_run h (k (lt i j)) s' ok.2 d g
end Q
namespace L2
open PySem PySem.Spec PyProof.Rows
structure Fly(h₀ h:Heap)(H:Hp)(pn:List (Addr×Obj))(a:Addr)(c:Value)(d:Option Addr):Prop where
 ex:∃T oe vs oT ts,h.get? a=some oe/\oe.cls=c/\oe.dict=d/\oe.data=.fields vs/\vs[1]? =some (.ref T)/\T≠a/\h.get? T=some oT/\oT.data=.fields ts/\ts[3]? =some .none/\h₀.get? T=none/\H T=none/\∀p∈pn,p.1≠T
 new:h₀.get? a=none
 un:H a=none
 pins:∀p∈pn,p.1≠a
def CXx(P:Program)(w:World):CXT:=fun b H s E e s'=>
 ∃a c d H',e=.ref a/\s'.os=s.os/\ph s'.gens/\Un (frs b) [] H H' s.heap s'.heap/\HOk P w H' s'.heap/\Fly s.heap s'.heap H' [] a c d/\E c d H'
section
variable {X:Cx}{pins:List (Addr×Obj)}{σ:St}{H:Hp}{s:Shared}
theorem Inv.uJ(I:Inv X pins σ H s)(k:∀b o,b≠it->s.heap.get? b=some o->h'.get? b=some o)(L:H it=none)(G:it≠X.env.locals)
  (E:X.s₀.heap.get? it=none)(t:∀x c,X.env.cells.lookup x=some c->c≠it)(F:∀p∈X.pn++pins,p.1≠it):Inv X pins σ H {s with heap:=h',toks:=t'}:=by
 have h:∀b o,X.s₀.heap.get? b=some o->b≠it:=fun b o e z=>by rw[z,E]at e;cases e
 have w:∀b u,H b=some u->b≠it:=fun b u e z=>by rw[z,L]at e;cases e
 refine⟨I.ok,I.os,I.bare,⟨fun b o e n g a=>k b o (h b o e) (I.base.keep b o e n g a),fun b o e n g a=>?_,I.base.free,fun b o e a=>?_,I.base.tups,I.base.frzs,I.base.tbls⟩,?_,fun x c e=>?_,I.free,I.freeC,fun p hp=>?_,fun b u e=>?_,I.len⟩;·obtain⟨R,q⟩:=I.base.slot b o e n g a;exact⟨R,k _ _ (h b o e) q⟩
 ·obtain⟨P,q⟩:=I.base.there b o e a;exact⟨P,k _ _ (h b o e) q⟩
 ·obtain⟨m,⟨o,D,C,M,r⟩,K⟩:=I.loc;refine⟨m,⟨o,D,C,k _ _ (bA G) M,r⟩,fun i x v y A B=>?_⟩;obtain⟨u,Q,l⟩:=K i x v y A B;refine⟨u,Q,?_⟩;rcases l with l|⟨N,c,e,j,q,f⟩;·exact .inl l
  ·exact .inr ⟨N,c,e,j,k _ _ (t x c e) q,f⟩
 ·obtain⟨v,j,q,f⟩:=I.cell x c e;exact⟨v,j,k _ _ (t x c e) q,f⟩
 ·obtain⟨e,n,ne,O,d⟩:=I.pin p hp;exact⟨k _ _ (F p hp) e,n,ne,O,d⟩
 ·refine(I.hok b u e).lE (fun c v J q=>k c v ?_ q) (fun _ q=>q) fun _ _ q=>q;rcases J with z|z;·rw[z];exact w b u e
  ·exact w c _ z
theorem Inv.vA(I:Inv X pins σ H s){o:Obj}{vs:Array Value}(e:s.heap.get? a=some o)(f:o.data=.fields vs):a≠X.env.locals/\∀x c,X.env.cells.lookup x=some c->c≠a:=by
 refine⟨fun z=>?_,fun x c g z=>?_⟩;·obtain⟨m,⟨h,j,i,d,b,_⟩,_⟩:=I.loc;rw[<-z,e]at d;cases d;rw[f]at b;cases b
 ·obtain⟨v,h,d,b⟩:=I.cell x c g;rw[z,e]at d;cases d;rw[f]at b;cases b
theorem dU.has{o:HO}(x:dU P w H h a o):∃b,h.get? a=some b:=by
 cases o with
 |lst xs=>obtain⟨_,_,_,_,e⟩:=x;exact⟨_,e⟩
 |tup xs=>obtain⟨_,_,_,_,e,_⟩:=x;exact⟨_,e⟩
 |dK kvs=>obtain⟨_,_,_,_,o,_,_,e,_⟩:=x;exact⟨_,e⟩
 |dT kvs=>obtain⟨_,_,_,_,o,_,_,e,_⟩:=x;exact⟨_,e⟩
 |set S n=>obtain⟨o,_,_,_,e,_⟩:=x;exact⟨_,e⟩
 |ins C dx fs=>obtain⟨_,_,_,e,_⟩:=x;exact⟨_,e⟩
 |own y=>exact x
 |xd fs=>obtain⟨_,⟨_,_,_,e,_⟩,_⟩:=x;exact⟨_,e⟩
 |rng lo hi=>obtain⟨_,_,_,e⟩:=x;exact⟨_,e⟩
 |frz b u=>obtain⟨e,_⟩:=x;exact⟨_,e⟩
 |tbl ps=>exact⟨_,x⟩
 |met f y=>exact⟨_,x⟩
 |ext φ=>exact x.2.1
section
variable {M:Model}{E:Value->Shared->Prop}{Q:Unit->Shared->Prop}
theorem enter{g:Obj}{vs:Array Value}{r:Value}{more:Bool}(I:Inv X pins σ H s)(v:X.stack=X.env::X.outer)(hf:X.env.frame=some X.env.locals)
  (B:s.heap.get? a=some g)(m:g.data=.fields vs)(S:1<vs.size)(h0:X.s₀.heap.get? a=none)(D:H a=none)(hp:∀p∈X.pn++pins,p.1≠a)
  (h:∀s2,Inv X pins σ H s2->Fly X.s₀.heap s2.heap H (X.pn++pins) a g.cls g.dict->Q () s2):
  wpAny M X.A (do let f<-frameOf X.env;let l<-entryPlaceOf X.env.locals more;let b<-CV r f .none (rawInt X.env.locals) .none l;uE (.ref a) 1 b)
   (fun _ s'=>wpAny M X.A (CC (.ref a) none) Q E s') E s:=by
 have a2:X.A.frames=some (X.env::X.outer):=by rw[<-v];exact I.ok.frames
 have N:s.heap.FunFrames X.base (X.env::X.outer):=by rw[<-v];exact I.stack
 have nofr:∀b∈frs X.stack,H b=none:=I.y6;refine af (wpAny_frameOf_fun a2 N hf fun d R=>?_);have k:Heap.SlotsOnly (frs X.stack) s.heap d:=by rw[v];exact R
 have a1:a∉frs X.stack:=fun t=>by rw[v]at t;obtain⟨_,o,O,a3⟩:=N.mem t;rw[B]at O;cases O;exact a3 vs m
 have u1:Un (frs X.stack) [] H H s.heap d:=
  ⟨fun b o e _ j _=>(k.2.1 b j).trans e,fun b o e _ _ _=>k.2.2 b o e,fun _ _ _ n _=>n,fun b o e _=>let⟨sl,q⟩:=k.2.2 b o e;⟨_,q⟩,fun _ _ q=>q,fun _ _ _ q=>q,fun _ ps q=>⟨#[],by rw[q];simp⟩⟩
 have k1:HOk X.prog X.w H d:=fun b b0 e=>by
  refine(I.hok b b0 e).lE (fun c b2 hc q=>(k.2.1 c fun t=>?_).trans q) (fun _ q=>q) fun _ _ q=>q;have n:=nofr c t;rcases hc with z|z;·rw[z,e]at n;cases n
  ·rw[z]at n;cases n
 have V:Inv X pins σ H {s with heap:=d}:=I.call (g':=s.gens) (t':=s.toks) (d':=s.drawn) (ch:=[]) u1 k1 I.bare fun _ z=>nomatch z;have J:d.get? a=some g:=(k.2.1 a a1).trans B;refine af (wpAny_entryPlaceOf fun i a5=>?_);unfold CV newFields;refine af (bW ?_ (a5.sizeOk5 _ _ _ _ _));generalize hob:({cls:=.type "traceback",dict:=none,data:=.fields ([r,.ref X.env.locals,.none,rawInt X.env.locals,.none]++(if i.isEmpty then bp 6 bK else i)).toArray}:Obj)=ob;have u:ob.data=.fields ([r,.ref X.env.locals,.none,rawInt X.env.locals,.none]++(if i.isEmpty then bp 6 bK else i)).toArray:=by rw[<-hob]
 have a4:ob.isFreed=false:=by rw[<-hob];rfl
 have W:Inv X pins σ H {s with heap:=d.push ob}:=V.kept (t':=s.toks) fun b o e=>ag _ e;have K:(d.push ob).get? a=some g:=ag _ J;have a0:(d.push ob).get? d.objs.size=some ob:=ay _ a4;have x:d.objs.size≠a:=eP (aw J);have A:=ff m (·.setIfInBounds 1 (bB d.objs.size));refine uC K m S ?_;obtain⟨a6,a7⟩:=I.vA B m;have C:Inv X pins σ H {s with heap:=(d.push ob).update a (fB (·.setIfInBounds 1 (.ref d.objs.size)))}:=
  W.uJ (t':=s.toks) (fun b o j e=>by rw[aR _ _ (bA j)];exact e) D a6 h0 a7 hp
 have L:=b7 (fB (·.setIfInBounds 1 (bB d.objs.size))) K (jI A);have w:((d.push ob).update a (fB (·.setIfInBounds 1 (bB d.objs.size)))).get? d.objs.size=some ob:=by rw[aR _ _ (bA x)];exact a0
 have T:3<([r,.ref X.env.locals,.none,rawInt X.env.locals,.none]++(if i.isEmpty then bp 6 bK else i)).toArray.size:=by simp only[aB,bw,bG,pA];lia
 have U:(vs.setIfInBounds 1 (bB d.objs.size))[1]? =some (.ref d.objs.size):=by simp[S]
 refine wpAny_setFlight_none L A U w u T ?_;have y:s.heap.objs.size<=d.objs.size:=IC R.1.symm;have F:X.s₀.heap.get? d.objs.size=none:=qF (aP I.sz y);have G:H d.objs.size=none:=I.hok.fresh y;obtain⟨a8,a9⟩:=C.vA w u;have P:∀p∈X.pn++pins,p.1≠d.objs.size:=fun p hq z=>by have q:=aw (I.pin p hq).1;exact absurd (aT (z▸q) y) (dJ _)
 have Y:=C.uJ (t':=s.toks) (h':=((d.push ob).update a (fB (·.setIfInBounds 1 (.ref d.objs.size)))).update d.objs.size (fB (·.setIfInBounds 3 .none)))
  (fun b o j e=>by rw[aR _ _ (bA j)];exact e) G a8 F a9 P
 refine h _ Y ⟨⟨d.objs.size,_,_,_,_,?_,Obj.cls_mapFields _ _,?_,A,U,x,b7 _ w (jI (ff u _)),ff u _,?_,F,G,P⟩,h0,D,hp⟩;·show(Heap.update _ _ _).get? a=_;rw[aR _ _ x];exact L
 ·obtain⟨c',d',Z,b1⟩:=g;cases Z<;>rfl
 ·rw[qf T]
theorem Bw{c:Value}(I:Inv X pins σ H s)(k:X.stack=X.env::X.outer)(hf:X.env.frame=some X.env.locals)(j:X.ex=[])(b:AR s.heap h' a c args)
  (h:∀s2,Inv X pins σ H s2->Fly X.s₀.heap s2.heap H (X.pn++pins) a c none->Q () s2):
  wpAny M X.A (mW (.ref a) X.env) (fun _ s'=>wpAny M X.A (CC (.ref a) none) Q E s') E {s with heap:=h'}:=by
 obtain⟨t,d,_,_⟩:=b.there;have f:Inv X pins σ H {s with heap:=h'}:=I.kept (t':=s.toks) b.keeps;have i:H a=none:=by
  cases q:H a with
  |none=>rfl
  |some o=>obtain⟨m,e⟩:=(I.hok a o q).has;rw[b.new]at e;cases e
 unfold mW;simp only[hf];refine af (gC (x:=.none) d rfl (by rfl) ?_);rw[if_neg (show ¬(bK != bK)=true by simp)];have g:X.s₀.heap.get? a=none:=by
  cases q:X.s₀.heap.get? a with
  |none=>rfl
  |some o=>obtain⟨l,e⟩:=I.base.there a o q (by rw[j];simp);rw[b.new]at e;cases e
 exact enter f k hf d rfl (by simp) g i (fun p hp z=>by have :=(I.pin p hp).1;rw[z,b.new]at this;cases this) h
theorem By{c:Value}(I:Inv X pins σ H s)(P:X.stack=X.env::X.outer)(hf:X.env.frame=some X.env.locals)(K:X.ex=[])(J:s'.os=s.os)(G:ph s'.gens)(u:Un (frs X.stack) [] H H' s.heap s'.heap)(ok:HOk X.prog X.w H' s'.heap)
  (F:Fly s.heap s'.heap H' [] a c d)(h:∀s2,Inv X pins σ H' s2->Fly X.s₀.heap s2.heap H' (X.pn++pins) a c d->Q () s2):
  wpAny M X.A (mW (.ref a) X.env) (fun _ s'=>wpAny M X.A (CC (.ref a) none) Q E s') E s':=by
 obtain⟨⟨T,L,V,S,U,r,rfl,rfl,m,k,B,f,g,l,t,y,_⟩,v,A,_⟩:=F;have i:Inv X pins σ H' s':=I.call' (ch:=[]) J u ok G fun _ z=>nomatch z;have j:∀b,s.heap.get? b=none->X.s₀.heap.get? b=none:=fun b n=>by
  cases q:X.s₀.heap.get? b with
  |none=>rfl
  |some o=>obtain⟨R,e⟩:=I.base.there b o q (by rw[K];simp);rw[n]at e;cases e
 have w:∀b,s.heap.get? b=none->∀p∈X.pn++pins,p.1≠b:=fun b n p hp z=>by have :=(I.pin p hp).1;rw[z,n]at this;cases this
 unfold mW;simp only[hf];refine af (gC r m k ?_);rw[if_pos (show(bB T != bK)=true by simp)];refine af (gC f g l ?_);rw[if_neg (show ¬(bK==rawInt X.env.locals)=true by simp[rawInt])];refine af (uC f g (cA.mp l).1 ?_);obtain⟨N,O⟩:=i.vA f g;have x:=i.uJ (t':=s'.toks) (h':=s'.heap.update T (fB (·.setIfInBounds 3 .none))) (fun b o C e=>by rw[aR _ _ (bA C)];exact e) y N (j T t) O (w T t);have D:(s'.heap.update T (fB (·.setIfInBounds 3 .none))).get? a=some L:=by rw[aR _ _ B];exact r
 exact enter x P hf D m (cA.mp k).1 (j a v) A (w a v) h
end
end
end L2
namespace L2
open PySem PySem.Spec PySem.W PyProof.Rows
noncomputable def lK(K:ah)(C:Addr):Bool:=
 findIn K (.ref C) "__getattribute__"==some (some (.builtin "BaseException.__getattribute__"))&&findIn K (.ref C) "__getattr__"==some none&&
 findIn K (.ref C) "__class__"==some (some (.builtin "object.__class__"))&&specialIn K (.builtin "object.__class__") "__get__"==some (some (.builtin "getset_descriptor.__get__"))&&
 takesIn K (.builtin "object.__class__")==some true&&mroIn K C (.type "object")==some true&&mroIn K C (.type "BaseException")==some true&&(clsIn K C).isSome
structure wV(K:ah)(C:Addr):Prop where
 ga:findIn K (.ref C) "__getattribute__"=some (some (.builtin "BaseException.__getattribute__"))
 hook:findIn K (.ref C) "__getattr__"=some none
 cl:findIn K (.ref C) "__class__"=some (some (.builtin "object.__class__"))
 get:specialIn K (.builtin "object.__class__") "__get__"=some (some (.builtin "getset_descriptor.__get__"))
 tk:takesIn K (.builtin "object.__class__")=some true
 obj:mroIn K C (.type "object")=some true
 bex:mroIn K C (.type "BaseException")=some true
 isc:(clsIn K C).isSome=true
theorem B5(h:lK K C=true):wV K C:=by unfold lK at h;simp only[aE,beq_iff_eq]at h;obtain⟨⟨⟨⟨⟨⟨⟨a,b⟩,c⟩,d⟩,e⟩,f⟩,g⟩,i⟩:=h;exact⟨a,b,c,d,e,f,g,i⟩
theorem Dp:splitId "BaseException.__getattribute__"=some ("BaseException","__getattribute__"):=by decide+kernel
theorem Hx:builtinKind "BaseException.__getattribute__"=some .slot:=by decide+kernel
theorem ga_ne:(iO "BaseException.__getattribute__"==iO "object.__getattribute__")=false:=by decide+kernel
section
variable {prog:Program}{w:World}{A:Around}{E:Value->Shared->Prop}{s:Shared}{K:ah}{a C:Addr}{o:Obj}{od:Option Obj}
theorem wR{M:Model}{b:Value}{Q:Unit->Shared->Prop}{g:Array ly}{d:Drawn}{t:Nat}{c:OsState}(e:K.In h)(J:InstAt h a o C od)(F:wV K C)(hq:Q () ⟨h,g,d,t,c⟩):
  wpAny M A (CF "BaseException.__getattribute__" ⟨[.ref a,b],[]⟩) Q E ⟨h,g,d,t,c⟩:=by
 have f:=J.type (M:=M);have i:=looks_mroIn (M:=M) e F.bex;have j:=PySem.F.args_bexc_ga (.ref a) b;simp only[CF,Hx,Dp];unfold Iv;repeat(first |lk|wp_step)
 exact hq
theorem Ib{tk:Tok}{R:Result->Shared->Prop}(b:K.In s.heap)(J:InstAt s.heap a o C od)(F:wV K C)(h:R (.ok (.ret (.ref C))) s):
  gH (model prog w) A (.call (.builtin "BaseException.__getattribute__") ⟨[.ref a,.str "__class__" tk],[]⟩) R s:=by
 have hf:uY K C od "__class__"=some (.bind (.builtin "getset_descriptor.__get__") (.builtin "object.__class__")):=by obtain⟨cd,c⟩:=ck.mp F.isc;unfold uY;rw[c,fG,F.cl,fG];simp[F.get,F.tk]
 obtain⟨e,g,d,t,f⟩:=s;have i:=J.type (M:=model prog w);have j:=looks_find (M:=model prog w) b J hf;refine iK gh.ga.plain C3 (wR b J F ?_);unfold Builtin.«object.__getattribute__»;repeat(first |with_reducible refine iI ?_ |lk|wp_step)
 refine class_get (s:=⟨e,g,d,t,f⟩) b J F.obj ?_;repeat(first |lk|wp_step)
 exact h
theorem HI{Q:Option Value->Shared->Prop}(b:K.In s.heap)(J:InstAt s.heap a o C od)(F:wV K C)(h:Q (some (.ref C)) {s with toks:=s.toks+1}):
  wpAny (model prog w) A (getAttr? (.ref a) "__class__") Q E s:=by
 obtain⟨j,g,d,t,k⟩:=s;have c:=J.type (M:=model prog w);have e:=r9 (M:=model prog w) b F.ga;have f:=r9 (M:=model prog w) b F.hook;have hf:uY K C od "__class__"=some (.bind (.builtin "getset_descriptor.__get__") (.builtin "object.__class__")):=by obtain⟨cd,i⟩:=ck.mp F.isc;unfold uY;rw[i,fG,F.cl,fG];simp[F.get,F.tk]
 have l:=looks_find (M:=model prog w) b J hf;have m:=looks_mroIn (M:=model prog w) b F.bex;unfold getAttr? getAttrBy? getAttrBy;refine af (wpAny_mkText (af (gT (bQ (af (c.at (af (e.at ?_))))))));show wpAny _ _ (if(CD (.ref C)&&(iO "BaseException.__getattribute__"==iO "object.__getattribute__"))=true then _ else _) _ _ _;rw[ga_ne,fP,if_neg ao];unfold getAttrByItsOwn hookBefore;rw[if_pos (show CD (.ref C)=true from rfl)];refine af (f.at ?_);unfold callGetattribute boundAndCalled;rw[de,if_neg ao];refine af (gT (bQ (af ?_)));rw[gh.ga.bind (.ref a)];refine aj (iI (Ib (s:=⟨j,g,d,t+1,k⟩) b J F ?_));exact handed_on rfl (aj h)
end
abbrev bmV:List Value:=[.type "ValueError",.type "Exception",.type "BaseException",.type "object"]
noncomputable def kR(a:Addr)(c:Value)(d:Option Addr):HO:=.ext fun h=>∃o,h.get? a=some o/\o.cls=c/\o.dict=d/\notCls o=true
noncomputable abbrev excO(a:Addr)(c:Value):HO:=kR a c none
section
variable {K:ah}{a C:Addr}
theorem KU(F:wV K C):KitX K (.ref a) (.ref C) (fun h=>∃o od,InstAt h a o C od) where
 ty:=fun M h _ p=>by obtain⟨o,od,J⟩:=p;exact J.type
 it:=fun M h c _=>by
  obtain⟨cd,b⟩:=ck.mp F.isc;unfold clsIn at b;split at b;·rename_i ho;intro A Q E s k q;unfold isType loadHead;exact af (Ij (k _ _ (c _ _ ho)) (aj q))
  ·cases b
 ne:=fun h e f g n i c d=>by
  obtain⟨cd,b⟩:=ck.mp F.isc;refine gJ.mpr fun q=>?_;obtain rfl:C=e:=bB.inj (beq_iff_eq.mp q);unfold clsIn at b;split at b;·rename_i ho;have z:=(c _ _ ho).symm.trans d;cases z
  ·cases b
 ca:=fun c p k=>by obtain⟨o,od,J⟩:=p;exact HI c J F k
theorem Eb(ok:HOk P w H h)(e:H a=some (kR a (.ref C) d))(i:∀dd,d=some dd->∃φ,H dd=some (.ext φ)):∃o od,InstAt h a o C od:=by
 obtain⟨⟨o,b,c,f,g⟩,_⟩:=ok a _ e;cases d with
 |none=>exact⟨o,none,b,c,g,by rw[f];exact True.intro⟩
 |some dd=>obtain⟨u,j⟩:=i dd rfl;obtain⟨od,z⟩:=(ok dd _ j).2.1;exact⟨o,some od,b,c,g,by rw[f];exact z⟩
end
noncomputable def Cx.re(X:Cx)(A:Around)(calm:Bool)(pn:List (Addr×Obj))(xe:Value->Shared->Prop):Cx:={X with A:=A,calm:=calm,pn:=pn,xe:=xe}
section
variable {X:Cx}{pins:List (Addr×Obj)}{σ:St}{H:Hp}{s:Shared}
theorem Inv.re{calm:Bool}(I:Inv X pins σ H s)(a:A.frames=X.A.frames)(b:calm=true->A.handled=none)(hp:∀p∈pn++pins',p∈X.pn++pins):
  Inv (X.re A calm pn xe) pins' σ H s:=
 ⟨⟨I.ok.mod,I.ok.kind,I.ok.glob,I.ok.blt,I.ok.above,I.ok.inj,I.ok.has,I.ok.cab,b,a.trans I.ok.frames,I.ok.stk,I.ok.exf,I.ok.bs,I.ok.bsz,I.ok.noex,I.ok.exfs,I.ok.wk,I.ok.frf⟩,
  I.os,I.bare,I.base,I.loc,I.cell,I.free,I.freeC,fun p q=>I.pin p (hp p q),I.hok,I.len⟩
theorem Inv.IW{calm:Bool}(ok:X.Ok)(I:Inv (X.re A calm pn xe) pins' σ H s)(hp:∀p∈X.pn++pins,p∈pn++pins'):Inv X pins σ H s:=
 ⟨ok,I.os,I.bare,I.base,I.loc,I.cell,I.free,I.freeC,fun p q=>I.pin p (hp p q),I.hok,I.len⟩
theorem oN{M:Model}{n:Str}{Q:Unit->Shared->Prop}(I:Inv X pins σ H s)(B:X.N.Nodup)(hi:X.N[i]? =some n)(F:X.env.scope.names.lookup n=some .local)
  (h:∀s',Inv X pins (σ.set i none) H s'->Q () s'):wpAny M A (do bindName X.env n .none;unbindBehindTheSuite X.env n pos) Q E s:=by
 obtain⟨m,u,G⟩:=id I.loc;have D:(X.env.scope.kind== .class||(X.env.scope.kind== .module&&X.env.locals != X.env.globals))=false:=by rw[I.ok.kind];rfl
 obtain⟨V,_,_,U,_⟩:=id u;refine wpAny_nameGoes_keeps F u D fun T v J a=>h _ ?_;have t:∀b o,X.s₀.heap.get? b=some o->b≠X.env.locals:=fun b o e=>aK (aT (aw e) I.ok.above);refine⟨I.ok,I.os,I.bare,⟨fun b o e n r l=>(a.2 b (t b o e)).trans (I.base.keep b o e n r l),fun b o e n r l=>?_,I.base.free,fun b o e l=>?_,I.base.tups,I.base.frzs,I.base.tbls⟩,⟨_,J,fun j y S f g x=>?_⟩,fun y c e=>?_,I.free,I.freeC,fun p hp=>?_,fun b N e=>?_,by simpa using I.len⟩;·obtain⟨P,f⟩:=I.base.slot b o e n r l;exact⟨P,(a.2 b (t b o e)).trans f⟩
 ·obtain⟨L,f⟩:=I.base.there b o e l;exact⟨L,(a.2 b (t b o e)).trans f⟩
 ·by_cases hj:j=i
  ·subst hj;rw[List.getElem?_set]at g;split at g;·split at g<;>cases g
   ·exact absurd rfl (by assumption)
  ·rw[qE (bA hj)]at g;obtain⟨R,O,q⟩:=G j y S f g x;refine⟨R,O,?_⟩;rcases q with⟨k,e⟩ |⟨k,c,e,z⟩;·refine .inl ⟨k,?_⟩;have :y≠n:=fun e=>hj (vM B f (e▸hi));simp[this,e]
   ·exact .inr ⟨k,c,e,z.sameBut a (I.cne y c e)⟩
 ·obtain⟨w,z⟩:=I.cell y c e;exact⟨w,z.sameBut a (I.cne y c e)⟩
 ·obtain⟨e,n,ne,K,d⟩:=I.pin p hp;exact⟨(a.2 p.1 ne).trans e,n,ne,K,d⟩
 ·refine(I.hok b N e).lE (fun c w C q=>(a.2 c ?_).trans q) (fun _ q=>q) fun _ _ q=>q;have hf:=I.free;rintro rfl;rcases C with z|z;·rw[<-z,hf]at e;cases e
  ·rw[hf]at z;cases z
theorem Inv.take{c:Value}(I:Inv X pins σ H s)(J:X.ex=[])(F:Fly X.s₀.heap s.heap H (X.pn++pins) a c d):Inv X pins σ (upd H a (kR a c d)) s:=by
 obtain⟨⟨T,l,M,K,L,i,v,w,j,_⟩,y,f,hp⟩:=F;obtain⟨C,D⟩:=I.vA i j;refine⟨I.ok,I.os,I.bare,⟨I.base.keep,I.base.slot,fun b o e n h=>?_,I.base.there,fun b m e=>?_,fun b o u e=>?_,fun b B e=>?_⟩,I.loc,I.cell,?_,fun x g e=>?_,fun p q=>?_,fun b u e=>?_,I.len⟩;·rw[aS (fun z=>by rw[z,y]at e;cases e)];exact I.base.free b o e n h
 ·have q:=I.base.tups b m e;rw[aS (a9 q f)];exact q
 ·have q:=I.base.frzs b o u e;rw[aS (a9 q f)];exact q
 ·obtain⟨more,q⟩:=I.base.tbls b B e;exact⟨more,by rw[aS (a9 q f)];exact q⟩
 ·rw[aS (bA C)];exact I.free
 ·rw[aS (D x g e)];exact I.freeC x g e
 ·obtain⟨e,n,ne,A,d⟩:=I.pin p q;exact⟨e,by rw[aS (hp p q)];exact n,ne,A,d⟩
 ·by_cases h:b=a;·subst h;rw[au]at e;cases e;refine⟨⟨l,i,v,w,by unfold notCls;rw[j]⟩,⟨l,i⟩,fun E G p k=>?_⟩;obtain⟨o,t,r⟩:=p;exact⟨o,k o t,r⟩
  ·rw[aS h]at e;exact(I.hok b u e).lE (fun _ _ _ q=>q) (fun g q=>by rw[aS (a9 q f)];exact q) fun g m q=>by rw[aS (a9 q f)];exact q
end
noncomputable def Ends.drop(D:Ends)(i:Nat):Ends:={nx:=fun σ H=>D.nx (σ.set i none) H,rt:=D.rt,bk:=fun σ H=>D.bk (σ.set i none) H,ct:=fun σ H=>D.ct (σ.set i none) H}
def qp(K:ah)(C:Addr)(i:Nat)(ts:TS)(D:Ends):St->XK:=fun σ c d H=>
 c=c/\exmOne K c (.ref C)=some true/\∀a,H a=none->ts (D.drop i) (σ.set i (some (.ref a))) (upd H a (kR a c d))
def j8(X:Cx)(pins:List (Addr×Obj))(D:Ends)(a:List ExceptHandler):Value->Shared->Prop:=fun e b=>
 wpAny (model X.prog X.w) X.A (mW e X.env) (fun _ s2=>wpAny (model X.prog X.w) X.A (CC e none) (fun _ s3=>wpAny (model X.prog X.w) X.A (handleBy e X.env a) (SP X pins D) X.xe s3) X.xe s2) X.xe b
section
variable {X:Cx}{pins:List (Addr×Obj)}{σ:St}{H:Hp}{s:Shared}{x n:Str}{C:Addr}{i:Nat}{b₀:Stmt}{suite:List Stmt}{np hpos pos:Pos}{ts:TS}{D:Ends}
structure Cz(X:Cx)(x n:Str)(C:Addr)(i:Nat)(suite:List Stmt)(ts:TS):Prop where
 nd:X.N.Nodup
 at_:X.N[i]? =some n
 loc:X.env.scope.names.lookup n=some .local
 gl:Gl X x
 mg:X.mg x=some (.ref C)
 db:(x==("__debug__":Str))=false
 stk:X.stack=X.env::X.outer
 fr:X.env.frame=some X.env.locals
 ex:X.ex=[]
 su:∀(pins:List (Addr×Obj))(a:Addr),PSs (X.re (X.A.mark (some (.ref a))) false (X.pn++pins) (fun _ _=>False)) suite ts
theorem sW{c:Value}(O:Cz X x n C i (b₀::suite) ts)(I:Inv X pins σ H s)(F:Fly X.s₀.heap s.heap H (X.pn++pins) a c d)(h:qp X.K C i ts D σ c d H):
  wpAny (model X.prog X.w) X.A (handleBy (.ref a) X.env [.ExceptHandler (some (.Name x np)) (some n) (b₀::suite) hpos]) (SP X pins D) X.xe s:=by
 obtain⟨_,hm,hk⟩:=h;obtain⟨⟨T,oe,vs,oT,tv,o,t,Y,G,w,E,m,l,y,K,A,L⟩,a0,B,hp⟩:=F;refine wpAny_handleBy_cons (codeAny_handlers_test ?_) (by intro q;cases q);have Q:Inv (X.re (X.A.mark (some (.ref a))) false (X.pn++pins) (fun _ _=>False)) [] σ H s:=I.re rfl (fun z=>nomatch z) fun p q=>by simpa using q
 refine oO Q O.gl O.mg ?_ O.db;have W:Looks (model X.prog X.w) s.heap (typeOf (.ref a)) c:=t▸(Looks.ld o).andThen .now;refine(exm_one I.kIn W hm).here (codeAny_handlers_suite_as ?_);refine wpAny_setFlight_none o G w m l (cA.mp y).1 ?_;obtain⟨a1,a2⟩:=I.vA m l;have R:=I.uJ (t':=s.toks) (h':=s.heap.update T (fB (·.setIfInBounds 3 .none))) (fun a3 a4 Z e=>by rw[aR _ _ (bA Z)];exact e) A a1 K a2 L;have P:Fly X.s₀.heap (s.heap.update T (fB (·.setIfInBounds 3 .none))) H (X.pn++pins) a c d:=by refine⟨⟨T,oe,vs,_,_,by rw[aR _ _ E];exact o,t,Y,G,w,E,b7 _ m (jI (ff l _)),ff l _,?_,K,A,L⟩,a0,B,hp⟩;rw[qf (cA.mp y).1]
 have S:=R.take O.ex P;refine vj S O.nd O.at_ (.inl O.loc) (v:=.ref a) rfl (fun M U=>?_) (.inr O.loc);have V:Inv (X.re (X.A.mark (some (.ref a))) false (X.pn++pins) (fun _ _=>False)) [] (σ.set i (some (.ref a))) (upd H a (kR a c d)) M:=U.re rfl (fun z=>nomatch z) fun p q=>by simpa using q
 refine cX (O.su pins a [] M _ _ (D.drop i) V (hk a B)) (fun f N q=>?_) fun _ _ z=>z.elim;have k:∀{j:St}{b:Hp},Inv (X.re (X.A.mark (some (.ref a))) false (X.pn++pins) (fun _ _=>False)) [] j b N->Inv X pins j b N:=fun{j b} J=>J.IW I.ok fun p q=>by simpa using q
 cases f with
 |next =>obtain⟨j,b,J,q⟩:=q;exact oN (k J) O.nd O.at_ O.loc fun r g=>⟨_,_,g,q⟩
 |brk=>obtain⟨j,b,J,q⟩:=q;exact oN (k J) O.nd O.at_ O.loc fun r g=>⟨_,_,g,q⟩
 |cont=>obtain⟨j,b,J,q⟩:=q;exact oN (k J) O.nd O.at_ O.loc fun r g=>⟨_,_,g,q⟩
 |ret u=>obtain⟨v,j,b,J,rv,q⟩:=q;exact oN (k J) O.nd O.at_ O.loc fun r g=>⟨v,_,_,g,rv,q⟩
theorem Ja(O:Cz X x n C i (b₀::suite) ts){e:Value}(ok:X.Ok)(m:X.calm=true)
  (I:Inv (X.re X.A X.calm (X.pn++pins) (j8 X pins D [.ExceptHandler (some (.Name x np)) (some n) (b₀::suite) hpos])) pins' σ H s)(h:CXx X.prog X.w X.stack H s (qp X.K C i ts D σ) e s'):
  j8 X pins D [.ExceptHandler (some (.Name x np)) (some n) (b₀::suite) hpos] e s':=by
 obtain⟨a,c,d,l,rfl,j,g,u,k,F,q⟩:=h;have J:Inv X pins σ H s:=I.IW ok fun p z=>cJ _ z;exact By J O.stk O.fr O.ex j g u k F fun o f b=>sW O f b q
theorem Jb(O:Cz X x n C i (b₀::suite) ts){c:Value}(ok:X.Ok)
  (I:Inv (X.re X.A X.calm (X.pn++pins) (j8 X pins D [.ExceptHandler (some (.Name x np)) (some n) (b₀::suite) hpos])) pins' σ H s)(e:AR s.heap h' a c args)(h:qp X.K C i ts D σ c none H):
  j8 X pins D [.ExceptHandler (some (.Name x np)) (some n) (b₀::suite) hpos] (.ref a) {s with heap:=h'}:=by
 have J:Inv X pins σ H s:=I.IW ok fun p z=>cJ _ z;exact Bw J O.stk O.fr O.ex e fun f d b=>sW O d b h
theorem ps_try{g:List Stmt}{tb:Ends->TS}(j:∀pins D,X.Ok->PSs (X.re X.A X.calm (X.pn++pins) (j8 X pins D [.ExceptHandler (some (.Name x np)) (some n) (b₀::suite) hpos])) g (tb D)):
  PS X (.Try g [.ExceptHandler (some (.Name x np)) (some n) (b₀::suite) hpos] [] [] pos) (fun D σ H=>tb D D σ H):=by
 intro pins s σ H D I h;have i:Inv (X.re X.A X.calm (X.pn++pins) (j8 X pins D [.ExceptHandler (some (.Name x np)) (some n) (b₀::suite) hpos])) [] σ H s:=I.re rfl I.ok.hd fun p q=>by simpa using q
 refine wpAny_Try_except (cX (j pins D I.ok [] s σ H D i h) (fun f d q=>?_) fun e d q=>q);have c:∀{b:St}{a:Hp},Inv (X.re X.A X.calm (X.pn++pins) (j8 X pins D [.ExceptHandler (some (.Name x np)) (some n) (b₀::suite) hpos])) [] b a d->Inv X pins b a d:=fun{b a} J=>J.IW I.ok fun p q=>by simpa using q
 cases f with
 |next =>obtain⟨b,a,J,q⟩:=q;exact zx pins d b a D (c J) q
 |brk=>obtain⟨b,a,J,q⟩:=q;exact⟨_,_,c J,q⟩
 |cont=>obtain⟨b,a,J,q⟩:=q;exact⟨_,_,c J,q⟩
 |ret u=>obtain⟨v,b,a,J,k,q⟩:=q;exact⟨v,_,_,c J,k,q⟩
end
noncomputable abbrev XS:=St->XK
noncomputable abbrev N0:XS:=fun _=>E0
def yS(CX:CXT)(X:Cx)(E:XS):Prop:=∀(pins:List (Addr×Obj))(σ:St)(H:Hp)(s:Shared)(e:Value)(s':Shared),Inv X pins σ H s->CX X.stack H s (E σ) e s'->X.xe e s'
def MadeS(X:Cx)(E:XS):Prop:=∀(pins:List (Addr×Obj))(σ:St)(H:Hp)(s:Shared)(a:Addr)(c:Value)(args:List Value)(h':Heap),Inv X pins σ H s->AR s.heap h' a c args->E σ c none H->X.xe (.ref a) {s with heap:=h'}
section
variable {X:Cx}{CX:CXT}{k:Nat}{f:Addr}{fd:fh}{ps:List Str}{sp:Sp}{dvs:List V}{ds:List Value}{E:XS}{x:Str}{p pos:Pos}{e:Expr}{es:List Expr}{t:TA}
theorem EU{Q:VK}{vs:List V}(F:ju X.prog X.w X.K X.mg X.base CX k f fd ps sp)(g:jf k X.A)(b:Binds X.K fd ps ds)(c:bM dvs ds)(i:yS CX X E)
  (I:Inv X pins σ H s)(r:bM vs us)(h:sp (vs++dvs) H Q (E σ)):wpAny (model X.prog X.w) X.A (call (.ref f) us) (EP X pins σ Q) X.xe s:=by
 have a:bM (vs++dvs) (us++ds):=r.append c;have d:(us++ds).length=ps.length:=a.length.symm.trans (F.len _ _ _ _ h);refine iI (jT (F.run X.A X.stack s H ⟨us,[]⟩ (us++ds) (vs++dvs) Q (E σ) g I.env0 (b s us I.kIn d) a h) fun r j hq=>?_);cases r with
 |error e=>exact i pins σ H s e j I hq
 |ok fl=>cases fl<;>first |exact I.after hq|exact gS hq
theorem Kh(F:ju X.prog X.w X.K X.mg X.base CX k f fd ps sp)(o:jf k X.A)(j:Gl X x)(m:X.mg x=some (.ref f))(l:cL X.K (.ref f)=true)(c:Binds X.K fd ps ds)(d:bM dvs ds)(u:yS CX X E)
  (b:PA X (e::es) t)(g:(x==("__debug__":Str))=false)(i:bz (e::es) X.env=(false,eval e X.env)::bz es X.env)(n:(backTo pos (bz es X.env)).any (·.1)=false):
  PE X (.Call (.Name x p) (e::es) [] pos) (fun σ H Q=>A2 sp dvs (E σ) t σ H Q):=by
 intro v s σ H Q I h;refine gF (oO I j m ?_ g);exact IA (h₀:=X.base) I.ok.mod.kin l (thn (b pos v s σ H _ I h) fun z y ⟨A,w,a,r,q⟩=>⟨a.kIn,EU F o c d u a r q⟩) i n
theorem He(F:ju X.prog X.w X.K X.mg X.base CX k f fd ps sp)(i:jf k X.A)(d:Gl X x)(g:X.mg x=some (.ref f))(e:cL X.K (.ref f)=true)(a:Binds X.K fd ps ds)(b:bM dvs ds)(j:yS CX X E)
  (c:(x==("__debug__":Str))=false):PE X (.Call (.Name x p) [] [] pos) (fun σ H Q=>A2 sp dvs (E σ) uu σ H Q):=by
 intro l s σ H Q I h;refine gF (oO I d g ?_ c);exact PySem.W.callWith_K0 I.kIn e (EU (us:=[]) F i a b j I .nil h)
end
section
variable {P:Program}{w:World}{K:ah}{mg:Str->Option Value}{base:Heap}
theorem HZ{cd:Value}{outer:List Env}{E:XK}:
  yS (CXx P w) (Ai (CXx P w) P w K mg base N qual scope f cd A outer s H E) (fun _=>E):=by
 intro R W Q U e S I h;obtain⟨a,c,d,i,rfl,D,C,u,G,F,q⟩:=h;show wpAny _ _ (leaving _ _) _ _ _;unfold leaving;refine af (By I rfl rfl rfl D C u G F fun V b g=>?_);obtain⟨⟨T,L,O,J,M,l,o,p,r,t,v,x,y,B,m,n,_⟩,j,k,_⟩:=g;exact⟨a,c,d,i,rfl,b.os,b.bare,b.base,b.hok,⟨⟨T,L,O,J,M,l,o,p,r,t,v,x,y,B,m,n,fun _ z=>nomatch z⟩,j,k,fun _ z=>nomatch z⟩,q⟩
theorem Ia{cd:Value}{outer:List Env}{E:XK}:
  MadeS (Ai (CXx P w) P w K mg base N qual scope f cd A outer s H E) (fun _=>E):=by
 intro G M e J a c D F I v q;show wpAny _ _ (leaving _ _) _ _ _;unfold leaving;refine af (Bw I rfl rfl rfl v fun L b d=>?_);obtain⟨⟨T,y,C,x,B,i,l,m,n,o,p,r,t,u,j,k,_⟩,g,h,_⟩:=d;exact⟨a,c,none,e,rfl,b.os,b.bare,b.base,b.hok,⟨⟨T,y,C,x,B,i,l,m,n,o,p,r,t,u,j,k,fun _ z=>nomatch z⟩,g,h,fun _ z=>nomatch z⟩,q⟩
theorem HJ{o:List Env}{e:Value}(h:CXx P w o H s E0 e s'):False:=by obtain⟨_,_,_,_,_,_,_,_,_,_,q⟩:=h;exact q
theorem ju.calm{a:fh}{sp:Sp}(F:ju P w K mg base (CXx P w) k f a ps sp):ju P w K mg base CX0 k f a ps (fun vs H Q _=>sp vs H Q E0):=
 ⟨fun vs H Q E h=>F.len vs H Q E0 h,fun A l s H b m vs Q E g d c j i=>jT (F.run A l s H b m vs Q E0 g d c j i) fun r n q=>by
  cases r with
  |error e=>exact HJ q
  |ok fl=>cases fl<;>exact q⟩
end
end L2
namespace Q
open PySem PySem.Spec PySem.W PyProof.Rows L2
noncomputable def gK(lt:Nat->Nat->Bool)(vs:List Value):List Value:=if vs.length<2 then vs else(run lt (dG vs.length)).toList.map fun i=>vs.getD i .none
def Ii(prog:Program)(w:World)(A:Around)(lt:Nat->Nat->Bool)(vs:List Value)(h0:Heap):Prop:=
 ∀a:Shared,(∀b o,h0.get? b=some o->a.heap.get? b=some o)->
  ∃κ,(∀(c:SortKind->Shared->Prop)(d:Value->Shared->Prop),c κ a->wpAny (model prog w) A (keyKind' vs.toArray) c d a)/\
   ∀i j (C:Bool->Shared->Prop),i<vs.length->j<vs.length->i≠j->C (lt i j) a->kas_ask prog w A κ vs i j C a
section
variable {prog:Program}{w:World}{A:Around}{E:Value->Shared->Prop}{s:Shared}{lt:Nat->Nat->Bool}{vs:List Value}
theorem fY(h:n<64):n<=sizeLine:=by rw[uD];lia
theorem EO(h:n<64):n<=sizeLine+1:=fv (fY h)
theorem EN{P:dI->Shared->Prop}(T:Tot lt vs.length)(r:s.heap.get? a=some (seqObj "list" vs.toArray n))(k0:∀b o,h0.get? b=some o->s.heap.get? b=some o/\b≠a)(g:vs.length<64)
  (ask:2<=vs.length->Ii prog w A lt vs h0)(h:P (.done (.ret .none)) {s with heap:=sortedHeap s.heap a vs (gK lt vs).toArray}):wpAny (model prog w) A (Builtin.«list.sort» ⟨[.ref a],[]⟩) P E s:=by
 have f:vs.toArray.size=vs.length:=by simp
 obtain⟨c,v⟩:∃c,(s.heap.update a (a8 fun _=> #[])).get? a=some (seqObj "list" #[] c):=⟨_,sj r _⟩;have l:(((s.heap.update a (a8 fun _=> #[])).push (seqObj "tuple" vs.toArray 0)).push (seqObj "list" #[] 0)).get? a=some (seqObj "list" #[] c):=ag _ (ag _ v);have N:∀b o,h0.get? b=some o->(((s.heap.update a (a8 fun _=> #[])).push (seqObj "tuple" vs.toArray 0)).push (seqObj "list" #[] 0)).get? b=some o:=fun b o e=>
  ag _ (ag _ ((aR _ _ (bA (k0 b o e).2)).trans (k0 b o e).1))
 rw[list_sort_plain];refine af (listItems_at r rfl (af (fS r rfl ?_ (by rw[f];exact fY g) (aZ _))));refine af (uF v rfl (af (wpAny_newTuple ?_ (show vs.length<=_ from fY g))));refine af (pv (bQ ?_) (aZ _));by_cases hn:vs.length<2
 ·have e:gK lt vs=vs:=if_pos hn;rw[e]at h;dsimp only;rw[if_pos (by rw[f];exact hn),if_pos (by rw[f];exact hn)];refine af (aj (af ?_));rw[StateT.run_pure];refine aj (af (uF l rfl (af (fS l rfl ?_ (aZ _) ?_))))
  ·have q:(arrOf (SortSt.mk' general' (vs.toArray.zip vs.toArray) #[] 7 none)).map (·.2)=vs.toArray:=by show(vs.toArray.zip vs.toArray).map (·.2)=vs.toArray;apply Mn;simp[xl]
   rw[q];have k:failedOf ((),SortSt.mk' general' (vs.toArray.zip vs.toArray) #[] 7 none).snd=none:=rfl;rw[k];simp only[bne_self_eq_false,aW,if_false];exact aj h
  ·show((vs.toArray.zip vs.toArray).map (·.2)).size<=_;rw[Array.size_map,Array.size_zip,f,Nat.min_self];exact fv (fY g)
 ·have u:2<=vs.length:=by lia
  have e:gK lt vs=(run lt (dG vs.length)).toList.map fun i=>vs.getD i .none:=if_neg hn;rw[e]at h;dsimp only;rw[if_neg (by rw[f];exact hn),if_neg (by rw[f];exact hn)];obtain⟨κ,J,K⟩:=ask u {s with heap:=((s.heap.update a (a8 fun _=> #[])).push (seqObj "tuple" vs.toArray 0)).push (seqObj "list" #[] 0)} N;obtain⟨y,O,x⟩:=fo T (by lia:1<=vs.length);refine af (J _ _ (af ?_));have key:=kat_run (prog:=prog) (w:=w) (A:=A) (E:=E) (κ:=κ) (ks:=vs) (vs:=vs) (s:={s with heap:=((s.heap.update a (a8 fun _=> #[])).push (seqObj "tuple" vs.toArray 0)).push (seqObj "list" #[] 0)})
   (Q:=fun m d=>d={s with heap:=((s.heap.update a (a8 fun _=> #[])).push (seqObj "tuple" vs.toArray 0)).push (seqObj "list" #[] 0)}/\arrOf m=(run lt (dG vs.length)).map (kas_item (vs.toArray.zip vs.toArray))/\failedOf m=none)
   (G:=fun p d=>d={s with heap:=((s.heap.update a (a8 fun _=> #[])).push (seqObj "tuple" vs.toArray 0)).push (seqObj "list" #[] 0)}/\p=run lt (dG vs.length)) rfl u g
   (fun p m d _ B q k=>⟨k.1,by rw[B,k.2],q⟩)
   (wp_run (S:=fun d=>d={s with heap:=((s.heap.update a (a8 fun _=> #[])).push (seqObj "tuple" vs.toArray 0)).push (seqObj "list" #[] 0)}) (fun i j C d hi I H t D=>by subst t;exact K i j C hi I H (D _ rfl)) _ _ x rfl fun d t=>⟨t,rfl⟩)
  refine cX key ?_ fun _ _ z=>z;rintro⟨⟨⟩,m⟩ d ⟨rfl,F,hf⟩;have M:=kat_snds (ks:=vs) (vs:=vs) rfl F;dsimp only;rw[M,hf];have L:(eA ((run lt (dG vs.length)).toList.map fun i=>vs.getD i bK)).size<=sizeLine+1:=by rw[aB,ai,cu,y.size];exact fv (fY g)
  refine af (uF l rfl (af (fS l rfl ?_ (aZ _) L)));simp only[bne_self_eq_false,aW,if_false];exact aj h
theorem x5{Q:Value->Shared->Prop}(T:Tot lt vs.length)(g:s.heap.IsList l vs.toArray)(a:vs.length<64)(ask:2<=vs.length->Ii prog w A.in1.in1 lt vs s.heap)
  (h:Q (.ref (s.heap.objs.size+1)) {s with heap:=sortedAll s.heap vs (gK lt vs).toArray}):wpAny (model prog w) A (call (.builtin "sorted") [.ref l]) Q E s:=by
 refine mq kind_sorted plain_sorted entry_sorted (args_sorted1 _) ?_;unfold Builtin.«sorted»;refine af (m:=checkCount "sorted" 1 1 _) (aj (af (collect_list g (af (pv ?_ (show vs.length<=_ from fY a))) (fY a))));generalize hH:(s.heap.push (seqObj "list" #[] 0)).update s.heap.objs.size (a8 (·++vs.toArray))=h1;have d:h1.objs.size=s.heap.objs.size+1:=by rw[<-hH,m4,Io]
 have i:∀b o,s.heap.get? b=some o->h1.get? b=some o:=fun b o e=>by have f:=aw e;rw[<-hH,aR _ _ (eP f)];exact ag _ e
 have c:(h1.push (seqObj "list" vs.toArray 0)).get? (s.heap.objs.size+1)=some (seqObj "list" vs.toArray 0):=by rw[<-d];exact ay _ rfl
 have hq:sortedAll s.heap vs (gK lt vs).toArray=sortedHeap (h1.push (seqObj "list" vs.toArray 0)) (s.heap.objs.size+1) vs (gK lt vs).toArray:=by rw[<-hH];rfl
 rw[hq]at h;show wpAny _ _ _ _ _ {s with heap:=h1.push (seqObj "list" vs.toArray 0)};rw[d];refine af (bQ (cF Im ⟨_,c,rfl⟩ EA (EN T c (fun b o e=>⟨ag _ (i b o e),aK (bL (aw e))⟩) a ask ⟨_,rfl,?_⟩) (args_list_sort _)));exact aj ⟨_,rfl,h⟩
end
noncomputable def tlt(x y:Str):Bool:=decide (x.cps.toList<y.cps.toList)
noncomputable def nF(ks:List Str)(i j:Nat):Bool:=tlt (ks.getD i "") (ks.getD j "")
noncomputable def ord(ks:List Str):List Nat:=if ks.length<2 then aG ks.length else(run (nF ks) (dG ks.length)).toList
noncomputable def sortBy{α:Type}(d:α)(ks:List Str)(ys:List α):List α:=(ord ks).map fun i=>ys.getD i d
theorem str_ext{y:Str}(h:x.cps.toList=y.cps.toList):x=y:=by obtain⟨a⟩:=x;obtain⟨b⟩:=y;have :a=b:=Array.toList_inj.mp h;rw[this]
theorem xV{y:Str}(a:tlt x y=true)(b:tlt y z=true):tlt x z=true:=by unfold tlt at *;rw[decide_eq_true_eq]at *;exact List.lt_trans a b
theorem tlt_tri{y:Str}(h:x≠y):tlt x y= !tlt y x:=by
 unfold tlt;by_cases c:x.cps.toList<y.cps.toList;·have d:¬y.cps.toList<x.cps.toList:=fun z=>List.lt_irrefl _ (List.lt_trans c z);rw[decide_eq_true c,decide_eq_false d];rfl
 ·by_cases d:y.cps.toList<x.cps.toList;·rw[decide_eq_false c,decide_eq_true d];rfl
  ·exact absurd (str_ext (List.le_antisymm (List.not_lt.mp d) (List.not_lt.mp c))) h
theorem vd(nd:ks.Nodup):Tot (nF ks) ks.length where
 tri:=fun i j hi c h=>tlt_tri fun e=>h (by rw[ae,ae,aa hi,aa c]at e;exact(eR nd).mp e)
 tr:=fun i j k _ _ _ a b=>xV a b
theorem ord_len(ks:List Str)(nd:ks.Nodup):(ord ks).length=ks.length:=by
 unfold ord;split;·simp
 ·rw[cu,(fo (vd nd) (by lia)).1.size]
theorem Km(nd:ks.Nodup)(f:ks.length=ys.length)(r:bM ys vs):bM (sortBy .non ks ys) (gK (nF ks) vs):=by
 have o:=r.length;have e:vs.length=ks.length:=by lia
 unfold gK sortBy ord;rw[e];by_cases c:ks.length<2
 ·rw[if_pos c,if_pos c];have a:(aG ks.length).map (fun i=>ys.getD i V.non)=ys:=by
   rw[f];apply bS;·simp
   ·intro i n b;simp[b]
  rw[a];exact r
 ·rw[if_neg c,if_neg c];have P:=(fo (vd nd) (by lia)).1;have all:∀l:List Nat,(∀i∈l,i<ks.length)->bM (l.map fun i=>ys.getD i V.non) (l.map fun i=>vs.getD i bK):=by
   intro l
   induction l with
   |nil=>exact fun _=>.nil
   |cons i l ih=>
    intro h;have hi:i<ys.length:=by have :=h i (.head _);lia
    obtain⟨u,g,k⟩:=r.get (aa hi);refine .cons ?_ (ih fun j d=>h j (.tail _ d));show L2.RelV (ys.getD i V.non) (vs.getD i bK);rw[ae,aa hi,ae,g];exact k
  refine all _ fun i hi=>?_;have m:i∈(aG ks.length).toArray:=P.perm.mem_iff.mp (jV.mp hi);simpa using m
theorem Jo(r:AD vs ks)(hi:i<ks.length):∃t,vs.getD i .none=.str (ks.getD i "") t:=by
 induction r generalizing i with
 |nil=>exact absurd hi (dm _)
 |cons y t h ih=>
  cases i with
  |zero=>exact⟨t,rfl⟩
  |succ i=>exact ih (by simpa using hi)
theorem vi(r:AD vs ks):vs.length=ks.length:=by
 induction r with
 |nil=>rfl
 |cons y t h ih=>simp[ih]
section
variable {prog:Program}{w:World}{A:Around}
theorem Ig(r:AD vs ks)(d:2<=vs.length):Ii prog w A (nF ks) vs h0:=by
 intro g _;refine⟨oneType',fun f e q=>?_,fun i j C hi a _ q=>?_⟩
 ·match vs,r,d with
  |v1::v2::rest,r,_=>rw[keyKind_strs r];exact aj q
 ·rw[vi r]at hi a;obtain⟨t,b⟩:=Jo r hi;obtain⟨u,c⟩:=Jo r a;unfold kas_ask;rw[b,c,keyLt'_oneType];exact oneLt_str q
end
def oR(H:Hp)(ys:List V)(ks:List Str):Prop:=Paired (fun v k=>∃a rest,v=V.ref a/\H a=some (.tup (V.str k::rest))) ys ks
def rSort(K:ah):List V->Hp->VK->Prop:=fun xs H Q=>∃p ys ks,xs=[V.ref p]/\SqL K H p ys/\ks.length<64/\ks.Nodup/\(ys=ks.map V.str\/oR H ys ks)/\∀l,H l=none->Q (.ref l) (upd H l (.lst (sortBy .non ks ys)))
theorem tG:∀{ys:List V}{ks:List Str},oR H ys ks->ks.length=ys.length
 |_,_,.nil=>rfl
 |_,_,.cons _ t=>by simp[tG t]
set_option maxHeartbeats 3200000
noncomputable def has(acc:List Key)(k:Key):Bool:=acc.any fun x=>decide (x=k)
theorem jO{a:List Key}{k:Key}:has a k=true↔k∈a:=by
 unfold has;rw[cB];constructor;·rintro⟨x,h,e⟩;rw[<-of_decide_eq_true e];exact h
 ·exact fun h=>⟨k,h,decide_eq_true rfl⟩
noncomputable def more(acc:List Key)(k:Key):List Key:=if has acc k=true then acc else acc++[k]
noncomputable def met(ks:List Key):List Key:=ks.foldl more []
theorem KE(ks:List Key)(k:Key):met (ks++[k])=more (met ks) k:=by unfold met;rw[List.foldl_append];rfl
theorem BG{a:List Key}{k j:Key}:j∈more a k↔j∈a\/j=k:=by
 unfold more;split
 ·rename_i h;constructor;·exact .inl
  ·rintro(z|rfl);·exact z
   ·exact jO.mp h
 ·simp
theorem rh(a:List Key)(k:Key):(more a k).length=if has a k=true then a.length else a.length+1:=by unfold more;split <;>simp
theorem DP(ks:List Key):(met ks).length<=ks.length:=by
 unfold met;have g:∀(l a:List Key),(l.foldl more a).length<=a.length+l.length:=by
  intro l
  induction l with
  |nil=>intro a;simp
  |cons k l ih=>intro a;have c:=ih (more a k);have b:=rh a k;rw[dR,bG];split at b<;>lia
 simpa using g ks []
theorem kO{ks:List Key}{k:Key}:k∈met ks↔k∈ks:=by
 unfold met;have g:∀(l a:List Key),k∈l.foldl more a↔k∈a\/k∈l:=by
  intro l
  induction l with
  |nil=>intro a;simp
  |cons j l ih=>intro a;rw[dR,ih,BG,aH,or_assoc]
 simpa using g ks []
theorem Ht{ks:List Key}(h:ks.Nodup):met ks=ks:=by
 unfold met;have g:∀(l a:List Key),(a++l).Nodup->l.foldl more a=a++l:=by
  intro l
  induction l with
  |nil=>intro a _;simp
  |cons k l ih=>intro a b;have c:k∉a:=fun z=>(fk.mp b).2.2 k z k (.head _) rfl;have e:more a k=a++[k]:=if_neg fun z=>c (jO.mp z);rw[dR,e,ih (a++[k]) (by simpa using b)];simp
 simpa using g ks [] (by simpa using h)
theorem Hk(ks:List Key):(met ks).Nodup:=by
 unfold met;have g:∀(l d:List Key),d.Nodup->(l.foldl more d).Nodup:=by
  intro l
  induction l with
  |nil=>intro d h;exact h
  |cons k l ih=>
   intro d h;rw[dR];refine ih _ ?_;unfold more;split;·exact h
   ·rename_i c;refine fk.mpr ⟨h,by simp,fun a i b j e=>c ?_⟩;have f:b=k:=by simpa using j
    rw[<-f,<-e];exact jO.mpr i
 exact g ks [] jk
theorem zO{ks:List Key}(h:(met ks).length=ks.length):ks.Nodup:=by
 have s:∀(l d:List Key),(l.foldl more d).length<=d.length+l.length:=by
  intro l
  induction l with
  |nil=>intro d;simp
  |cons k l ih=>intro d;have m:=ih (more d k);have f:=rh d k;rw[dR,bG];split at f<;>lia
 have g:∀(l d:List Key),d.Nodup->(l.foldl more d).length=d.length+l.length->(d++l).Nodup:=by
  intro l
  induction l with
  |nil=>intro d h _;simpa using h
  |cons k l ih=>
   intro d q e;rw[dR,bG]at e;have m:=s l (more d k);have f:=rh d k;by_cases c:has d k=true;·rw[if_pos c]at f;lia
   ·rw[if_neg c]at f;have j:more d k=d++[k]:=if_neg c;rw[j]at e;have p:k∉d:=fun z=>c (jO.mpr z);have r:(d++[k]).Nodup:=fk.mpr ⟨q,by simp,fun a n b o e=>p (by
     have i:b=k:=by simpa using o
     rw[<-i,<-e];exact n)⟩
    have :=ih (d++[k]) r (by rw[bw,dY];lia);simpa using this
 simpa using g ks [] jk (by simpa[met]using h)
theorem met_one{ks:List Key}:(met ks).length<=1↔∀a∈ks,∀b∈ks,a=b:=by
 constructor
 ·intro h a f b g;have c:=kO.mpr f;have d:=kO.mpr g
  match e:met ks,h with
  | [],_=>rw[e]at c;cases c
  | [x],_=>rw[e]at c d;rw[bg.mp c,bg.mp d]
 ·intro h
  match e:met ks with
  | []=>simp
  | [x]=>simp
  |x::y::r=>have n:=Hk ks;rw[e]at n;have i:x∈ks:=kO.mp (by rw[e];exact .head _);have j:y∈ks:=kO.mp (by rw[e];exact .tail _ (.head _));have :=h x i y j;rw[this]at n;simp at n
noncomputable abbrev mY(led:Bool):Obj:={cls:=.type "set",dict:=none,data:=.set #[] 0 (.fresh 0 0 led)}
noncomputable def A6(a:Addr)(n:Nat):HO:=.ext fun h=>∃o es ep t,h.get? a=some o/\o.ExactSet/\o.data=.set es ep t/\es.size<gd/\t.fits es.size=true/\es.size=n
theorem zV:∀{ks:List Key}{us:List Value},bM (ks.map kV) us->∀(i:Nat)(v:Value),us[i]? =some v->∃k,ks[i]? =some k/\RelV (kV k) v
 | [],_,.nil,i,v,e=>by simp at e
 |k::ks,_,.cons r t,0,v,e=>by simp at e;subst e;exact⟨k,rfl,r⟩
 |k::ks,_,.cons r t,i+1,v,e=>zV t i v (by simpa using e)
def rSet(K:ah):List V->Hp->VK->Prop:=fun xs H Q=>∃p ks,xs=[V.ref p]/\SqL K H p (ks.map kV)/\ks.length<4000/\∀a,H a=none->Q (.ref a) (upd H a (A6 a (met ks).length))
theorem xM:fF X (.builtin "len") (fun xs H Q=>∃a n,xs=[V.ref a]/\H a=some (A6 a n)/\Q (.int n) H):=by intro k s m H xs l Q I r h;obtain⟨a,n,rfl,e,q⟩:=h;obtain⟨u,rfl,i⟩:=vals1 r;cases i;obtain⟨⟨o,b,j,t,g,f,d,c,hf,rfl⟩,_⟩:=I.hok a _ e;refine call_len_set g f d hf (by have :b.size<4096:=c;lia) ?_;exact⟨.int b.size,H,I.tok _,⟨_,rfl⟩,q⟩
end Q
namespace L2
open PySem PySem.Spec PyProof.Rows
section
variable {X:Cx}
theorem yu(a b:Array Nat):∀k:Nat,((bp k a).foldl (·++·) b).size=b.size+k*a.size
 | 0=>by simp
 |k+1=>by rw[dN,dR,yu a (b++a) k,Array.size_append,Nat.succ_mul];lia
def JU:R2:=fun x y H Q=>∃(z:Str)(n:Int),x=.str z/\y=.int n/\2<=n/\n<=1000/\1<=z.length/\z.length<=1000/\Q (.str ⟨(bp n.toNat z.cps).foldl (·++·) #[]⟩) H
theorem op_repS:OpR X (fN .Mult) JU:=by
 intro m s p H x y v u Q I f g h;obtain⟨z,n,rfl,rfl,i,j,k,d,q⟩:=h;obtain⟨t,rfl⟩:=f;obtain⟨o,rfl⟩:=g;have b:¬n<1:=by lia
 have c:(n==1||z.length==0)=false:=by rw[Bool.or_eq_false_iff];exact⟨by simp;lia,by simp;lia⟩
 have a:z.length*n.toNat<=1000*1000:=Nat.mul_le_mul d (by lia);have e:((n.toNat:Nat):Int)=n:=by lia
 have l:(z.length:Int)*n<=1000*1000:=by rw[<-e,<-Int.natCast_mul];exact Int.ofNat_le.mpr a
 refine P.mul_str (by rw[decide_eq_false (by lia),decide_eq_false (by lia)];rfl) (fun _ _=>?_) (fun _ _=>?_) ?_;·exact Int.not_lt.mpr (Int.le_ediv_of_mul_le (by lia) (by lia))
 ·exact decide_eq_false (Nat.not_lt.mpr (aP a (by decide)))
 ·rw[if_neg b,if_neg (by rw[c];exact ao)];refine⟨?_,.str _,H,I.tok _,⟨_,rfl⟩,q⟩;show((bp n.toNat z.cps).foldl (·++·) #[]).size<=_;rw[yu];exact aP (by rw[Nat.mul_comm];simpa[CH]using a) (by decide:1000*1000<=sizeLine)
def rJoin(K:ah):V->List V->Hp->VK->Prop:=fun x vs H Q=>∃(a:Str)(p:Addr)(ys:List Str),x=.str a/\vs=[.ref p]/\SqL K H p (ys.map V.str)/\a.length<=16/\(ys.map (·.length)).sum+ys.length<=1048576/\Q (.str (Txt.join a ys)) H
end
end L2
set_option maxHeartbeats 1000000
namespace HT
open PySem PySem.Spec PyProof.Rows
section
variable {prog:Program}{w:World}{K:Type}[DecidableEq K]{knd:HeapKind prog w K}{A:Around}{s:Shared}{E:Value->Shared->Prop}
theorem setDef{d:Addr}{xs:List (K×Addr×Value)}{k:K}{v:Value}{Q:Value->Shared->Prop}(n:knd.room A)(h:knd.is s.heap k a)(B:s.heap.DictOfH knd d xs)
  (r:∀u,(atKey xs k).map (·.2)=some u->Q u {s with toks:=s.toks+knd.draws k})
  (t:atKey xs k=none->∀h',h'.DictOfH knd d (storedH xs k a v)->di d s.heap h'->Q v {s with heap:=h',toks:=s.toks+knd.draws k})
  (G:xs.length<=sizeLine):wpAny (model prog w) A (Iy d (.ref a) v) Q E s:=by
 obtain⟨o,F,q,c,z,b,g,l,i⟩:=B;unfold Iy;refine bQ ?_;refine af (knd.pyHash n h ?_);refine af (wpAny_dictFind_heap (s:={s with toks:=s.toks+knd.draws k}) n h c b g l i ?_ ?_)
 ·intro f;have C:k∉xs.map (·.1):=not_mem_keys_of_get f;refine af (iH (af (wpAny_updateDictKeys (hz:=by have e:=size_of_entries g;lia) (s:={s with toks:=s.toks+knd.draws k}) c b (aj (t (o6 f) _ ⟨_,_,q+1,b7 _ c (Obj.isFreed_of_dict (Me b _)),
   z.mapDictKeys _,Me b _,?_,?_,?_⟩ (bN ..))))))
  ·rw[storedH_new (o6 f)];simp[g,entryOfKey]
  ·rw[storedH_new (o6 f)];intro x hx;rcases dh.mp hx with hx|hx;·exact knd.keeps (l x hx) c b (bN ..)
   ·rw[bg.mp hx];exact knd.keeps h c b (bN ..)
  ·rw[storedH_new (o6 f),dQ,fk];refine⟨i,by simp,fun x hx y D e=>?_⟩;have :y=k:=by simpa using D
   exact C (by rw[<-this,<-e];exact hx)
 ·intro j p m;refine af (wpAny_dictEntries (s:={s with toks:=s.toks+knd.draws k}) c b ?_);rw[entry_at g j,m];exact af (iH (aj (r _ (by rw[atKey_of_get i m];rfl))))
variable(knd) in
theorem zS(d a:Addr)(g:(d==gG)=false)(b:Value):
  MeetsIn prog w (Builtin.«dict.setdefault» ⟨[.ref d,.ref a,b],[]⟩) (fun A R s=>knd.room A.in1/\∃k xs,knd.is s.heap k a/\s.heap.DictOfH knd d xs/\xs.length<=sizeLine/\
   (∀u,(atKey xs k).map (·.2)=some u->R (.ok (.ret u)) {s with toks:=s.toks+knd.draws k})/\
   (atKey xs k=none->∀h',h'.DictOfH knd d (storedH xs k a b)->di d s.heap h'->R (.ok (.ret b)) {s with heap:=h',toks:=s.toks+knd.draws k})):=
 .of_wp fun A R s ⟨m,k,xs,h,c,o,e,f⟩=>by unfold Builtin.«dict.setdefault»;refine af ?_;unfold Builtin.Dict.keyAndDefault;refine af (wpAny_notOrdered_dict c.typeIs ?_);show wpAny _ _ (pure (d,bB a,some b)) _ _ s;refine aj ?_;show wpAny _ _ (if(d==gG)=true then _ else(Iy d (.ref a) b>>=_)) _ _ s;rw[if_neg (by rw[g];exact ao)];exact af (setDef m h c (fun v n=>aj ⟨v,rfl,e v n⟩) (fun j h' i l=>aj ⟨b,rfl,f j h' i l⟩) o)
end
end HT
namespace L2
open PySem PySem.Spec PyProof.Rows
section
variable {X:Cx}{pins:List (Addr×Obj)}{σ:St}{H:Hp}{s:Shared}{a b:Addr}{v:V}{r:Value}{A:Around}{E:Value->Shared->Prop}{kvs:List (List Key×V)}{k:List Key}
theorem Ly{Q:Value->Shared->Prop}(K:A.units+1<cLine)(I:Inv X pins σ H s)(e:H a=some (.dT kvs))(i:H b=some (.tup (k.map kV)))(O:RelV v r)(S:kvs.length<sizeLine)
  (C:∀x g s',eH kvs k=some x->Inv X pins σ H s'->RelV x g->Q g s')(D:eH kvs k=none->∀s',Inv X pins σ (upd H a (.dT (putK kvs k v))) s'->Q r s'):
  wpAny (model X.prog X.w) A (call (.builtin "dict.setdefault") [.ref a,.ref b,r]) Q E s:=by
 obtain⟨z,l,m,f,h⟩:=Lu I.hok e;have N:m.length<=sizeLine:=by rw[<-mr f];exact z
 have F:(putK kvs k v).length<=sizeLine:=by have :=tR kvs k v;lia
 have d:=f.val k;refine call_meetsIn wY h.typeIs PySem.F.entry_dict_setdefault (PySem.F.args_dict_setdefault_3 _ _ _) (HT.zS (qy (cw X.prog X.w)) a b l r) ⟨tupleKind_room_in1 K,k,m,K0 I.hok i,h,N,fun u L=>?_,fun G R n J=>?_⟩
 ·rw[L]at d;cases hv:eH kvs k with
  |none=>rw[hv]at d;exact absurd d (by intro z;cases z)
  |some x=>rw[hv]at d;obtain⟨g,M,P⟩:=tf.some_of d;cases M;exact C x _ _ hv (I.tok _) P
 ·rw[G]at d;refine D (by
   cases hv:eH kvs k with
   |none=>rfl
   |some x=>rw[hv]at d;exact absurd d (by intro z;cases z)) _ ?_
  obtain⟨q,p,o,hq,t,w,y,_,B⟩:=n;refine d_write I (by rw[e];exact True.intro) J ⟨q,hq⟩ ⟨F,l,_,(f.put k i O).keeps fun c T j=>?_,q,p,o,hq,t,w,y,B⟩;rw[aS (Fg j e (fun z=>nomatch z))];exact j
end
section
variable {X:Cx}
theorem Hv{K:Type}[DecidableEq K]{knd:HeapKind prog w K}{d:Addr}{xs:List (K×Addr×Value)}{Q:Value->Shared->Prop}(c:(d==gG)=false)(a:s.heap.DictOfH knd d xs)(l:(xs.length:Int)<2^63)
  (h:Q (.int xs.length (s.toks+1)) {s with toks:=s.toks+1+1}):wpAny (model prog w) A (call (.builtin "len") [.ref d]) Q E s:=by
 have i:MeetsIn prog w (Builtin.«dict.__len__» ⟨[.ref d],[]⟩) (fun _ R s=>∃xs,s.heap.DictOfH knd d xs/\R (.ok (.ret (.int xs.length s.toks))) {s with toks:=s.toks+1}):=
  .of_wp fun A R s ⟨xs,a,h⟩=>by obtain⟨o,b,j,g,k,e,f,_⟩:=a;show wpAny _ _ (dictSize d>>=_) _ _ s;unfold dictSize;refine af (af (wpAny_dictEntries g e (aj ?_)));show wpAny _ _ (Builtin.Dict.pendingCount d>>=_) _ _ s;refine af (wpAny_pendingCount_other c ?_);refine wpAny_ret_mkInt ?_;have :b.size=xs.length:=size_of_entries f;rw[Nat.add_zero,this];exact h
 refine mq kind_len plain_len entry_len (args_len1 _) ?_;unfold Builtin.«len»;refine af (m:=oneArg "len" _) (aj ?_);refine af (m:=callSpecial? (.ref d) (bf "__len__")) (dF (name:=bf "__len__") a.typeIs F.slot_dict_len
  (call_meetsIn F.slot_dict_len a.typeIs F.entry_dict_len (F.args_dict_len_1 _) i ⟨xs,a,?_⟩))
 show wpAny _ _ _ _ _ {s with toks:=s.toks+1};refine af (bQ (aj ?_));refine af (oY ?_);show wpAny _ _ (if((xs.length:Nat):Int)<0 then _ else _) _ _ _;rw[if_neg (by lia)];show wpAny _ _ (if((xs.length:Nat):Int)≥ 2^63 then _ else _) _ _ _;rw[if_neg (by lia)];exact af (wpAny_mkInt (aj ⟨_,rfl,h⟩))
theorem Cg:fF X (.builtin "len") (fun xs H Q=>∃a kvs,xs=[V.ref a]/\H a=some (.dT kvs)/\Q (.int kvs.length) H):=by intro g s k H xs i Q I r h;obtain⟨a,kvs,rfl,e,q⟩:=h;obtain⟨u,rfl,f⟩:=vals1 r;cases f;obtain⟨z,d,j,b,c⟩:=Lu I.hok e;refine Hv d c (by rw[<-mr b];rw[uD]at z;lia) ?_;rw[<-mr b];exact⟨.int kvs.length,H,I.tok _,⟨_,rfl⟩,q⟩
theorem key_seq{ks:List Key}(I:Inv X pins σ H s)(h:SqT X.K H b (ks.map kV)):(qy (cw X.prog X.w)).is s.heap ks b:=by obtain⟨e,r,⟨o,a,c,n,d⟩,_⟩:=I.tuple h;exact⟨o,e.toArray,n,a,c,d,by simpa using sO r⟩
def rIxD(K:ah):R2:=fun x y H Q=>∃a b kvs k v,x=.ref a/\y=.ref b/\H a=some (.dT kvs)/\SqT K H b (k.map kV)/\eH kvs k=some v/\Q v H
theorem ix_dict(t:X.A.units+1<cLine):IxR X (rIxD X.K):=by
 intro J G g s j H x y v u Q I E F h n;obtain⟨a,b,M,k,z,rfl,rfl,e,l,w,q⟩:=h;cases E;cases F;obtain⟨_,L,K,C,d⟩:=Lu I.hok e;have f:s.TypeIs (.ref a) "dict":=d.typeIs;unfold L7;refine af ?_;rw[getitemInPython_of_ne f.not_modules];refine af (wpAny_specialOf f PySem.F.slot_dict_getitem.lookup ?_);have c:wpAny (model X.prog X.w) X.A (subscripted G false (.ref a) (.ref b)) (fun r i=>wpAny (model X.prog X.w) X.A (letTemporaryGo J (.ref a) r>>=fun _=>pure r) (EP X g j Q) X.xe i) X.xe s:=by rw[n];obtain⟨N,A,D⟩:=tf.some_of (v:=z) (o:=(atKey K k).map (·.2)) (by rw[<-w];exact C.val k);obtain⟨p,hp,m⟩:=i7.mp A;refine wpAny_operating (cX (wpAny_getItem_heap (Q:=EP X g j Q) (tupleKind_room_in1 t) (key_seq I l) d hp ?_) (fun r i B=>af (wpAny_letTemporaryGo (aj B))) fun _ _ x=>x);rw[m];exact⟨z,H,I.tok _,D,q⟩
 first
  |exact aj (af c)
  |exact af (aj (af c))
  |exact af c
def E2:V->List V->Hp->VK->Prop:=fun x xs H Q=>∃a b kvs k v,x=.ref a/\xs=[.ref b,v]/\H a=some (.dT kvs)/\H b=some (.tup (k.map kV))/\kvs.length<sizeLine/\
 (∀z,eH kvs k=some z->Q z H)/\(eH kvs k=none->Q v (upd H a (.dT (putK kvs k v))))
theorem Hq(j:X.A.units+1<cLine):MtR X "dict.setdefault" E2:=by intro A s F H x E v B Q I q p h;obtain⟨a,b,w,k,y,rfl,rfl,e,f,g,m,n⟩:=h;cases q;obtain⟨u,C,rfl,o,d⟩:=vals2 p;cases o;exact Ly j I e f d g (fun z D t l c r=>⟨z,H,c,r,m z l⟩) fun i t c=>⟨y,_,c,d,n i⟩
end
section
variable {X:Cx}
noncomputable def isRef:V->Bool
 |.ref _=>true
 |_=>false
def rInD(K:ah)(b:Bool):R2:=fun x y H Q=>∃p xs ds d,y=.ref p/\SqL K H p xs/\xs.all isRef=true/\Rep K H d x/\fL K H ds xs/\fX ds<=30/\
 Q (.bl (if b then !(ds.any fun a=>eqD a d)else ds.any fun a=>eqD a d)) H
open Classical in
open Classical in
end
section
variable {X:Cx}{e:Expr}{te:TE}{pos p2 p3 p4:Pos}{cd:Nat}
def tRev(K:ah)(te:TE):TE:=fun σ H Q=>te σ H fun x H1=>∃a xs,x=.ref a/\SqL K H1 a xs/\∀p,H1 p=none->Q (.ref p) (upd H1 p (.lst xs.reverse))
end
end L2
namespace Q
open PySem PySem.Spec PySem.W PyProof.Rows L2
noncomputable def ltI(ns:List Int)(i j:Nat):Bool:=decide (ns.getD i 0<ns.getD j 0)
noncomputable def DJ(ns:List Int):List Nat:=if ns.length<2 then aG ns.length else(run (ltI ns) (dG ns.length)).toList
noncomputable def sortI(ns:List Int):List V:=(DJ ns).map fun i=>(ns.map V.int).getD i .non
theorem totI(nd:ns.Nodup):Tot (ltI ns) ns.length where
 tri:=fun i j hi c h=>by
  have f:ns.getD i 0≠ns.getD j 0:=fun e=>by rw[ae,ae,aa hi,aa c]at e;exact h ((eR nd).mp e)
  unfold ltI;by_cases a:ns.getD i 0<ns.getD j 0;·rw[decide_eq_true a,decide_eq_false (by lia)];rfl
  ·rw[decide_eq_false a,decide_eq_true (by lia)];rfl
 tr:=fun i j k hi c d a b=>by unfold ltI at a b⊢;have a:=of_decide_eq_true a;have b:=of_decide_eq_true b;exact decide_eq_true (by lia)
theorem Kn(nd:ns.Nodup):(DJ ns).length=ns.length:=by
 unfold DJ;split;·simp
 ·rw[cu,(fo (totI nd) (by lia)).1.size]
theorem outI(nd:ns.Nodup)(r:bM (ns.map V.int) vs):bM (sortI ns) (gK (ltI ns) vs):=by
 have g:=r.length;rw[ai]at g;have e:vs.length=ns.length:=by lia
 unfold gK sortI DJ;rw[e];by_cases c:ns.length<2
 ·rw[if_pos c,if_pos c];have a:(aG ns.length).map (fun i=>(ns.map V.int).getD i V.non)=ns.map V.int:=by
   apply bS;·simp
   ·intro i o b;have d:i<ns.length:=by simpa using b
    simp[d]
  rw[a];exact r
 ·rw[if_neg c,if_neg c];have P:=(fo (totI nd) (by lia)).1;have all:∀l:List Nat,(∀i∈l,i<ns.length)->bM (l.map fun i=>(ns.map V.int).getD i V.non) (l.map fun i=>vs.getD i bK):=by
   intro l
   induction l with
   |nil=>exact fun _=>.nil
   |cons i l ih=>
    intro h;have hi:i<(ns.map V.int).length:=by rw[ai];exact h i (.head _)
    obtain⟨u,k,n⟩:=r.get (aa hi);refine .cons ?_ (ih fun j f=>h j (.tail _ f));show L2.RelV ((ns.map V.int).getD i V.non) (vs.getD i bK);rw[ae,aa hi,ae,k];exact n
  refine all _ fun i hi=>?_;have m:i∈(aG ns.length).toArray:=P.perm.mem_iff.mp (jV.mp hi);simpa using m
theorem int_at(r:bZ vs ns)(hi:i<ns.length):∃t,vs.getD i .none=.int (ns.getD i 0) t:=by
 induction r generalizing i with
 |nil=>exact absurd hi (dm _)
 |cons y t h ih=>
  cases i with
  |zero=>exact⟨t,rfl⟩
  |succ i=>exact ih (by simpa using hi)
theorem K6(r:bZ vs ns):vs.length=ns.length:=by
 induction r with
 |nil=>rfl
 |cons y t h ih=>simp[ih]
theorem Ih(r:bZ vs ns)(d:2<=vs.length):Ii prog w A (ltI ns) vs h0:=by
 intro g _;refine⟨oneType',fun f e q=>?_,fun i j C hi a _ q=>?_⟩
 ·match vs,r,d with
  |v1::v2::rest,r,_=>rw[keyKind_ints r];exact aj q
 ·rw[K6 r]at hi a;obtain⟨t,b⟩:=int_at r hi;obtain⟨u,c⟩:=int_at r a;unfold kas_ask;rw[b,c,keyLt'_oneType];exact oneLt_int q
def rSortI(K:ah):List V->Hp->VK->Prop:=fun xs H Q=>∃p ns,xs=[V.ref p]/\SqL K H p (ns.map V.int)/\ns.length<64/\ns.Nodup/\∀l,H l=none->Q (.ref l) (upd H l (.lst (sortI ns)))
end Q
namespace L2
open PySem PySem.Spec PyProof.Rows
section
variable {X:Cx}
noncomputable def nats(n:Nat):List V:=(aG n).map fun i:Nat=>V.int (i:Int)
def tLRng(ta:TA):TE:=fun σ H Q=>ta σ H fun vs H1=>∃n:Nat,vs=[.int n]/\n<=1000/\∀p,H1 p=none->Q (.ref p) (upd H1 p (.lst (nats n)))
end
section
variable {X:Cx}
noncomputable def leP(a b c d:Int):Bool:=decide (a<c\/a=c/\b<=d)
def rLeP(K:ah):R2:=fun x y H Q=>∃p q a b c d,x=.ref p/\y=.ref q/\SqT K H p [.int a,.int b]/\SqT K H q [.int c,.int d]/\Q (.bl (leP a b c d)) H
def rIndex:V->List V->Hp->VK->Prop:=fun x vs H Q=>∃(l:Addr)(ns:List Int)(k:Int),x=.ref l/\vs=[.int k]/\H l=some (.lst (ns.map V.int))/\k∈ns/\ns.length<=60/\Q (.int (ns.idxOf k:Nat)) H
end
end L2
namespace Q
open PySem PySem.Spec PySem.W PyProof.Rows L2
noncomputable def plt(x y:Int×Int):Bool:=decide (x.1<y.1\/x.1=y.1/\x.2<y.2)
noncomputable def ltP(ps:List (Int×Int))(i j:Nat):Bool:=plt (ps.getD i (0,0)) (ps.getD j (0,0))
noncomputable def ordP(ps:List (Int×Int)):List Nat:=if ps.length<2 then aG ps.length else(run (ltP ps) (dG ps.length)).toList
noncomputable def sortP{α:Type}(d:α)(ps:List (Int×Int))(ys:List α):List α:=(ordP ps).map fun i=>ys.getD i d
def LW(H:Hp)(ys:List V)(ps:List (Int×Int)):Prop:=Paired (fun v k=>∃a,v=V.ref a/\H a=some (.tup [.int k.1,.int k.2])) ys ps
def rSortP(K:ah):List V->Hp->VK->Prop:=fun xs H Q=>∃p ys ps,xs=[V.ref p]/\SqL K H p ys/\ps.length<64/\ps.Nodup/\LW H ys ps/\∀l,H l=none->Q (.ref l) (upd H l (.lst (sortP .non ps ys)))
end Q
namespace D8
open PySem PySem.Spec PySem.W PyProof.Rows L2
noncomputable abbrev four:List (Int×Int):=[(0,0),(0,1),(1,0),(1,1)]
def Prs(H:Hp)(b:List Addr)(ps:List (Int×Int)):Prop:=b.length=ps.length/\∀(i:Nat) a q,b[i]? =some a->ps[i]? =some q->H a=some (.tup [.int q.1,.int q.2])
def rSetP(K:ah):List V->Hp->VK->Prop:=fun xs H Q=>∃p b ps,xs=[V.ref p]/\SqL K H p (b.map V.ref)/\Prs H b ps/\(∀q∈ps,q∈four)/\∀a (ks:List (Int×Int)),H a=none->ks.Nodup->(∀r,r∈ks↔r∈ps)->Q (.ref a) (upd H a (_root_.Q.A6 a ks.length))
end D8
namespace L2
open PySem PySem.Spec PyProof.Rows
section
variable {X:Cx}
def CDivB(_ j:Int):Prop:=0<j/\j.natAbs.log2<9000
def rDivB:R2:=rI CDivB fun i j=>.int (i/j)
def rInsert:V->List V->Hp->VK->Prop:=fun x vs H Q=>∃l xs k y,x=.ref l/\vs=[.int k,y]/\H l=some (.lst xs)/\xs.length<sizeLine/\0<=k/\k<=xs.length/\Q .non (upd H l (.lst (xs.take k.toNat++y::xs.drop k.toNat)))
end
section
variable {X:Cx}
def rSplit:V->List V->Hp->VK->Prop:=fun x vs H Q=>∃z y:Str,x=.str z/\vs=[.str y]/\(y.length==0)=false/\z.length+2<=sizeLine/\∀p,H p=none->Q (.ref p) (upd H p (.lst ((Txt.split z y).map V.str)))
end
noncomputable def Itz(K:ah)(a b:Addr):It:=
 ⟨fun i H=>∃xs ys x y,SqL K H a xs/\SqL K H b ys/\xs[i]? =some x/\ys[i]? =some y,
  fun i H v H'=>∃p x y,H p=none/\H'=upd H p (.tup [x,y])/\v=.ref p/\(∀xs,SqL K H a xs->xs[i]? =some x)/\∀ys,SqL K H b ys->ys[i]? =some y,
  fun i H=>∃xs ys,SqL K H a xs/\SqL K H b ys/\(xs.length<=i\/ys.length<=i)⟩
section
variable {X:Cx}{es:List Expr}{kk:Nat}{pp:Pos}
def iZip(K:ah)(t:TA):TI:=fun σ H R=>t σ H fun vs H1=>∃a b,vs=[.ref a,.ref b]/\(∃xs,SqL K H1 a xs)/\(∃ys,SqL K H1 b ys)/\R (Itz K a b) H1
end
def DkIn(P:Program)(w:World)(K:ah)(a:Addr)(kvs:List (Key×V)):Prop:=
 (a==gG)=false/\∃vs,KV kvs vs/\∀h,K.In h->h.DictOf (cw P w) a vs
section
variable {X:Cx}{dic:Addr->Option (List (Key×V))}
def rInG(dic:Addr->Option (List (Key×V))):R2:=fun x y H Q=>∃a kvs k,y=.ref a/\dic a=some kvs/\x=kV k/\Q (.bl (eH kvs k).isSome) H
def rIxG(dic:Addr->Option (List (Key×V))):R2:=fun x y H Q=>∃a kvs k v,x=.ref a/\dic a=some kvs/\y=kV k/\eH kvs k=some v/\Q v H
end
noncomputable def fText(b a:Str)(i:Int):Str:=Str.empty++b++(toString i:Str)++a
def tFst(a b:Str)(t:TE):TE:=fun σ H Q=>(Str.empty++a).length<=sizeLine/\t σ H fun x H1=>∃i,x=.int i/\i.natAbs.log2<1920/\(fText a b i).length<=sizeLine/\Q (.str (fText a b i)) H1
end L2
namespace PySem
section
variable {prog:Program}{w:World}{A:Around}{E:Value->Shared->Prop}{s:Shared}
theorem Kr{j t:Addr}{xs:Array Value}{v:Value}{Q:Value->Shared->Prop}(c:s.heap.IsTupleIter j t k)(g:s.heap.IsTuple t xs)(h:xs[k]? =some v)
  (q:∀h',h'.IsTupleIter j t (k+1)->di j s.heap h'->Q v {s with heap:=h'}):wpAny (model prog w) A (fU (.ref j)) Q E s:=by
 obtain⟨o,b,d,a⟩:=id c;obtain⟨p,e,_,n,f⟩:=g;unfold fU;refine af (dF (name:=bf "__next__") c.typeIs iC (cF iC c.typeIs C8 ?_ (CU _)));show wpAny _ _ (field (.ref j) 0>>=_) _ _ s;refine af (gC b a (x:=.ref t) rfl ?_);show wpAny _ _ (if(bB t==bK)=true then _ else _) _ _ s;rw[if_neg (fun z:(bB t==bK)=true=>absurd z ao)];show wpAny _ _ (field (.ref j) 1>>=_) _ _ s;refine af (gC b a (x:=.int k 0) rfl ?_);show wpAny _ _ (uX (.ref t)>>=_) _ _ s;refine af (iG e f ?_);simp only[aM,h];refine af (uC b a (by simp) (aj ⟨v,rfl,aj (q _ ?_ (bN ..))⟩));exact⟨_,b7 _ b (jI (ff a _)),(Obj.cls_mapFields ..).trans d,by rw[ff a];simp[rawInt]⟩
theorem Fd{j t:Addr}{xs:Array Value}{Q:Value->Shared->Prop}(f:A.handled=none)(d:s.heap.IsTupleIter j t k)(i:s.heap.IsTuple t xs)(l:xs[k]? =none)
  (q:∀h' e,Heap.ExtBut j s.heap h'->(∃o,h'.get? e=some o/\o.cls=.type "StopIteration")->E (.ref e) {s with heap:=h'}):wpAny (model prog w) A (fU (.ref j)) Q E s:=by
 obtain⟨o,b,r,c⟩:=id d;obtain⟨p,g,_,n,h⟩:=i;unfold fU;refine af (dF (name:=bf "__next__") d.typeIs iC (cF iC d.typeIs C8 ?_ (CU _)));show wpAny _ _ (field (.ref j) 0>>=_) _ _ s;refine af (gC b c (x:=.ref t) rfl ?_);show wpAny _ _ (if(bB t==bK)=true then _ else _) _ _ s;rw[if_neg (fun z:(bB t==bK)=true=>absurd z ao)];show wpAny _ _ (field (.ref j) 1>>=_) _ _ s;refine af (gC b c (x:=.int k 0) rfl ?_);show wpAny _ _ (uX (.ref t)>>=_) _ _ s;refine af (iG g h ?_);simp only[aM,l];refine af (iH (af (uC b c (by simp) ?_)));show wpAny _ _ (newExc (.type "StopIteration") []>>=_) _ _ _;refine af ?_;simp only[newExc,newTuple];refine af (bW ?_ (by size_fits));refine af (m:=uG _ _) (oX (a:=bK) (by first |rfl| (simp only[uG];rfl)) ?_);refine bW ?_ (by size_fits);simp only[Iq];refine af (wpAny_handled ?_);first |rw[show A.in1.handled=none from f] |rw[f]
 refine af (aj (wpAny_throw ?_));exact q _ _ (((bN ..).extBut.push _).push _) ⟨_,ay _ rfl,rfl⟩
end
end PySem
namespace L2
open PySem PySem.Spec PyProof.Rows
noncomputable def Itzt(K:ah)(a b:Addr):It:=
 ⟨fun i H=>∃xs ys x y,SqT K H a xs/\SqL K H b ys/\xs[i]? =some x/\ys[i]? =some y,
  fun i H v H'=>∃p x y,H p=none/\H'=upd H p (.tup [x,y])/\v=.ref p/\(∀xs,SqT K H a xs->xs[i]? =some x)/\∀ys,SqL K H b ys->ys[i]? =some y,
  fun i H=>∃xs,SqT K H a xs/\xs.length<=i⟩
theorem tup_ne{g:Array Value}{o:Obj}(f:h.IsTuple a g)(b:h.get? c=some o)(d:o.cls≠.type "tuple"):a≠c:=by obtain⟨i,e,k,_⟩:=f;rintro rfl;rw[e]at b;cases b;exact d k
section
variable {X:Cx}{es:List Expr}{kk:Nat}{pp:Pos}
def iZipT(K:ah)(t:TA):TI:=fun σ H R=>t σ H fun vs H1=>∃a b,vs=[.ref a,.ref b]/\(∃xs,SqT K H1 a xs)/\(∃ys,SqL K H1 b ys)/\R (Itzt K a b) H1
end
end L2
namespace PySem
open Sem (wp)
local macro_rules | `(term| «the numeral») => return Lean.mkIdent (cg (cg (cg (Lean.Name.num (cg (cg (cg (cg (cg C7 "_private") "PySem") "Builtin") "Int") "W0All") 0) "PySem") "Builtin") "readNumeral")
local macro_rules | `(term| «a value») => return Lean.mkIdent (cg (cg (cg (cg (Lean.Name.num (cg (cg (cg (cg (cg C7 "_private") "PySem") "Builtin") "Int") "W0All") 0) "PySem") "Builtin") "Numeral") "value")
end PySem
namespace L2
open PySem PySem.Spec PyProof.Rows
inductive Fig:Str->Int->Prop
 |one {a:Nat} (h:a<10):Fig ⟨#[48+a]⟩ (a:Nat)
 |two {a b:Nat} (ha:a<10) (hb:b<10):Fig ⟨#[48+a,48+b]⟩ (10*a+b:Nat)
section
variable {X:Cx}{dic:Addr->Option (List (Key×V))}
noncomputable def upS(z:Str):Str:=⟨placed z fun _ c=>Unicode.upperOf c⟩
def rUpper:V->List V->Hp->VK->Prop:=fun x vs H Q=>∃z:Str,x=.str z/\vs=[]/\(upS z).length<=100/\Q (.str (upS z)) H
def rNiG(dic:Addr->Option (List (Key×V))):R2:=fun x y H Q=>∃a kvs k,y=.ref a/\dic a=some kvs/\x=kV k/\Q (.bl (!(eH kvs k).isSome)) H
end
end L2
namespace Q
open PySem PySem.Spec PySem.W PyProof.Rows L2
noncomputable def llt:List Int->List Int->Bool
 | [],[]=>false
 | [],_::_=>true
 |_::_,[]=>false
 |a::x,b::y=>decide (a<b)||(decide (a=b)&&llt x y)
theorem sL:∀{x y z:List Int},llt x y=true->llt y z=true->llt x z=true
 | [],[],_,h,_=>nomatch h
 | [],_::_,[],_,h=>nomatch h
 | [],_::_,_::_,_,_=>rfl
 |_::_,[],_,h,_=>nomatch h
 |_::_,_::_,[],_,h=>nomatch h
 |a::x,b::y,c::z,h,k=>by
  simp only[llt,cf,aE,decide_eq_true_eq]at h k⊢;rcases h with h|⟨rfl,h⟩
  ·rcases k with k|⟨rfl,k⟩;·exact .inl (by lia)
   ·exact .inl h
  ·rcases k with k|⟨rfl,k⟩;·exact .inl k
   ·exact .inr ⟨rfl,sL h k⟩
theorem kP:∀{x y:List Int},x≠y->llt x y= !llt y x
 | [],[],h=>absurd rfl h
 | [],_::_,_=>rfl
 |_::_,[],_=>rfl
 |a::x,b::y,h=>by
  by_cases e:a=b;·subst e;have :=kP (x:=x) (y:=y) fun z=>h (by rw[z]);simp[llt,this]
  ·by_cases c:a<b
   ·have :¬b<a:=by lia
    simp[llt,c,this,e,bA e]
   ·have :b<a:=by lia
    simp[llt,c,this,e,bA e]
noncomputable def ltL(ps:List (List Int))(i j:Nat):Bool:=llt (ps.getD i []) (ps.getD j [])
noncomputable def vG(ps:List (List Int)):List Nat:=if ps.length<2 then aG ps.length else(run (ltL ps) (dG ps.length)).toList
noncomputable def cj{α:Type}(d:α)(ps:List (List Int))(ys:List α):List α:=(vG ps).map fun i=>ys.getD i d
theorem neL{ps:List (List Int)}(nd:ps.Nodup)(hi:i<ps.length)(a:j<ps.length)(h:i≠j):ps.getD i []≠ps.getD j []:=fun e=>by rw[ae,ae,aa hi,aa a]at e;exact h ((eR nd).mp e)
theorem GH{ps:List (List Int)}(nd:ps.Nodup):Tot (ltL ps) ps.length where
 tri:=fun i j hi c h=>kP (neL nd hi c h)
 tr:=fun i j k _ _ _ a b=>sL a b
theorem lF{ps:List (List Int)}(nd:ps.Nodup):(vG ps).Perm (aG ps.length):=by
 unfold vG;split;·exact d9 _
 ·have P:=(fo (GH nd) (by lia)).1;have :=eU.mp P.perm;simpa using this
theorem ye{ps:List (List Int)}(nd:ps.Nodup)(f:ps.length=ys.length)(r:bM ys vs):bM (cj .non ps ys) (gK (ltL ps) vs):=by
 have o:=r.length;have e:vs.length=ps.length:=by lia
 unfold gK cj vG;rw[e];by_cases c:ps.length<2
 ·rw[if_pos c,if_pos c];have a:(aG ps.length).map (fun i=>ys.getD i V.non)=ys:=by
   rw[f];apply bS;·simp
   ·intro i n b;simp[b]
  rw[a];exact r
 ·rw[if_neg c,if_neg c];have P:=(fo (GH nd) (by lia)).1;have all:∀l:List Nat,(∀i∈l,i<ps.length)->bM (l.map fun i=>ys.getD i V.non) (l.map fun i=>vs.getD i bK):=by
   intro l
   induction l with
   |nil=>exact fun _=>.nil
   |cons i l ih=>
    intro h;have hi:i<ys.length:=by have :=h i (.head _);lia
    obtain⟨u,g,k⟩:=r.get (aa hi);refine .cons ?_ (ih fun j d=>h j (.tail _ d));show L2.RelV (ys.getD i V.non) (vs.getD i bK);rw[ae,aa hi,ae,g];exact k
  refine all _ fun i hi=>?_;have m:i∈(aG ps.length).toArray:=P.perm.mem_iff.mp (jV.mp hi);simpa using m
def ti(h:Heap)(vs:List Value)(ps:List (List Int)):Prop:=Paired (fun v k=>∃a o its n,v=.ref a/\h.get? a=some o/\o.cls=.type "tuple"/\o.data=.seq its n/\bZ its.toList k) vs ps
theorem iV{ps:List (List Int)}(r:ti h vs ps)(hi:i<vs.length):∃a o its n,vs.getD i .none=.ref a/\h.get? a=some o/\o.data=.seq its n/\bZ its.toList (ps.getD i []):=by
 unfold ti at r
 induction r generalizing i with
 |nil=>exact absurd hi (dm _)
 |cons y t ih=>
  cases i with
  |zero=>obtain⟨a,o,its,n,b,c,f,d,e⟩:=y;exact⟨a,o,its,n,b,c,d,e⟩
  |succ i=>exact ih (by simpa using hi)
theorem K7(q:∀b o,h.get? b=some o->h1.get? b=some o){ps:List (List Int)}(r:ti h vs ps)(hp:∀k∈ps,k≠[]):∃fs,KatTups h1 vs fs/\fs.length=vs.length/\∀v∈fs,∃x t,v=wW x t:=by
 unfold ti at r
 induction r with
 |nil=>exact⟨[],.nil,rfl,fun v hv=>nomatch hv⟩
 | @cons v k vs ps y t ih=>
  obtain⟨fs,e,f,g⟩:=ih fun k c=>hp k (aJ _ c);obtain⟨a,o,p,n,rfl,i,j,m,d⟩:=y;have c:=hp k aL;obtain⟨l⟩:=p;cases l with
  |nil=>cases d;exact absurd rfl c
  |cons u l=>
   cases d with
   |cons x t h=>
    refine⟨_::fs,.cons (q _ _ i) j m rfl e,by simp[f],fun v hv=>?_⟩;rcases aH.mp hv with rfl|hv;·exact⟨_,_,rfl⟩
    ·exact g v hv
theorem KQ{b j:Bool}{C:Bool->Shared->Prop}{xs ys:List Value}{x y:List Int}(i:Nat)(g:bZ xs x)(d:bZ ys y)(f:x.length=y.length)(h:x≠y)(q:C (llt x y) s):KatLex prog w A b j C (xs.zip ys) (i+1) s:=by
 induction g generalizing ys y i with
 |nil=>cases d with
  |nil=>exact absurd rfl h
  |cons=>simp at f
 |cons a t g ih=>cases d with
  |nil=>simp at f
  |cons c u d=>
   refine kat_cons (qx ?_);by_cases e:a=c;·subst e;rw[show(a==a)=true by simp];refine kat_yes (ih (i+1) d (by simpa using f) (fun z=>h (by rw[z])) ?_);simp[llt]at q;exact q
   ·rw[show(a==c)=false by simpa using e];refine kat_no ?_;rw[show(b&&(i+1==0))=false by simp];refine kat_one _ _ (lt_int ?_);simp[llt,e]at q;exact q
theorem Au{ps:List (List Int)}(nd:ps.Nodup)(f:vs.length=ps.length)(r:ti h0 vs ps)(V:2<=vs.length)(g:∀k∈ps,k.length=m):Ii prog w A (ltL ps) vs h0:=by
 have l:m≠0:=fun z=>by
  have e:∀i,i<ps.length->ps.getD i []=[]:=fun i hi=>by rw[ae,aa hi];exact aV.mp ((g _ (bo hi)).trans z)
  exact neL nd (i:=0) (j:=1) (by lia) (by lia) (by decide) ((e 0 (by lia)).trans (e 1 (by lia)).symm)
 intro Y p;refine⟨tuples' true,fun S R q=>?_,fun i j C hi h L q=>?_⟩;·obtain⟨fs,s,U,B⟩:=K7 p r fun k M z=>l (by rw[<-g k M,z];rfl);refine kat_kind (T:=.type "int") s (by lia) (fun v O=>?_) rfl q;obtain⟨x,t,rfl⟩:=B v O;exact Looks.of_pure rfl
 ·obtain⟨a,o,P,n,D,E,F,G⟩:=iV r hi;obtain⟨b,X,Q,W,H,I,J,K⟩:=iV r h;have N:=neL nd (f▸hi) (f▸h) L;have l1:(ps.getD i []).length=m:=by rw[ae,aa (f▸hi)];exact g _ (bo _)
  have l2:(ps.getD j []).length=m:=by rw[ae,aa (f▸h)];exact g _ (bo _)
  unfold kas_ask;unfold ltL at q;rw[D,H];generalize ps.getD i []=x at *;generalize ps.getD j []=y at *;refine kat_lt (p _ _ E) F (p _ _ I) J ?_;generalize P.toList=xs at *;generalize Q.toList=ys at *;cases G with
  |nil=>exact absurd l1.symm l
  | @cons c t xs x hx=>
   cases K with
   |nil=>exact absurd l2.symm l
   | @cons d u ys y hy=>
    refine kat_cons (qx ?_);by_cases e:c=d;·subst e;rw[show(c==c)=true by simp];refine kat_yes (KQ 0 hx hy (by simp at l1 l2;lia) (fun z=>N (by rw[z])) ?_);simp[llt]at q;exact q
    ·rw[show(c==d)=false by simpa using e];refine kat_no (oneLt_int ?_);simp[llt,e]at q;exact q
def IntKeys(H:Hp)(ys:List V)(ps:List (List Int)):Prop:=Paired (fun v k=>∃a,v=V.ref a/\H a=some (.tup (k.map V.int))) ys ps
theorem BS{ps:List (List Int)}(h:IntKeys H ys ps):ps.length=ys.length:=by
 unfold IntKeys at h
 induction h with
 |nil=>rfl
 |cons _ _ ih=>simp[ih]
theorem zX(ok:HOk P w H h){ps:List (List Int)}(k:IntKeys H ys ps):bM ys vs->ti h vs ps:=by
 unfold IntKeys at k
 induction k generalizing vs with
 |nil=>intro z;cases z;exact .nil
 |cons y t ih=>
  intro z;cases z with
  |cons r q=>obtain⟨a,rfl,e⟩:=y;cases r;obtain⟨_,f,g,o,b,c,n,d⟩:=ok a _ e;exact .cons ⟨a,o,f.toArray,n,rfl,b,c,d,by simpa using intsAre_of g⟩ (ih q)
def JT(K:ah):List V->Hp->VK->Prop:=fun xs H Q=>∃p ys ps m,xs=[V.ref p]/\SqL K H p ys/\ps.length<64/\ps.Nodup/\(∀k∈ps,k.length=m)/\IntKeys H ys ps/\∀l,H l=none->Q (.ref l) (upd H l (.lst (cj .non ps ys)))
theorem Ak:fF X (.builtin "sorted") (JT X.K):=by
 intro B s E H D C Q I r h;obtain⟨p,g,a,m,rfl,hq,y,nd,t,i,q⟩:=h;obtain⟨u,rfl,x⟩:=vals1 r;cases x;obtain⟨d,f,w,A⟩:=I.list hq;have n:a.length=g.length:=BS i;have z:=f.length;have j:d.length=a.length:=by lia
 refine x5 (lt:=ltL a) (vs:=d) (by rw[j];exact GH nd) w.isList (by lia) (fun k=>Au nd j (zX I.hok i f) k t) ?_;obtain⟨c,l⟩:=sortedAll_at s.heap d (gK (ltL a) d).toArray;have v:(cj V.non a g).length<=sizeLine:=by unfold cj;rw[ai,(lF nd).length_eq,ba];lia
 exact⟨.ref (s.heap.objs.size+1),_,I.laid (t':=s.toks) (fun b o e=>sortedAll_old e) (dy _) (show dU X.prog X.w _ _ _ (.lst (cj .non a g))from⟨v,_,c,ye nd n f,l⟩),rfl,q _ (I.hok.fresh (dy _))⟩
theorem BK:∀x:List Int,llt x x=false
 | []=>rfl
 |a::x=>by simp[llt,BK x]
theorem FA{B:Builtin}{op:CmpOp}{f:List Int->List Int->Bool}(H:(B=Builtin.«tuple.__lt__»/\op=.Lt/\f=llt)\/(B=Builtin.«tuple.__gt__»/\op=.Gt/\f=fun a b=>llt b a)){p q:Addr}{a b:List Int}{P:dI->Shared->Prop}(M:IsTup s.heap p us.toArray)(J:IsTup s.heap q vs.toArray)
  (C:bZ us a)(D:bZ vs b)(I:a.length=b.length)
  (h:P (.done (.ret (.bool (f a b)))) s):wpAny (model prog w) A (B ⟨[.ref p,.ref q],[]⟩) P E s:=by
 have⟨g,ci,fc⟩:∃g:Int->Int->Bool,(∀{m n:Int}{t u:Nat}{s:Shared}{Q:Value->Shared->Prop},Q (.bool (g m n)) s->wpAny (model prog w) A (dq op (.int m t) (.int n u)) Q E s)/\∀{m n:Int}{x y:List Int},m≠n->f (m::x) (n::y)=g m n:=by
  rcases H with⟨_,rfl,rfl⟩ |⟨_,rfl,rfl⟩;·exact⟨fun m n=>decide (m<n),fun q=>lt_int q,fun c=>by simp[llt,c]⟩
  ·exact⟨fun m n=>decide (n<m),fun q=>PyProof.Rows.gt_int q,fun c=>by simp[llt,bA c]⟩
 rcases H with⟨rfl,rfl,hf⟩ |⟨rfl,rfl,hf⟩
 all_goals
  show wpAny _ _ (Iv (.ref q) (.type "tuple")>>=_) _ _ s;refine af (kF J.typeIs isSubtype_tuple_tuple ?_);simp only[gB,aW,if_false];refine af (tupleItemsOf_ M ?_);refine af (tupleItemsOf_ J ?_);refine af ?_;show wpAny _ _ (forIn (us.zip vs) _ _) _ _ s;refine wpAny_forIn_list _ (fun K r G=>r.1=none/\G=s/\∃k l o v,K=List.zip k l/\k.length=l.length/\bZ k o/\bZ l v/\f a b=f o v) _ ?_ ?_ _ _ ⟨rfl,rfl,us,vs,a,b,rfl,by rw[C.length,D.length,I],C,D,rfl⟩
  ·rintro x K ⟨r,_⟩ G ⟨F,rfl,k,l,o,v,e,j,i,d,z⟩;obtain rfl:r=none:=F;cases i with
   |nil=>cases e
   |cons m t i=>
    cases d with
    |nil=>cases j
    |cons n u d=>
     rw[ud]at e;cases e;dsimp only;refine af (qx ?_);by_cases c:m=n;·rw[show(m==n)=true by simpa using c];simp only[gB,aW,if_false];refine aj ⟨rfl,rfl,_,_,_,_,rfl,by simpa using j,i,d,?_⟩;rw[z];simp[hf,llt,c]
     ·rw[show(m==n)=false by simpa using c];simp only[Bool.not_false,if_true];rw[z,fc c]at h;refine af (iH (af (ci (af (aj (aj ?_))))));exact aj h
  ·rintro⟨r,_⟩ G ⟨F,rfl,k,l,o,v,e,j,i,d,z⟩;obtain rfl:r=none:=F;dsimp only;have L:f a b=false:=by
    rw[z];cases i with
    |nil=>cases d with
     |nil=>rw[hf];rfl
     |cons n u d=>cases j
    |cons m t i=>cases d with
     |nil=>cases j
     |cons n u d=>rw[ud]at e;cases e
   rw[L]at h;have N:us.toArray.size=vs.toArray.size:=by rw[aB,aB,C.length,D.length,I]
   rw[N];simp only[Builtin.Tuple.tupleCompareSizes,dJ,decide_false];exact aj h
theorem Ft{p q:Addr}{a b:List Int}{P:dI->Shared->Prop}(f:IsTup s.heap p us.toArray)(g:IsTup s.heap q vs.toArray)
  (c:bZ us a)(d:bZ vs b)(e:a.length=b.length)
  (h:P (.done (.ret (.bool (llt a b)))) s):wpAny (model prog w) A (Builtin.«tuple.__lt__» ⟨[.ref p,.ref q],[]⟩) P E s:=FA (.inl ⟨rfl,rfl,rfl⟩) f g c d e h
theorem gt_tree{p q:Addr}{a b:List Int}{P:dI->Shared->Prop}(g:IsTup s.heap p us.toArray)(i:IsTup s.heap q vs.toArray)
  (c:bZ us a)(d:bZ vs b)(e:a.length=b.length)
  (h:P (.done (.ret (.bool (llt b a)))) s):wpAny (model prog w) A (Builtin.«tuple.__gt__» ⟨[.ref p,.ref q],[]⟩) P E s:=FA (f:=fun a b=>llt b a) (.inr ⟨rfl,rfl,rfl⟩) g i c d e h
section
variable {prog:Program}{w:World}{A:Around}{I:Addr}{fp wr:List Addr}{G:Array ly->Array ly->Prop}{P:Nat->Value->Prop}{St:Nat->Shared->Prop}{R:Result->Shared->Prop}
theorem KC{N:String}{B:Builtin}{op:CmpOp}(m:Iw table N=some B)(k:plainId N=true)(n:(N="min.loop"/\B=Builtin.«min.loop»/\op=.Lt)\/(N="max.loop"/\B=Builtin.«max.loop»/\op=.Gt))(W:WalksS prog w A.in1 I fp wr G 2 P St)(q:S∉fp){v0 v1:Value}(h0:∀v,P 0 v->v=v0)(O:∀v,P 1 v->v=v1){c:Nat}{bt:Bool}(V:St 0 s)
  (K:s.heap.get? S=some {cls:=.type "list",dict:=none,data:=.seq #[] c,slots:= #[]})
  (U:∀(s':Shared)(Q:Value->Shared->Prop)(E:Value->Shared->Prop),Moved (S::wr) G s s'->Q (.bool bt) s'->wpAny (model prog w) A.in1 (richCompare op v1 v0) Q E s')
  (T:∀s',Moved (S::wr) G s s'->R (.ok (.ret (if bt=true then v1 else v0))) s'):gH (model prog w) A (.builtin N ⟨[.ref I,.none,.ref S],[]⟩) R s:=by
 have r:S∉wr:=fun h=>q (W.sub _ h);have J:∀b∈wr,b∈S::wr:=fun b f=>aJ _ f;have D:(toString "min"++toString ".loop":String)="min.loop":=by decide
 have C:(toString "max"++toString ".loop":String)="max.loop":=by decide
 have F:∀{b:Addr},b∉S::wr->S≠b:=fun f h=>f (by rw[h];exact aL)
 --the u turn
 have u:∀(a:Shared)(x:Value)(d:Nat),St 2 a->a.heap.get? S=some {cls:=.type "list",dict:=none,data:=.seq #[x,x] d,slots:= #[]}->Moved (S::wr) G s a->x=(if bt=true then v1 else v0)->
   gH (model prog w) A (.builtin N ⟨[.ref I,.none,.ref S],[]⟩) R a:=by
  intro a x d H g y M;refine eM m ?_;rw[du k _];rcases n with⟨rfl,rfl,rfl⟩ |⟨rfl,rfl,rfl⟩
  all_goals
   show wpAny _ A.in1 (uX (.ref S)>>=_) _ _ a;refine af (iG g rfl ?_);show wpAny _ A.in1 (tryCatch (pyNext (.ref I)) _>>=_) _ _ a;refine af (uB (W.done a _ _ H fun s' j=>?_));have i:=j.heap S _ r g;show wpAny _ A.in1 (updateSeq S (fun _=> #[])>>=_) _ _ _;refine af (Ey i rfl (af (oY (aj ?_))));rw[M];exact T _ (IE W.gtrans y ((j.mono J).then_heap (tk:=s'.toks) (az _) fun b o f e=>(aR _ _ (F f)).trans e))
 --the L
 have L:∀(a:Shared)(d:Nat),St 1 a->a.heap.get? S=some {cls:=.type "list",dict:=none,data:=.seq #[v0,v0] d,slots:= #[]}->Moved (S::wr) G s a->
   gH (model prog w) A (.builtin N ⟨[.ref I,.none,.ref S],[]⟩) R a:=by
  intro a d H g y;refine eM m ?_;rw[du k _];rcases n with⟨rfl,rfl,rfl⟩ |⟨rfl,rfl,rfl⟩
  all_goals
   show wpAny _ A.in1 (uX (.ref S)>>=_) _ _ a;refine af (iG g rfl ?_);show wpAny _ A.in1 (tryCatch (pyNext (.ref I)) _>>=_) _ _ a;refine af (uB (W.item 1 a _ _ (by decide) H fun v s' p l j=>?_));obtain rfl:=O v p;have i:=j.heap S _ r g;have z:=IE W.gtrans y (j.mono J);show wpAny _ A.in1 (tryCatch (holding [v,v] (richCompare _ v v0>>=_)) _>>=_) _ _ _;refine af (uB (bQ (af (U _ _ _ z ?_))));refine af (bQ (dg ?_));refine af (oY (aj ?_));cases f:bt with
   |true=>
    simp only[if_true];refine af (Ey i rfl (af (oY ?_)))
    first |rw[D] |rw[C]
    refine aj ⟨fR k _,u _ v _ (W.frame _ s' _ s'.toks l (az _) fun b t o e=>?_) (b7 _ i rfl) (z.then_heap (az _) fun b o f e=>(aR _ _ (F f)).trans e) (by rw[f];rfl)⟩;exact(aR _ _ (fun h:S=b=>q (by rw[h];exact t))).trans e
   |false=>
    simp only[aW,if_false];refine af (oY ?_)
    first |rw[D] |rw[C]
    exact aj ⟨fR k _,u _ v0 _ l i z (by rw[f];rfl)⟩
 refine eM m ?_;rw[du k _];rcases n with⟨rfl,rfl,rfl⟩ |⟨rfl,rfl,rfl⟩
 all_goals
  show wpAny _ A.in1 (uX (.ref S)>>=_) _ _ s;refine af (iG K rfl ?_);show wpAny _ A.in1 (tryCatch (pyNext (.ref I)) _>>=_) _ _ s;refine af (uB (W.item 0 s _ _ (by decide) V fun v s' p l j=>?_));obtain rfl:=h0 v p;have i:=j.heap S _ r K;show wpAny _ A.in1 (updateSeq S (fun _=> #[v,v])>>=_) _ _ _;refine af (Ey i rfl ?_)
  first |rw[D] |rw[C]
  refine aj ⟨fR k _,L _ _ (W.frame _ s' _ s'.toks l (az _) fun b t o e=>?_) (b7 _ i rfl) ((j.mono J).then_heap (az _) fun b o f e=>(aR _ _ (F f)).trans e)⟩;exact(aR _ _ (fun h:S=b=>q (by rw[h];exact t))).trans e
theorem mm_go{N:String}{B:Builtin}{op:CmpOp}(k:Iw table N=some B)(L:plainId N=true)(t:(N="min.loop"/\B=Builtin.«min.loop»/\op=.Lt)\/(N="max.loop"/\B=Builtin.«max.loop»/\op=.Gt))(y:A.handled=none){p q:Addr}{bt:Bool}
  (x:∀(s':Shared)(Q:Value->Shared->Prop)(E:Value->Shared->Prop),(∀c o,s.heap.get? c=some o->s'.heap.get? c=some o)->Q (.bool bt) s'->wpAny (model prog w) A.in1 (richCompare op (.ref q) (.ref p)) Q E s')
  (h:∀h' tk,(∀c o,s.heap.get? c=some o->h'.get? c=some o)->R (.ok (.ret (if bt=true then .ref q else .ref p))) {s with heap:=h',toks:=tk}) (l:n=s.heap.objs.size+1) (j:m=s.heap.objs.size+2):
  gH (model prog w) A (.builtin N ⟨[.ref n,.none,.ref m],[]⟩) R {s with heap:=((s.heap.push {cls:=.type "tuple",data:=.seq #[.ref p,.ref q]}).push {cls:=.type "tuple_iterator",data:=.fields #[.ref s.heap.objs.size,.int 0 0]}).push {cls:=.type "list",data:=.seq #[]}}:=by
 have u:(s.heap.push {cls:=.type "tuple",data:=.seq #[.ref p,.ref q]}).IsTuple s.heap.objs.size #[.ref p,.ref q]:=⟨_,ay _ rfl,rfl,0,rfl⟩;have C:(s.heap.push {cls:=.type "tuple",data:=.seq #[.ref p,.ref q]}).objs.size=s.heap.objs.size+1:=bE ..;have D:∀o d:Obj,((s.heap.push o).push d).objs.size=s.heap.objs.size+2:=fun o d=>by rw[bE,bE]
 rw[l,j];have old:∀{G:Array ly->Array ly->Prop}{F H I:Obj}{s':Shared},Moved [s.heap.objs.size+2,s.heap.objs.size+1] G {s with heap:=((s.heap.push F).push H).push I} s'->∀c o,s.heap.get? c=some o->s'.heap.get? c=some o:=fun a c o e=>by have z:=aw e;refine a.heap c o (fun b=>?_) (ag _ (ag _ (ag _ e)));simp only[aH,cV,or_false]at b;rcases b with e|e<;>exact absurd z (by rw[e];exact Nat.not_lt.mpr (xR _ _))
 refine KC k L t (v0:=.ref p) (v1:=.ref q) (bt:=bt) ((Walks.tuple (A:=A.in1) y _ s.heap.objs.size (aK (eh _)) #[.ref p,.ref q]).toS) (by simp) (fun v e=>by simpa using e.symm) (fun v e=>by simpa using e.symm) ⟨⟨_,ag _ (C▸ay _ rfl),rfl,rfl⟩,(u.push _).push _⟩ (D _ _▸ay _ rfl) (fun s' g f a=>x s' g f (old a)) fun s' a=>?_;have J:=old a;obtain⟨h',r,i,M,K⟩:=s';obtain rfl:r=s.gens:=a.gens;obtain rfl:i=s.drawn:=a.drawn;obtain rfl:K=s.os:=a.os;exact h h' M J
theorem sX{p q:Addr}{a b:List Int}{Q:Value->Shared->Prop}(j:A.handled=none)(l:A.units+1<cLine)(m:IsTup s.heap p us.toArray)(n:IsTup s.heap q vs.toArray)(g:bZ us a)(i:bZ vs b)(k:a.length=b.length)
  (h:∀h' tk,(∀c o,s.heap.get? c=some o->h'.get? c=some o)->Q (if llt b a=true then .ref q else .ref p) {s with heap:=h',toks:=tk}):
  wpAny (model prog w) A (call (.builtin "min") [.ref p,.ref q]) Q E s:=by
 refine call_function_tree F.kind_min F.plain_min F.entry_min (F.args_min2 _ _) ?_;show wpAny _ A.in1 (fC "min" ["key","default"] 0 ⟨[],[]⟩>>=_) _ _ s;refine af (oX (show fC "min" ["key","default"] 0 ⟨[],[]⟩=pure [none,none]from rfl) ?_);show wpAny _ A.in1 (newTuple [.ref p,.ref q]>>=_) _ _ s;refine af (bW (af (jv ⟨_,ay _ rfl,rfl,0,rfl⟩ (af (bW ?_)))));rw[show(toString "min"++toString ".loop":String)="min.loop" by decide];refine aj ⟨fR F.plain_min_loop _,mm_go F.entry_min_loop F.plain_min_loop (.inl ⟨rfl,rfl,rfl⟩) j (fun v u t old r=>?_) h (bE ..) ((bE ..).trans (congrArg (·+1) (bE ..)))⟩;have f:=m.keeps old;have d:=n.keeps old;exact mI (op:=.Lt) d.typeIs f.typeIs qG (cF qG d.typeIs F.entry_tuple_lt (Ft d f i g k.symm ⟨_,rfl,(fun e=>nomatch e),r⟩) (F.args_tuple_lt_2 _ _)) l
theorem HU{p q:Addr}{a b:List Int}{Q:Value->Shared->Prop}(j:A.handled=none)(l:A.units+1<cLine)(m:IsTup s.heap p us.toArray)(n:IsTup s.heap q vs.toArray)(g:bZ us a)(i:bZ vs b)(k:a.length=b.length)
  (h:∀h' tk,(∀c o,s.heap.get? c=some o->h'.get? c=some o)->Q (if llt a b=true then .ref q else .ref p) {s with heap:=h',toks:=tk}):
  wpAny (model prog w) A (call (.builtin "max") [.ref p,.ref q]) Q E s:=by
 refine call_function_tree F.kind_max F.plain_max F.entry_max (F.args_max2 _ _) ?_;show wpAny _ A.in1 (fC "max" ["key","default"] 0 ⟨[],[]⟩>>=_) _ _ s;refine af (oX (show fC "max" ["key","default"] 0 ⟨[],[]⟩=pure [none,none]from rfl) ?_);show wpAny _ A.in1 (newTuple [.ref p,.ref q]>>=_) _ _ s;refine af (bW (af (jv ⟨_,ay _ rfl,rfl,0,rfl⟩ (af (bW ?_)))));rw[show(toString "max"++toString ".loop":String)="max.loop" by decide];refine aj ⟨fR F.plain_max_loop _,mm_go F.entry_max_loop F.plain_max_loop (.inr ⟨rfl,rfl,rfl⟩) j (fun v u t old r=>?_) h (bE ..) ((bE ..).trans (congrArg (·+1) (bE ..)))⟩;have f:=m.keeps old;have d:=n.keeps old;exact mI (op:=.Gt) d.typeIs f.typeIs F.slot_tuple_gt (cF F.slot_tuple_gt d.typeIs F.entry_tuple_gt (gt_tree d f i g k.symm ⟨_,rfl,(fun e=>nomatch e),r⟩) (F.args_tuple_gt_2 _ _)) l
end
def rMinL(K:ah):List V->Hp->VK->Prop:=fun xs H Q=>∃(p q:Addr)(a b:List Int),xs=[V.ref p,V.ref q]/\SqT K H p (a.map V.int)/\SqT K H q (b.map V.int)/\a.length=b.length/\Q (if llt b a=true then .ref q else .ref p) H
def rMaxL(K:ah):List V->Hp->VK->Prop:=fun xs H Q=>∃(p q:Addr)(a b:List Int),xs=[V.ref p,V.ref q]/\SqT K H p (a.map V.int)/\SqT K H q (b.map V.int)/\a.length=b.length/\Q (if llt a b=true then .ref q else .ref p) H
theorem HR(e:X.calm=true)(g:X.A.units+1<cLine):fF X (.builtin "min") (rMinL X.K):=by intro x s B H A y Q I r h;obtain⟨p,q,a,b,rfl,c,d,f,hq⟩:=h;obtain⟨u,z,rfl,l,m⟩:=vals2 r;cases l;cases m;obtain⟨v,n,i,_⟩:=I.tuple c;obtain⟨w,o,j,_⟩:=I.tuple d;refine _root_.Q.sX (I.ok.hd e) g i j (intsAre_of n) (intsAre_of o) f fun t tk k=>⟨_,H,I.kept k,?_,hq⟩;split <;>rfl
theorem HS(e:X.calm=true)(g:X.A.units+1<cLine):fF X (.builtin "max") (rMaxL X.K):=by intro x s B H A y Q I r h;obtain⟨p,q,a,b,rfl,c,d,f,hq⟩:=h;obtain⟨u,z,rfl,l,m⟩:=vals2 r;cases l;cases m;obtain⟨v,n,i,_⟩:=I.tuple c;obtain⟨w,o,j,_⟩:=I.tuple d;refine _root_.Q.HU (I.ok.hd e) g i j (intsAre_of n) (intsAre_of o) f fun t tk k=>⟨_,H,I.kept k,?_,hq⟩;split <;>rfl
noncomputable def kD(k:List Int×List Int):List Int:=k.1++k.2
theorem Fw:∀{a c:List Int}(b d:List Int),a.length=c.length->llt (a++b) (c++d)=(llt a c||(decide (a=c)&&llt b d))
 | [],[],b,d,_=>by simp[llt]
 |x::a,y::c,b,d,h=>by
  have e:=Fw (a:=a) (c:=c) b d (by simpa using h);simp only[xp,llt,e];by_cases e1:x=y;·subst e1;simp
  ·simp[e1]
def P2(h:Heap)(v:Value)(k:List Int×List Int):Prop:=∃a o its n x y rest us ws,v=.ref a/\h.get? a=some o/\o.cls=.type "tuple"/\o.data=.seq its n/\its.toList=.ref x::.ref y::rest/\IsTup h x (us:List Value).toArray/\IsTup h y (ws:List Value).toArray/\bZ us k.1/\bZ ws k.2
def P2s(h:Heap)(vs:List Value)(ps:List (List Int×List Int)):Prop:=Paired (P2 h) vs ps
theorem p2_at{ps:List (List Int×List Int)}(r:P2s h vs ps)(hi:i<vs.length):P2 h (vs.getD i .none) (ps.getD i ([],[])):=by
 unfold P2s at r
 induction r generalizing i with
 |nil=>exact absurd hi (dm _)
 |cons y t ih=>
  cases i with
  |zero=>exact y
  |succ i=>exact ih (by simpa using hi)
theorem p2_kat(c:∀b o,h.get? b=some o->h1.get? b=some o){ps:List (List Int×List Int)}(r:P2s h vs ps):∃fs,KatTups h1 vs fs/\fs.length=vs.length/\∀v∈fs,∃x o,v=bB x/\h1.get? x=some o/\o.cls=.type "tuple":=by
 unfold P2s at r
 induction r with
 |nil=>exact⟨[],.nil,rfl,fun v hv=>nomatch hv⟩
 | @cons v k vs ps y t ih=>
  obtain⟨fs,d,e,f⟩:=ih;obtain⟨a,o,s,n,x,y,u,w,z,rfl,i,j,l,m,⟨q,p,g,_⟩,_⟩:=y;refine⟨.ref x::fs,.cons (c _ _ i) j l (by rw[<-Gw,m];rfl) d,by simp[e],fun v hv=>?_⟩;rcases aH.mp hv with rfl|hv;·exact⟨x,q,rfl,c _ _ p,g⟩
  ·exact f v hv
section
variable {prog:Program}{w:World}{A:Around}{E:Value->Shared->Prop}{s:Shared}
theorem DZ{k:List Int}(r:bZ us k):ItemsAre (cw prog w) (k.map .inl) us:=by
 induction r with
 |nil=>exact .nil
 |cons n t r ih=>exact .cons (ny _ _ _ _) ih
theorem EG{x:Addr}{k:List Int}(t:IsTup h x us.toArray)(r:bZ us k):IsTupleKey (cw prog w) h (k.map .inl) x:=by obtain⟨o,c,a,n,b⟩:=t;exact⟨o,us.toArray,n,c,a,b,DZ r⟩
theorem inl_inj{a c:List Int}:decide (a.map (dX:Int->Key)=c.map dX)=decide (a=c):=by
 refine decide_eq_decide.mpr ⟨fun h=>?_,fun h=>by rw[h]⟩
 induction a generalizing c with
 |nil=>cases c with
  |nil=>rfl
  |cons=>cases h
 |cons x a ih=>cases c with
  |nil=>cases h
  |cons y c=>simp only[bR,II,dX.injEq]at h;rw[h.1,ih h.2]
theorem FR{x y:Addr}{a c:List Int}{Q:Bool->Shared->Prop}(e:A.units<cLine)(f:IsTup s.heap x us.toArray)(g:IsTup s.heap y ws.toArray)(b:bZ us a)(d:bZ ws c)(h:Q (decide (a=c)) s):wpAny (model prog w) A (eqBool (.ref x) (.ref y)) Q E s:=by rw[<-inl_inj]at h;exact wpAny_eqBool_tuple (knd:=cw prog w) e (EG f b) (EG g d) h
theorem Fs{x y:Addr}{a c:List Int}{Q:Bool->Shared->Prop}(j:A.units<cLine)(b:IsTup s.heap x us.toArray)(d:IsTup s.heap y ws.toArray)(f:bZ us a)(g:bZ ws c)(i:a.length=c.length)(h:Q (llt a c) s):wpAny (model prog w) A (oneLt' false (.ref x) (.ref y)) Q E s:=
 kat_one _ _ (mI (op:=.Lt) b.typeIs d.typeIs qG (cF qG b.typeIs F.entry_tuple_lt (Ft b d f g i ⟨_,rfl,(fun e=>nomatch e),h⟩) (F.args_tuple_lt_2 _ _)) j)
end
theorem Cf{ps:List (List Int×List Int)}(i:Nat):(ps.map kD).getD i []=kD (ps.getD i ([],[])):=by rw[ae,ae,aA];cases ps[i]? <;>rfl
theorem asks_p2{ps:List (List Int×List Int)}(f:A.units<cLine)(nd:(ps.map kD).Nodup)(I:vs.length=ps.length)(r:P2s h0 vs ps)(h2:2<=vs.length)(J:∀k∈ps,k.1.length=m/\k.2.length=m):Ii prog w A (ltL (ps.map kD)) vs h0:=by
 intro s1 d;refine⟨tuples' false,fun Y X q=>?_,fun i j C hi H V q=>?_⟩;·obtain⟨fs,K,a2,L⟩:=p2_kat d r;refine kat_kind (T:=.type "tuple") K (by lia) (fun v W=>?_) rfl q;obtain⟨x,o,rfl,g,h⟩:=L v W;intro A Q E a8 k q;exact Ax ⟨o,k _ _ g,h⟩ q
 ·obtain⟨a,o,a0,a5,x,b1,a6,us,ws,g,h,e3,M,N,s,t,u,y⟩:=p2_at r hi;obtain⟨Z,o',a4,n',x',y',a7,a9,b0,O,P,f3,R,S,B,D,F,G⟩:=p2_at r H;have l:=neL nd (i:=i) (j:=j) (by rw[ai];lia) (by rw[ai];lia) V;have l1:(ps.getD i ([],[])).1.length=m/\(ps.getD i ([],[])).2.length=m:=by rw[ae,aa (I▸hi)];exact J _ (bo _)
  have l2:(ps.getD j ([],[])).1.length=m/\(ps.getD j ([],[])).2.length=m:=by rw[ae,aa (I▸H)];exact J _ (bo _)
  unfold kas_ask;unfold ltL at q;rw[Cf,Cf]at q l;rw[g,O];generalize ps.getD i ([],[])=k at *;generalize ps.getD j ([],[])=k' at *;obtain⟨b,c⟩:=k;obtain⟨n,p⟩:=k';unfold kD at q l;rw[Fw _ _ (l1.1.trans l2.1.symm)]at q;refine kat_lt (d _ _ h) M (d _ _ P) R ?_;rw[N,S];refine kat_cons (FR f (s.keeps d) (B.keeps d) u F ?_);by_cases e:b=n;·subst e;rw[show decide (b=b)=true by simp];have U:c≠p:=fun z=>l (by rw[z]);refine kat_yes (kat_cons (FR f (t.keeps d) (D.keeps d) y G ?_));dsimp only;rw[show decide (c=p)=false by simpa using U];refine kat_no (Fs f (t.keeps d) (D.keeps d) y G (l1.2.trans l2.2.symm) ?_);simp[BK]at q;exact q
  ·rw[show decide (b=n)=false by simpa using e];refine kat_no (Fs f (s.keeps d) (B.keeps d) u F (l1.1.trans l2.1.symm) ?_);simp[e]at q;exact q
def jt(H:Hp)(ys:List V)(ps:List (List Int×List Int)):Prop:=Paired (fun v k=>∃a x y rest,v=V.ref a/\H a=some (.tup (.ref x::.ref y::rest))/\H x=some (.tup (k.1.map V.int))/\H y=some (.tup (k.2.map V.int))) ys ps
theorem mw{ps:List (List Int×List Int)}(h:jt H ys ps):ps.length=ys.length:=by
 unfold jt at h
 induction h with
 |nil=>rfl
 |cons _ _ ih=>simp[ih]
theorem p2_of(ok:HOk P w H h){ps:List (List Int×List Int)}(k:jt H ys ps):bM ys vs->P2s h vs ps:=by
 unfold jt at k
 induction k generalizing vs with
 |nil=>intro z;cases z;exact .nil
 |cons y t ih=>
  intro z;cases z with
  |cons r q=>
   obtain⟨a,x,z,A,rfl,e,g,i⟩:=y;cases r;obtain⟨_,v,b,o,c,d,n,f⟩:=ok a _ e;obtain⟨_,s,j,m⟩:=ok x _ g;obtain⟨_,u,l,p⟩:=ok z _ i;cases b with
   |cons r1 b=>cases b with
    |cons r2 b=>cases r1;cases r2;exact .cons ⟨a,o,_,n,x,z,_,s,u,rfl,c,d,f,rfl,m,p,intsAre_of j,intsAre_of l⟩ (ih q)
def JS(K:ah):List V->Hp->VK->Prop:=fun xs H Q=>∃(p:Addr)(ys:List V)(ps:List (List Int×List Int))(m:Nat),xs=[V.ref p]/\SqL K H p ys/\ps.length<64/\(ps.map kD).Nodup/\(∀k∈ps,k.1.length=m/\k.2.length=m)/\jt H ys ps/\∀l,H l=none->Q (.ref l) (upd H l (.lst (cj .non (ps.map kD) ys)))
theorem Aj(v:X.A.units+2<cLine):fF X (.builtin "sorted") (JS X.K):=by
 intro D s G H F E Q I r h;obtain⟨p,f,a,m,rfl,hq,A,nd,t,i,q⟩:=h;obtain⟨u,rfl,z⟩:=vals1 r;cases z;obtain⟨d,g,y,C⟩:=I.list hq;have n:a.length=f.length:=mw i;have l:(a.map kD).length=f.length:=by rw[ai];exact n
 have B:=g.length;have w:d.length=(a.map kD).length:=by lia
 refine x5 (lt:=ltL (a.map kD)) (vs:=d) (by rw[w];exact GH nd) y.isList (by lia) (fun j=>asks_p2 v nd (by lia) (p2_of I.hok i g) j t) ?_;obtain⟨c,k⟩:=sortedAll_at s.heap d (gK (ltL (a.map kD)) d).toArray;have x:(cj V.non (a.map kD) f).length<=sizeLine:=by unfold cj;rw[ai,(lF nd).length_eq,ba];lia
 exact⟨.ref (s.heap.objs.size+1),_,I.laid (t':=s.toks) (fun b o e=>sortedAll_old e) (dy _) (show dU X.prog X.w _ _ _ (.lst (cj .non (a.map kD) f))from⟨x,_,c,ye nd l g,k⟩),rfl,q _ (I.hok.fresh (dy _))⟩
end Q
namespace PySem
noncomputable abbrev eT1(h:Heap)(t:Addr):Heap:=h.push {cls:=.type "tuple_iterator",data:=.fields #[.ref t,.int 0 0]}
noncomputable abbrev eT2(h:Heap)(t:Addr):Heap:=(eT1 h t).push {cls:=.type "enumerate",data:=.fields #[.none,.bool false,.ref h.objs.size,rawInt 0,.none,.none]}
theorem BI(t:Addr)(xs:Array Value)(n:Nat)(c:Option Addr)(f:Array (Option Value)):
  Meets (Builtin.«enumerate.__new__» ⟨[.type "enumerate",.ref t],[]⟩) (fun _ R s=>s.heap.get? t=some {cls:=.type "tuple",dict:=c,data:=.seq xs n,slots:=f}/\R (.ok (.ret (.ref (eT1 s.heap t).objs.size))) {s with heap:=eT2 s.heap t}):=
 .of_wp fun j w A R s h=>by
  obtain⟨hp,g,d,tk,e⟩:=s;obtain⟨a,h⟩:=h;have i:=sub_enumerate;have b:Heap.IsTuple (Shared.heap ⟨hp,g,d,tk,e⟩) t xs:=⟨_,a,rfl,n,rfl⟩
  wp_walk using lC a
  refine wpAny_stack_any fun k=>aj ?_;split;·rename_i cc _ _ _ _ _;generalize(cc==gR "enumerate")=bb;cases bb<;>(wp_walk using lC a,jv b;exact⟨_,rfl,h⟩)
  ·wp_walk using lC a,jv b
   exact⟨_,rfl,h⟩
section
variable {prog:Program}{w:World}{A:Around}{E:Value->Shared->Prop}{s:Shared}
theorem El{t:Addr}{xs:Array Value}{Q:Value->Shared->Prop}(i:s.heap.IsTuple t xs)
  (q:∀h',IsEnum h' (s.heap.objs.size+1) s.heap.objs.size 0 .none->h'.IsTupleIter s.heap.objs.size t 0->(∀c o,s.heap.get? c=some o->h'.get? c=some o)->Q (.ref (s.heap.objs.size+1)) {s with heap:=h'}):
  wpAny (model prog w) A (call (.type "enumerate") [.ref t]) Q E s:=by
 obtain⟨⟨c,b,d,k⟩,e,f,n,g⟩:=i;obtain rfl:c=gR "tuple":=f;obtain rfl:d=Data.seq xs n:=g;have l:(eT1 s.heap t).objs.size=s.heap.objs.size+1:=bE ..;have a:(eT2 s.heap t).get? (eT1 s.heap t).objs.size=some _:=ay _ rfl;have h:(eT2 s.heap t).get? s.heap.objs.size=some _:=ag _ (ay _ rfl);refine callType_new F.called_enumerate (by decide) (F.typeCall_enumerate_1 _) (F.newCall_enumerate_1 _) (fun j=>F.args_object_init_2 j _) F.entry_enumerate_new (BI t xs n b k) ⟨e,?_⟩;show _/\_;rw[l]at a⊢;exact⟨⟨_,a,rfl⟩,q _ a ⟨_,h,rfl,rfl⟩ fun c o x=>ag _ (ag _ x)⟩
end
theorem drawsT(l:A.handled=none)(j t:Addr)(n:t≠j)(xs:Array Value):
  Draws prog w A j [j,t] xs.size (fun i v=>xs[i]? =some v) (fun i h=>h.IsTupleIter j t i/\h.IsTuple t xs) where
 live:=fun _ _ a=>by obtain⟨⟨o,b,_⟩,_⟩:=a;exact⟨o,b⟩
 frame:=fun _ _ _ a c=>by obtain⟨⟨o,b,r⟩,⟨e,p,q⟩⟩:=a;exact⟨⟨o,c j (by simp) o b,r⟩,⟨e,c t (by simp) e p,q⟩⟩
 item:=fun i s Q E hi a k=>Kr a.1 a.2 (v:=xs[i]) (by simp[hi]) fun f m d=>k _ f s.toks (by simp[hi]) ⟨m,a.2.extBut d.extBut n⟩ d
 done:=fun s Q E a g=>Fd l a.1 a.2 (by simp) g
end PySem
namespace L2
open PySem PySem.Spec PyProof.Rows
noncomputable def Itet(K:ah)(a:Addr):It:=
 ⟨fun i H=>∃xs x,SqT K H a xs/\xs[i]? =some x,fun i H v H'=>∃p x,H p=none/\H'=upd H p (.tup [.int i,x])/\v=.ref p/\∀xs,SqT K H a xs->xs[i]? =some x,fun i H=>∃xs,SqT K H a xs/\xs.length<=i⟩
theorem Dh{es:List Expr}{kk:Nat}(a d e:Addr)(R:e≠d):Turn P w K (.Tuple es kk pp) (Itet K a) [e,d] e (fun i h=>(∃old,IsEnum h e d i old)/\h.IsTupleIter d a i) where
 mem:=by simp
 obj:=fun i h l b f=>by
  obtain⟨⟨old,g⟩,o,e1,c,a3⟩:=l;have u:b=e\/b=d:=by simpa using f
  rcases u with rfl|rfl;·exact⟨_,g,fun v z=>by cases z⟩
  ·exact⟨o,e1,fun v z=>by rw[a3]at z;cases z⟩
 keep:=fun i h t l a1=>by obtain⟨⟨old,g⟩,o,C,r⟩:=l;exact⟨⟨old,a1 e (by simp) _ g⟩,o,a1 d (by simp) o C,r⟩
 item:=by
  intro X O S N n i Y s σ H a2 I hf l Q;subst O S N;obtain⟨xs,x,hq,U⟩:=Q;obtain⟨p,Z,j,hz⟩:=I.tuple hq;have j:s.heap.IsTuple a p.toArray:=j;obtain⟨c0,hu,ru⟩:=Z.get U;obtain⟨⟨old,g⟩,B⟩:=l;obtain⟨f0,G,f2,f3,f4,f5⟩:=hf e (by simp);obtain⟨E,F,g2,J,L,M⟩:=hf d (by simp);have b3:i<p.toArray.size:=by have :=(aC.mp hu).1;simpa using this
  have b4:d<s.heap.objs.size:=by obtain⟨o,q,_⟩:=B;exact aw q
  have a8:a≠d:=by obtain⟨o',k,b9,_⟩:=id B;exact tup_ne j k (by rw[b9];decide+kernel)
  have a7:e≠a:=bA (tup_ne j g (by show gR "enumerate"≠gR "tuple";decide+kernel));have D:=drawsT (prog:=X.prog) (w:=X.w) (A:=X.A.in1) (I.ok.hd n) d a a8 p.toArray;refine wpAny_pyNext_enum_itemD D g ⟨B,j⟩ b3 R (by simp[R,a7]) fun y t tk hy C b5 ht c2 V=>?_;have a5:y=c0:=by
   have :p[i]? =some y:=by simpa using hy
   rw[hu]at this;exact(bj this).symm
  subst a5;have hp:H s.heap.objs.size=none:=I.hok.fresh (az _);have nE:∀b v,H b=some v->b≠e:=fun b v q z=>by rw[z,f0]at q;cases q
  have nI:∀b v,H b=some v->b≠d:=fun b v q z=>by rw[z,E]at q;cases q
  have W:∀c o,c∉[e,d]->s.heap.get? c=some o->t.get? c=some o:=fun c o n q=>V c o (fun z=>n (by simp[z])) (fun z=>n (by simp[z])) q;have I1:Inv X Y σ (upd H s.heap.objs.size (.tup [.int i,x])) {s with heap:=t,toks:=tk+1}:=by
   refine I.step (g':=s.gens) (d':=s.drawn) (ch:=[e,d]) (fun b f=>?_) (fun b o _ _ m q _=>W b o m q)
    (fun b o _ _ m q _=>⟨o.slots,W b o m q⟩) (fun b o _ q b8=>by rw[aS (aK (aw q))];exact b8)
    (fun b o m q=>⟨o,W b o m q⟩) (fun b ys q=>by rw[aS (a9 q hp)];exact q) (fun b o v q=>by rw[aS (a9 q hp)];exact q)
    (fun b ps q=>⟨#[],by rw[aS (a9 q hp),q];simp⟩) (fun c3 hm=>?_) (fun b v q=>?_) I.bare
   ·have u:b=e\/b=d:=by simpa using f
    rcases u with rfl|rfl;·exact⟨f3,G,f4,f5⟩
    ·exact⟨J,F,L,M⟩
   ·obtain⟨o,a4,ep,q,r⟩:=hm;exact⟨o,a4,ep,V _ o (bA G) (bA F) q,r⟩
   ·by_cases f:b=s.heap.objs.size;·subst f;rw[au]at q;cases q;exact⟨by show 2<=sizeLine;decide,[.int i tk,y],.cons ⟨tk,rfl⟩ (.cons ru .nil),⟨_,ht,rfl,_,rfl⟩⟩
    ·rw[aS f]at q;refine(I.hok b v q).lE (fun c o m k=>V c o ?_ ?_ k) (fun c k=>by rw[aS (a9 k hp)];exact k) fun c ys k=>by rw[aS (a9 k hp)];exact k
     ·rcases m with z|z;·rw[z];exact nE b v q
      ·exact nE c _ z
     ·rcases m with z|z;·rw[z];exact nI b v q
      ·exact nI c _ z
  have fe:(upd H s.heap.objs.size (.tup [.int i,x])) e=none:=by rw[aS (aK (aw g))];exact f0
  refine⟨_,rfl,Ik (s:={s with heap:=t,toks:=tk+1}) C fun a6 b2 a0=>?_⟩;have I2:Inv X Y σ (upd H s.heap.objs.size (.tup [.int i,x])) {s with heap:=a6,toks:=tk+1}:=I1.turned (t':=tk+1) (fun b o f q=>a0.extBut b o f q) fe G f3 f4 f5;refine⟨.ref s.heap.objs.size,_,I2,rfl,⟨_,x,hp,rfl,rfl,fun ys b7=>by rw[I.sy b7 hq];exact U⟩,⟨⟨y,?_⟩,b5.1.extBut a0.extBut (bA R)⟩,fun b f=>?_⟩
  ·have :((i:Int)+1)=((i+1:Nat):Int):=by push_cast;rfl
   rw[<-this];exact b2
  ·have u:b=e\/b=d:=by simpa using f
   rcases u with rfl|rfl;·exact fe
   ·rw[aS (aK b4)];exact E
 done:=by intro X O S N n i Y s σ H a2 I hf l Q;subst O S N;obtain⟨xs,hq,U⟩:=Q;obtain⟨p,Z,j,hz⟩:=I.tuple hq;have j:s.heap.IsTuple a p.toArray:=j;obtain⟨⟨old,g⟩,B⟩:=l;obtain⟨E,F,g2,J,L,M⟩:=hf d (by simp);have hT:s.TypeIs (.ref e) "enumerate":=⟨_,g,rfl⟩;have c1:=Z.length;unfold pyNext;refine af (gT (dF (name:=bf "__next__") hT j7 (cF j7 hT Mh ?_ (IJ _))));show wpAny _ _ (field (.ref e) 2>>=_) _ _ _;refine af (gC g rfl (x:=.ref d) rfl ?_);refine af (Fd (A:=X.A.in1) (I.ok.hd n) B j (by simp;lia) fun t z b1 b6=>?_);obtain⟨o,C,b0⟩:=b6;refine af (kF (T:="StopIteration") (b:=true) ⟨o,C,b0⟩ Iu ?_);exact aj ⟨rfl,I.turned (t':=s.toks) (fun b o f q=>b1 b o f q) E F J L M⟩
 self:=fun _ _ _ _ _ l h=>by obtain⟨⟨old,g⟩,_⟩:=l;exact oW g h
section
variable {X:Cx}{es:List Expr}{kk:Nat}{pp:Pos}
def Lb(K:ah)(t:TA):TI:=fun σ H R=>t σ H fun vs H1=>∃a,vs=[.ref a]/\(∃xs,SqT K H1 a xs)/\R (Itet K a) H1
theorem J6{l:Expr}{t:TA}{p:Pos}(r:Gl X "enumerate")(w:X.mg "enumerate"=none)(o:PA X [l] t)(x:bz [l] X.env=[(false,eval l X.env)]:=by rfl):
  PI X (.Tuple es kk pp) (.Call (.Name "enumerate" p) [l] [] pos) (Lb X.K t):=by
 intro k s m H R I h;refine Call_ (k9 I r w boot_enumerate (dc (thn (o pos k s m H _ I h) fun F s1 ⟨G,e,c,B,A⟩=>?_) x rfl));obtain⟨a,rfl,⟨J,hq⟩,q⟩:=A;obtain⟨u,rfl,C⟩:=B.one;cases C;obtain⟨y,E,d,D⟩:=c.tuple hq;have d:s1.heap.IsTuple a y.toArray:=d;refine El d fun f j v z=>?_;refine oW (s:={s1 with heap:=f}) j ?_;have n:Inv X k m e {s1 with heap:=f,toks:=s1.toks}:=c.kept z;refine⟨_,[s1.heap.objs.size+1,s1.heap.objs.size],_,_,e,rfl,n,Dh a s1.heap.objs.size (s1.heap.objs.size+1) (Nat.succ_ne_self _),⟨⟨_,j⟩,v⟩,fun b g=>?_,q⟩;have i:s1.heap.objs.size<=b:=by
  simp only[aH,cV,or_false]at g;rcases g with rfl|rfl;·exact dy _
  ·exact az _
 exact c.z7 i (c.hok.fresh i)
end
end L2
namespace L2
open PySem PySem.Spec PySem.W PyProof.Rows
section
variable {prog:Program}{w:World}{A:Around}{E:Value->Shared->Prop}{h:Heap}{g:Array ly}{d:Drawn}{t:Nat}{os:OsState}{nm q:Str}{C N:Addr}{bs bm bmB:List Value}{hdct:Bool}{sn:List Str}{sub:List Value}{ab:Bool}{col:Option Bool}{dd:Option Addr}{k0 k1 k2 k3 k5:Option Value}{B newId initId:String}
noncomputable abbrev BB(h:Heap)(C:Addr)(rest:List Value):Heap:=(h.push {cls:=.type "tuple",data:=.seq rest.toArray}).push {cls:=.ref C,data:=.fields #[.ref h.objs.size,.none,.none,.none,.bool false,.none]}
theorem ke{o:Obj}(e:h.get? b=some o):(BB h C rest).get? b=some o:=ag _ (ag _ e)
theorem zP:(BB h C rest).get? (h.objs.size+1)=some {cls:=.ref C,data:=.fields #[.ref h.objs.size,.none,.none,.none,.bool false,.none]}:=Heap.get?_push_at (by rw[bE]) rfl
theorem vc(F:ExcBaseFacts B newId initId bmB)(T:OwnTail h bmB bm){f:Obj}{Q:dI->Shared->Prop}(a:h.get? C=some (o5 nm q C N bs bm hdct sn sub ab col dd k0 k1 k2 k3 k5 newId))
  (m:h.Ns N mN)(hi:mN "__init__"=some (.ref fI))(hf:h.get? fI=some f)(l:f.cls=.type "function")(n:rest.length<=sizeLine)
  (hq:wpAny (model prog w) A (call (.ref fI) (.ref (h.objs.size+1)::rest)) (fun r s'=>r=.none/\Q (.done (.ret (.ref (h.objs.size+1)))) s') E ⟨BB h C rest,g,d,t,os⟩):
  wpAny (model prog w) A (Builtin.«type.__call__» ⟨.ref C::rest,[]⟩) Q E ⟨h,g,d,t,os⟩:=by
 repeat(first
  |with_reducible refine jP a ?_
  |with_reducible refine wpAny_madeBy_exc a ?_
  |wp_step)
 refine codeAny_call_builtin_code (uj _ F.quiet) (wpAny_check_new_subT F T a ?_);refine codeAny_exc_new_subT F T a ?_ n;show wpAny _ _ _ _ _ (⟨BB h C rest,g,d,t,os⟩:Shared);have c:=ke (C:=C) (rest:=rest) a;have p:(BB h C rest).Ns N mN:=m.keeps fun b o e=>ke e;have i:=T.keeps (h':=BB h C rest) fun b o e=>ke e;have j:(bB C::bm).contains (.ref C)=true:=by simp
 have k:=zP (h:=h) (C:=C) (rest:=rest);unfold Iv;repeat(first
  |with_reducible refine jP k ?_
  | (with_reducible refine wpAny_isSubtype_exc c ?_;rw[j])
  |wp_step)
 show wpAny _ _ (typeLookup (.ref C) _) _ _ _;refine wpAny_typeLookup_tail c p i F.mroIs F.init.lookup ?_;rw[hi];refine bQ (af ?_);unfold bindSpecial;refine af (Ax (T:="function") ⟨_,ke hf,l⟩ ?_);rw[if_pos (by decide)];refine aj (af (cX hq (fun r s' z=>?_) fun _ _ z=>z));obtain⟨rfl,z⟩:=z
 wp_walk
 exact z
theorem HW(F:ExcBaseFacts B newId initId bmB)(T:OwnTail h bmB bm){b:Obj}{Q:Value->Shared->Prop}(a:h.get? C=some (o5 nm q C N bs bm hdct sn sub ab col dd k0 k1 k2 k3 k5 newId))
  (e:h.Ns N mN)(hi:mN "__init__"=some (.ref fI))(hf:h.get? fI=some b)(c:b.cls=.type "function")(f:rest.length<=sizeLine)
  (hq:wpAny (model prog w) (A.under (.builtin "type.__call__" ⟨.ref C::rest,[]⟩)) (call (.ref fI) (.ref (h.objs.size+1)::rest)) (fun r s'=>r=.none/\Q (.ref (h.objs.size+1)) s') E ⟨BB h C rest,g,d,t,os⟩):
  wpAny (model prog w) A (call (.ref C) rest) Q E ⟨h,g,d,t,os⟩:=by
 have i:=tc_lookup;have j:=tc_bind (.ref C);have k:(⟨h,g,d,t,os⟩:Shared).TypeIs (.ref C) "type":=⟨_,a,rfl⟩;refine iI (EB ?_);show wpAny _ _ (callAny (.ref C) _) _ _ _;repeat(any_goals (first
  |assumption
  |with_reducible refine jP a ?_
  |wp_step))
 refine⟨rfl,?_⟩;exact codeAny_call_builtin_at (uj _ (by decide+kernel)) entry_typeCall (wpAny_check_type_call_sub a (vc F T a e hi hf c f hq))
theorem Ie(F:ExcBaseFacts B newId initId bmB)(T:OwnTail h bmB bm){e:Addr}{Q:Value->Shared->Prop}(f:h.get? C=some (o5 nm q C N bs bm hdct sn sub ab col dd k0 k1 k2 k3 k5 newId))
  (a:h.get? e=some {cls:=.ref C,data:=.fields #[.ref x0,.none,.none,.none,.bool false,.none]}) (k:rest.length<=sizeLine)
  (hq:∀h':Heap,(∀b o,b≠e->h.get? b=some o->h'.get? b=some o)->(∃b,h'.get? e=some {cls:=.ref C,data:=.fields #[.ref b,.none,.none,.none,.bool false,.none]})->h.objs.size<=h'.objs.size->Q .none ⟨h',g,d,t,os⟩):
  wpAny (model prog w) A (call (.builtin initId) (.ref e::rest)) Q E ⟨h,g,d,t,os⟩:=by
 refine iI (iK F.init.plain F.initEntry (wpAny_check_init_subT F T f a rfl ?_))
 wp_walk
 have j:=aw a;refine hq _ (fun b o i c=>?_) ⟨h.objs.size,?_⟩ ?_;·rw[aR _ _ (bA i)];exact ag _ c
 ·rw[b7 _ (ag _ a) rfl];rfl
 ·rw[m4,bE];exact dy _
end
noncomputable def exO(e C:Addr)(d:Option Addr):HO:=.ext fun h=>∃x0,h.get? e=some {cls:=.ref C,dict:=d,data:=.fields #[.ref x0,.none,.none,.none,.bool false,.none]}
noncomputable def xdO(d:Addr)(fs:List (Str×V)):HO:=.ext fun h=>∃mA,h.Ns1 d mA/\(∀f,tf (fs.lookup f) (mA f))/\kH mA (fs.map (·.1))
noncomputable def isTT:Value->Bool
 |.type t=>decide (t="type")
 |_=>false
noncomputable def dCl(o:Option Obj)(k:ClassData->Array (Option Value)->Bool):Bool:=match o with
 |some o=>isTT o.cls&&(match o.data with
  |.cls cd=>k cd o.slots
  |_=>false)
 |none=>false
theorem dCl_of{o:Option Obj}{k:ClassData->Array (Option Value)->Bool}(h:dCl o k=true):∃od cd sl,o=some ⟨.type "type",od,.cls cd,sl⟩/\k cd sl=true:=by
 cases o with
 |none=>cases h
 |some o=>
  obtain⟨c,od,d,sl⟩:=o;obtain⟨a,b⟩:=fm.mp h;have e:c=.type "type":=by cases c<;>first |cases a|exact congrArg _ (of_decide_eq_true a)
  subst e;cases d<;>first |exact⟨_,_,_,rfl,b⟩ |cases b
noncomputable def dMr(l:List Value)(k:Addr->List Value->Bool):Bool:=match l with
 |.ref c::bm=>k c bm
 |_=>false
theorem dMr_of{l:List Value}{k:Addr->List Value->Bool}(h:dMr l k=true):∃c bm,l=.ref c::bm/\k c bm=true:=by
 cases l with
 |nil=>cases h
 |cons v bm=>cases v<;>first |exact⟨_,_,rfl,h⟩ |cases h
noncomputable def dBn(o:Option Value)(k:String->Bool):Bool:=match o with
 |some (.builtin n)=>k n
 |_=>false
theorem dBn_of{o:Option Value}{k:String->Bool}(h:dBn o k=true):∃n,o=some (.builtin n)/\k n=true:=by
 cases o with
 |none=>cases h
 |some v=>cases v<;>first |exact⟨_,rfl,h⟩ |cases h
theorem lH{b:Type}{l:List b}(h:l.length=n+1):∃a r,l=a::r/\r.length=n:=by
 cases l with
 |nil=>cases h
 |cons a r=>exact⟨a,r,rfl,i4 h⟩
noncomputable def sR(K:ah)(C f:Addr)(bmB:List Value)(newId:String):Bool:=dCl (K.lookup C) fun cd sl=>dMr cd.mro fun a bm=>decide (sl.toList.length=6)&&dBn (sl.toList.getD 4 none) fun n=>
 a==C&&n==newId&& !cd.hasDel&&tailIn K bmB bm&&nsOkIn K cd.ns&&nsIn K cd.ns "__init__"==some (some (.ref f))
theorem ns_some{N:Addr}{n:Str}{v:Value}(X:K.In h)(G:h.Ns N mg)(e:nsIn K N n=some (some v)):mg n=some v:=by
 obtain⟨o,d,c,b,a,_,hf⟩:=G;unfold nsIn at e;split at e
 ·rename_i q;have z:=X _ _ q;rw[b]at z;cases z;cases a;split at e;·rename_i en he;rw[<-hf];unfold nsFind findBy;rw[<-tF,he];simpa using e
  ·split at e<;>cases e
 ·cases e
def EXO(h:Heap)(C f:Addr)(bmB:List Value)(newId:String):Prop:=∃nm F N bs bm t sn sub ab col dd k0 k1 k2 k3 k5 mN,h.get? C=some (o5 nm F C N bs bm t sn sub ab col dd k0 k1 k2 k3 k5 newId)/\h.Ns N mN/\mN "__init__"=some (.ref f)/\OwnTail h bmB bm
theorem wu{newId:String}(a:K.In h)(q:sR K C f bmB newId=true):EXO h C f bmB newId:=by
 obtain⟨Y,cd,G,v,q⟩:=dCl_of q;obtain⟨k,bm,u,q⟩:=dMr_of q;obtain⟨E,q⟩:=fm.mp q;obtain⟨n,c,q⟩:=dBn_of q;obtain⟨x,Z,d,H⟩:=lH (of_decide_eq_true E);obtain⟨y,r1,e,I⟩:=lH H;obtain⟨z,r2,g,J⟩:=lH I;obtain⟨A,r3,i,L⟩:=lH J;obtain⟨B,r4,j,M⟩:=lH L;obtain⟨D,r5,b,O⟩:=lH M;rw[e,g,i,j,b,aV.mp O]at d;rw[d]at c;have c:B=some (.builtin n):=c;subst c;have w:=d;rw[aE,aE,aE,aE,aE,beq_iff_eq,beq_iff_eq,beq_iff_eq]at q;obtain⟨⟨⟨⟨⟨e,g⟩,i⟩,j⟩,b⟩,o⟩:=q;subst e;subst g;obtain⟨P,R,m,S,T,U,V,W,X,Q,l⟩:=cd;have p:m=.ref k::bm:=u;have r:l=false:=by simpa using i
 have s:G= #[x,y,z,A,some (.builtin n),D]:=by
  apply Mn
  exact w
 subst p;subst r;subst s;exact⟨_,_,_,_,_,_,_,_,_,_,_,_,_,_,_,_,_,a _ _ v,.of_isNs (isNs_of_in a b),ns_some a (.of_isNs (isNs_of_in a b)) o,tail_of_in a j⟩
structure MkX(K:ah)(C f:Addr):Prop where
 ex:sR K C f bmV "ValueError.__new__"=true
 fn:∃o,K.lookup f=some o/\o.cls=.type "function"
 kp:keepIn K (.ref C)=true
section
variable {X:Cx}{CX:CXT}{C f:Addr}{k:Nat}{fd:fh}{ps:List Str}{sp:Sp}{ds:List Value}{dvs:List V}{E:XK}
theorem G5{Q:VK}{vs:List V}(M:MkX X.K C f)(F:ju X.prog X.w X.K X.mg X.base CX k f fd ps sp)(y:jf (k+1) X.A)(o:Binds X.K fd ps ds)(p:bM dvs ds)
  (A:∀(H':Hp)(i:Shared)(e:Value)(s':Shared),Inv X pins σ H' i->CX X.stack H' i E e s'->X.xe e s')(I:Inv X pins σ H s)(r:bM vs us)(w:vs.length<=sizeLine)
  (h:∀x,s.heap.objs.size<=x->H x=none->sp (.ref x::(vs++dvs)) (upd H x (exO x C none)) (fun v H2=>v=.non/\Q (.ref x) H2) E):
  wpAny (model X.prog X.w) X.A (call (.ref C) us) (EP X pins σ Q) X.xe s:=by
 have hq:=h (s.heap.objs.size+1) (dy _) (I.hok.fresh (dy _));obtain⟨nm,qn,N,bs,K,U,sn,sub,J,L,O,W,Y,Z,k3,k5,mN,m,n,hi,T⟩:=wu (bmB:=bmV) I.kIn M.ex;obtain⟨oI,hf,q⟩:=M.fn;have c:Inv X pins σ (upd H (s.heap.objs.size+1) (exO (s.heap.objs.size+1) C none)) {s with heap:=BB s.heap C us}:=by refine I.laid (t':=s.toks) (fun b a0 e=>ke e) (dy _) ?_;exact⟨⟨_,zP⟩,⟨_,zP⟩,fun R S ⟨G,z⟩ k=>⟨G,k _ z⟩⟩
 have g:bM (V.ref (s.heap.objs.size+1)::(vs++dvs)) (bB (s.heap.objs.size+1)::(us++ds)):=.cons rfl (r.append p);have t:(bB (s.heap.objs.size+1)::us++ds).length=ps.length:=by have e:=g.length;rw[F.len _ _ _ _ hq]at e;exact e.symm
 obtain⟨d,P,dr,tk,os⟩:=s;refine HW (fI:=f) xP T m n hi (I.kIn _ _ hf) q (by rw[<-r.length];exact w) ?_;refine iI (jT (F.run _ X.stack _ _ ⟨bB (d.objs.size+1)::us,[]⟩ (bB (d.objs.size+1)::(us++ds)) _ _ E (y.make C us []) (c.env0.make C us []) (o _ (bB (d.objs.size+1)::us) c.kIn t) g hq) fun r s' a=>?_);cases r with
 |error e=>exact A _ _ e s' c a
 |ok fl=>
  cases fl with
  |ret u=>obtain⟨v,H',j,D,l,B⟩:=c.after a;subst l;exact⟨D,⟨V.ref (d.objs.size+1),H',j,rfl,B⟩⟩
  |next =>exact gS a
  |brk=>exact gS a
  |cont=>exact gS a
end
end L2
namespace L2
open PySem PySem.Spec PySem.W PyProof.Rows PySem.Builtin PySem.Builtin.ObjectAttr
noncomputable def Bq:List Value->Bool
 |.ref _::r=>Bq r
 |l=>l==bmV
theorem refuseV(a:Value):refuseLoop a "__setattr__" bmV=pure ():=by kernel_rfl
theorem E1(a:Value):∀{l:List Value},Bq l=true->refuseLoop a "__setattr__" l=pure ()
 |.ref c::r,e=>by rw[refuseLoop_ref];exact E1 a e
 | [],e=>by cases e
 |.type n::r,e=>by rw[show(.type n::r:List Value)=bmV from beq_iff_eq.mp e];exact refuseV a
 |.none::r,e=>by cases e
 |.ellipsis::r,e=>by cases e
 |.notImplemented::r,e=>by cases e
 |.bool _::r,e=>by cases e
 |.int _ _::r,e=>by cases e
 |.float _ _::r,e=>by cases e
 |.str _ _::r,e=>by cases e
 |.bytes _ _::r,e=>by cases e
 |.builtin _::r,e=>by cases e
theorem yd:∀{l:List Value},Bq l=true->l.contains (.type "object")=true
 |.ref c::r,e=>by rw[List.contains_cons,yd (l:=r) e,pb]
 | [],e=>by cases e
 |.type n::r,e=>by rw[show(.type n::r:List Value)=bmV from beq_iff_eq.mp e];decide
 |.none::r,e=>by cases e
 |.ellipsis::r,e=>by cases e
 |.notImplemented::r,e=>by cases e
 |.bool _::r,e=>by cases e
 |.int _ _::r,e=>by cases e
 |.float _ _::r,e=>by cases e
 |.str _ _::r,e=>by cases e
 |.bytes _ _::r,e=>by cases e
 |.builtin _::r,e=>by cases e
section
variable {prog:Program}{w:World}{K:ah}{A:Around}{R:Result->Shared->Prop}{s:Shared}{x C:Addr}
theorem Br{r:Obj}{od:Option Obj}{name:Str}{tk:Tok}{v:Value}(X:K.In s.heap)(I:InstAt s.heap x r C od)(hp:(clsIn K C).any (fun cd=>Bq cd.mro)=true)(p:takerIn K C name=some none)
  (h:∀b,wpAny (model prog w) A.in1 (storeInOwnDict (.ref x) (.ref C) (.str name tk) name v b)
   (fun k s'=>match k with |.done f=>R (.ok f) s'|.again c'=>c'.quiet=true/\gH (model prog w) A c' R s') (fun e s'=>R (.error e) s') s):
  gH (model prog w) A (.call (.builtin "object.__setattr__") ⟨[.ref x,.str name tk,v],[]⟩) R s:=by
 have c:=PySem.F.store_object;obtain⟨cd,i,d⟩:=any_some hp;have ne:cd.mro.isEmpty=false:=by cases q:cd.mro with |nil=>rw[q]at d;cases d|cons _ _=>rfl
 have sub:Looks (model prog w) s.heap (Iv (.ref x) (.type "object")) true:=I.type.andThen (looks_mroIn X (by unfold mroIn;rw[i,fG,if_neg (by rw[ne];decide),yd d]));refine iK c.slot.plain c.entry (@check_slot (model prog w) _ _ s "object.__setattr__" "object" "__setattr__" (.ref x) [.str name tk,v] [] _ c.kind c.split sub (c.args (.ref x) (.str name tk) v) ?_);obtain⟨g,l,o⟩:=Option.bind_eq_some_iff.mp p;have n:Looks (model prog w) s.heap (mroOf (.ref C)) cd.mro:=(looks_clsIn X i).andThen .now;have j:Looks (model prog w) s.heap (storeTaker? g) none:=by
  cases g with
  |none=>exact .now
  |some a=>
   obtain⟨b,m,q⟩:=i7.mp o;refine(looks_takesIn X m).andThen ?_;cases b;·exact .now
   ·cases q
 rw[osa_eq,refuse_eq];refine af (af (I.type.here (af (n.here ?_))));rw[E1 _ d];refine aj (af (I.type.here (af ((r9 X l).here (af (j.here ?_))))));exact h _
end
section
variable {prog:Program}{w:World}{K:ah}{A:Around}{E:Value->Shared->Prop}{s:Shared}{e C:Addr}{name:Str}{v:Value}{vs:Array Value}{Q:Unit->Shared->Prop}
structure StX(K:ah)(C:Addr)(name:Str):Prop where
 hs:findIn K (.ref C) "__setattr__"=some (some (.builtin "object.__setattr__"))
 hp:(clsIn K C).any (fun cd=>Bq cd.mro)=true
 ht:takerIn K C name=some none
 hd:(clsIn K C).any (·.hasDict)=true
noncomputable abbrev mL(C:Addr)(d:Option Addr)(vs:Array Value):Obj:={cls:=.ref C,dict:=d,data:=.fields vs}
theorem Lq(a:h.get? e=some (mL C none vs)):InstAt h e (mL C none vs) C none:=⟨a,rfl,rfl,trivial⟩
theorem Lp{d:Addr}{o:Obj}(b:h.get? e=some (mL C (some d) vs))(a:h.get? d=some o):InstAt h e (mL C (some d) vs) C (some o):=⟨b,rfl,rfl,a⟩
theorem Du(X:K.In s.heap)(S:StX K C name)(a:s.heap.get? e=some (mL C none vs))
  (h:∀h',h'.get? e=some (mL C (some s.heap.objs.size) vs)->h'.Ns1 s.heap.objs.size (fun y=>if y=name then some v else none)->(∀b o,b≠e->s.heap.get? b=some o->h'.get? b=some o)->Q () {s with heap:=h',toks:=s.toks+2}):
  wpAny (model prog w) A (setAttr (.ref e) name v) Q E s:=by
 have I:=Lq a;refine set_plain X I S.hs (Br (s:={s with toks:=s.toks+1}) X I S.hp S.ht fun b=>?_);obtain⟨cd,k,m⟩:=any_some S.hd;refine af (aj (af (af (Ij a (af (AG (s:={s with toks:=s.toks+1}) (Gh X k) ?_))))));rw[m];show wpAny _ _ (alloc {cls:=.type "dict",data:=.dict #[]}>>=_) _ _ _;have c:(s.heap.push {cls:=.type "dict",data:=.dict #[]}).get? e=some (mL C none vs):=ag _ a;have r:=aw a;refine af (wpAny_alloc (af (wpAny_update c ?_)));show wpAny _ _ (pure (some s.heap.objs.size)) _ _ _;refine aj ?_;show wpAny _ _ (pure ()>>=_) _ _ _;refine af (aj (af ?_));have f:s.heap.objs.size≠e:=eP r;have n:((s.heap.push {cls:=.type "dict",data:=.dict #[]}).update e fun o=>{o with dict:=some s.heap.objs.size}).get? s.heap.objs.size=some {cls:=.type "dict",data:=.dict #[]}:=by rw[aR _ _ (bA f)];exact ay _ rfl
 have t:((s.heap.push {cls:=.type "dict",data:=.dict #[]}).update e fun o=>{o with dict:=some s.heap.objs.size}).Ns1 s.heap.objs.size (fun _=>none):=
  ⟨_,#[],_,n,rfl,fun x B=>by simp at B,j6,fun y=>rfl⟩
 have z:kH (fun _=>none:Str->Option Value) []:=kH.nil;refine wpAny_nsSet1 t fun h' d g=>?_;obtain⟨G,F,D,u,p,l⟩:=d.count (CJ name v z);refine af (wpAny_lookBehind u (by rw[p];exact pastItsLine_dict (aP l (by show 1<=sizeLine+1;decide))) ?_);refine aj (h _ ?_ d fun b o i q=>?_);·rw[g.2 _ (bA f),b7 _ c rfl]
 ·have j:b≠s.heap.objs.size:=aK (aw q);rw[g.2 _ j,aR _ _ (bA i)];exact ag _ q
theorem GU{d:Addr}{g:List Str}(X:K.In s.heap)(S:StX K C name)(a:s.heap.get? e=some (mL C (some d) vs))(c:s.heap.Ns1 d mA)(q:kH mA g)(B:g.length<sizeLine)
  (h:∀h',h'.Ns1 d (fun y=>if y=name then some v else mA y)->di d s.heap h'->Q () {s with heap:=h',toks:=s.toks+2}):
  wpAny (model prog w) A (setAttr (.ref e) name v) Q E s:=by
 obtain⟨o,u,r,m,z⟩:=id c;have I:=Lp a m;refine set_plain X I S.hs (Br (s:={s with toks:=s.toks+1}) X I S.hp S.ht fun b=>?_);obtain⟨cd,i,k⟩:=any_some S.hd;refine af (aj (af (af (Ij a (af (AG (s:={s with toks:=s.toks+1}) (Gh X i) ?_))))));rw[k];show wpAny _ _ (pure (some d)) _ _ _;refine aj ?_;show wpAny _ _ (pure ()>>=_) _ _ _;refine af (aj (af ?_));refine wpAny_nsSet1 (s:={s with toks:=s.toks+1}) c fun h' f p=>?_;obtain⟨D,x,t,n,l,j⟩:=f.count (CJ name v q);refine af (wpAny_lookBehind n (by rw[l];exact pastItsLine_dict (aP j (by rw[bG];lia))) ?_);exact aj (h _ f p)
end
end L2
namespace L2
open PySem PySem.Spec PySem.W PyProof.Rows
section
variable {X:Cx}{pins:List (Addr×Obj)}{σ:St}{H:Hp}{s:Shared}{A:Around}{E:Value->Shared->Prop}{a C:Addr}{f:Str}
theorem xd_ok{d:Addr}{fs:List (Str×V)}(H:Hp)(n:h.Ns1 d mA)(r:∀f,tf (fs.lookup f) (mA f))(a:kH mA (fs.map (·.1))):dU P w H h d (xdO d fs):=
 ⟨⟨mA,n,r,a⟩,let⟨o,_,_,e,_⟩:=n;⟨o,e⟩,fun b c ⟨m,n,r⟩ k=>⟨m,n.at k,r⟩⟩
theorem ex_ok{e:Addr}(H:Hp)(q:h.get? e=some (mL C d #[.ref x0,.none,.none,.none,.bool false,.none])):dU P w H h e (exO e C d):=
 ⟨⟨x0,q⟩,⟨_,q⟩,fun a b ⟨x,z⟩ k=>⟨x,k _ z⟩⟩
theorem Jx{Q:Unit->Shared->Prop}(I:Inv X pins σ H s)(e:H a=some (exO a C none))(S:StX X.K C f)(F:RelV y u)
  (h:∀s' dd,H dd=none->Inv X pins σ (upd (upd H dd (xdO dd [(f,y)])) a (exO a C (some dd))) s'->Q () s'):wpAny (model X.prog X.w) A (setAttr (.ref a) f u) Q E s:=by
 obtain⟨⟨K,j⟩,_⟩:=I.hok a _ e;refine Du I.kIn S j fun G i t B=>h _ s.heap.objs.size (I.hok.fresh (az _)) ?_;obtain⟨c,p,n,m,r⟩:=id t;have J:H s.heap.objs.size=none:=I.hok.fresh (az _);have z:s.heap.objs.size≠a:=eP (aw j);have d:(s.heap.push c).get? s.heap.objs.size=some c:=ay _ (Obj.isFreed_of_dict r.1);have D:(s.heap.push c).Ns1 s.heap.objs.size (fun y=>if y=f then some u else none):=⟨c,p,n,d,r⟩;have k:Inv X pins σ (upd H s.heap.objs.size (xdO s.heap.objs.size [(f,y)])) {s with heap:=s.heap.push c,toks:=s.toks}:=by
  refine I.laid (t':=s.toks) (fun b o q=>ag _ q) (az _) (xd_ok _ D (fun g=>?_) fun g w=>?_)
  ·by_cases q:g=f;·subst q;simp[cU];exact F
   ·have :(g==f)=false:=by simpa using q
    simp[cU,this,q];exact True.intro
  ·by_cases q:g=f;·simp[q]
   ·exact absurd (if_neg q) w
 have l:upd H s.heap.objs.size (xdO s.heap.objs.size [(f,y)]) a=some (exO a C none):=by rw[aS (bA z)];exact e
 refine k.write (x:=a) (e:=a) (t':=s.toks+2) (by rw[l];exact True.intro) (.inl rfl) (fun b o v q=>?_) ⟨_,i⟩ (ex_ok _ i);by_cases hbs:b=s.heap.objs.size;·subst hbs;have q:(s.heap.push c).get? s.heap.objs.size=some o:=q;rw[d]at q;cases q;exact m
 ·refine B b o v ?_;have q:(s.heap.push c).get? b=some o:=q;rw[Heap.get?_push_ne _ _ _ hbs]at q;exact q
theorem Jw{dd:Addr}{fs:List (Str×V)}{Q:Unit->Shared->Prop}(I:Inv X pins σ H s)(e:H a=some (exO a C (some dd)))(c:H dd=some (xdO dd fs))(B:fs.length<1000)(S:StX X.K C f)(v:RelV y u)
  (h:∀s',Inv X pins σ (upd H dd (xdO dd (pk f y fs))) s'->Q () s'):wpAny (model X.prog X.w) A (setAttr (.ref a) f u) Q E s:=by
 obtain⟨⟨D,n⟩,_⟩:=I.hok a _ e;obtain⟨⟨d,t,r,j⟩,_⟩:=I.hok dd _ c;refine GU I.kIn S n t j (by rw[ai,uD];lia) fun k i w=>h _ ?_;have m:∃o,k.get? dd=some o:=let⟨o,_,_,e',_⟩:=i;⟨o,e'⟩;refine I.write (x:=dd) (e:=dd) (t':=s.toks+2) (by rw[c];exact True.intro) (.inl rfl) (fun b o l q=>(w.2 b l).trans q) m (xd_ok _ i (fun g=>?_) fun g p=>?_)
 ·show tf ((pk f y fs).lookup g) (if g=f then some u else d g);rw[tQ];by_cases q:g=f;·rw[if_pos q,if_pos q];exact v
  ·rw[if_neg q,if_neg q];exact r g
 ·by_cases q:g=f;·rw[q];exact(sN f y fs).1
  ·refine(sN f y fs).2 g (j g fun z=>p ?_);show(if g=f then some u else d g)=none;rw[if_neg q];exact z
end
def sFldX(K:ah)(ta tv:TE)(f:Str):TS:=fun D σ H=>tv σ H fun y H1=>ta σ H1 fun x H2=>∃a C,x=.ref a/\StX K C f/\
 ((H2 a=some (exO a C none)/\∀dd,H2 dd=none->D.nx σ (upd (upd H2 dd (xdO dd [(f,y)])) a (exO a C (some dd))))\/
  ∃dd fs,H2 a=some (exO a C (some dd))/\H2 dd=some (xdO dd fs)/\fs.length<1000/\D.nx σ (upd H2 dd (xdO dd (pk f y fs))))
section
variable {X:Cx}{o value:Expr}{f:Str}{pos pos':Pos}{ta tv:TE}
theorem ps_fldX(r:PE X o ta)(z:PE X value tv)(w:qz value (some (.Attribute o f pos')) pos.line X.env=pure false):PS X (.Assign [.Attribute o f pos'] value pos) (sFldX X.K ta tv f):=by
 intro i s b H D I h;refine plainObj_wpAny_Assign_Attribute (thn (z i s b H _ I h) fun u F ⟨y,l,m,j,q⟩=>thn (r i F b l _ m q) fun A K ⟨x,J,d,E,a,C,p,S,B⟩=>?_) w;subst p;obtain rfl:A=bB a:=E;rcases B with⟨e,k⟩ |⟨g,fs,e,n,v,k⟩;·exact Jx d e S j fun G g t c=>⟨b,_,c,k g t⟩
 ·exact Jw d e n v S j fun G c=>⟨b,_,c,k⟩
end
structure BsX(K:ah)(B:Addr):Prop where
 ga:specialIn K (.ref B) "__getattribute__"=some (some (.builtin "type.__getattribute__"))
 rd:readsIn K B (.type "type")=true
 fd:findCls K (.ref B) (.type "type") "__init__"=some (.val (.builtin "ValueError.__init__"))
def tBase(K:ah)(B:Addr)(t:TA):TE:=fun σ H Q=>BsX K B/\t σ H fun vs H1=>∃a C f us,vs=.ref a::us/\H1 a=some (exO a C none)/\us.length<=sizeLine/\sR K C f bmV "ValueError.__new__"=true/\Q .non H1
section
variable {X:Cx}{x:Str}{B:Addr}{e:Expr}{es:List Expr}{t:TA}{np apos pos:Pos}
theorem JO{Q:VK}(I:Inv X pins σ H s)(e:H a=some (exO a C none))(m:us.length<=sizeLine)(p:sR X.K C f bmV "ValueError.__new__"=true)(q:Q .non H):
  wpAny (model X.prog X.w) X.A (call (.builtin "ValueError.__init__") (.ref a::us)) (EP X pins σ Q) X.xe s:=by
 obtain⟨⟨S,l⟩,_⟩:=I.hok a _ e;obtain⟨O,P,N,bs,v,B,R,sub,u,w,y,F,G,J,K,L,M,j,A,hi,T⟩:=wu (bmB:=bmV) I.kIn p;obtain⟨D,h,dr,tk,t⟩:=s;refine Ie xP T j l m fun i r ⟨b,g⟩ E=>?_;have n:upd H a (exO a C none)=H:=by
  funext c
  by_cases z:c=a;·rw[z,au,e]
  ·rw[aS z]
 have d:Inv X pins σ (upd H a (exO a C none)) ⟨i,h,dr,tk,t⟩:=I.write (x:=a) (e:=a) (t':=tk) (by rw[e];exact True.intro) (.inl rfl) (fun b o k q=>r b o k q) ⟨_,g⟩ (ex_ok _ g);rw[n]at d;exact⟨.non,H,d,rfl,q⟩
theorem KD{env:Env}{name:Str}{a:List Expr}{Q:Value->Shared->Prop}
  (g:xi o name env (eval o env)=eval o env)
  (i:((backTo pos (bz a env)).all (fun x=> !x.1)&&(AA pos (oZ [] env)).all (fun x=>x.1.isSome)
   &&decide (a.length+([]:List Keyword).length+(if([]:List Keyword).isEmpty then 0 else 1)<30))=true)
  (k:(apos.endLine==pos.line)=true)
  (h:wpAny (model prog w) A (eval o env) (fun c d=>∀pl,wpAny (model prog w) A (getMethod c name pl) (fun b f=>wpAny (model prog w) A (callWith pos b.1 b.2 (backTo pos (bz a env)) (AA pos (oZ [] env))) Q E f) E d) E s):
  wpAny (model prog w) A (eval (.Call (.Attribute o name apos) a [] pos) env) Q E s:=by
 rw[arm_eval_Call,g];refine af (cX h (fun c d m=>?_) fun _ _ e=>e);refine af (pq ?_);have j:methodCallForm (a.length+([]:List Keyword).length) (backTo pos (bz a env)) (AA pos (oZ [] env))=true:=i;have l:methodCallPos true o env apos pos=pure pos:=by unfold methodCallPos;simp[k]
 unfold methodCall;rw[j];refine af (bQ (cX (m _) (fun b f n=>?_) fun _ _ e=>e));exact af (oX l n)
theorem pe_base(m:Gl X x)(p:X.mg x=some (.ref B))(j:PA X (e::es) t)(k:(x==("__debug__":Str))=false)(u:bz (e::es) X.env=(false,eval e X.env)::bz es X.env)(r:(backTo pos (bz es X.env)).any (·.1)=false)
  (l:((backTo pos (bz (e::es) X.env)).all (fun x=> !x.1)&&(AA pos (oZ [] X.env)).all (fun x=>x.1.isSome)
   &&decide ((e::es).length+([]:List Keyword).length+(if([]:List Keyword).isEmpty then 0 else 1)<30))=true)
  (o:(apos.endLine==pos.line)=true):
  PE X (.Call (.Attribute (.Name x np) "__init__" apos) (e::es) [] pos) (tBase X.K B t):=by
 intro w s y H Q I h;obtain⟨b,h⟩:=h;refine KD rfl l o (oO I m p (fun D=>?_) k);refine PySem.W.method_cls I.kIn b.ga (PySem.W.cls_value I.kIn b.rd b.fd (by decide+kernel) ?_);refine i3 (thn (j pos w _ y H _ (I.tok (s.toks+1)) h) fun F E z=>?_) u r;obtain⟨G,A,d,c,a,C,f,J,g,i,n,v,q⟩:=z;subst g;cases c with
 |cons r0 c=>cases r0;exact JO d i (by rw[<-c.length];exact n) v q
end
noncomputable def del(H:Hp)(a:Addr):Hp:=fun b=>if b=a then none else H b
theorem lL:del H a a=none:=if_pos rfl
theorem jD(h:b≠a):del H a b=H b:=if_neg h
section
variable {M:Model}{A:Around}{E:Value->Shared->Prop}{env:Env}{nm q:Str}{C N:Addr}{bs bm:List Value}{hdct:Bool}{sn:List Str}{sub:List Value}{ab:Bool}{col:Option Bool}{dd:Option Addr}{k0 k1 k2 k3 k5:Option Value}{newId:String}
theorem Dy{x:Sem Value}{Q:Flow->Shared->Prop}(f:bm.contains (.type "BaseException")=true)(k:A.handled=none)
  (h:wpAny M A x (fun v a=>∃e t dx,v=.ref e/\a.heap.get? C=some (o5 nm q C N bs bm hdct sn sub ab col dd k0 k1 k2 k3 k5 newId)/\
   a.heap.get? e=some (mL C dx #[.ref t,.none,.none,.none,.bool false,.none])/\E (.ref e) a) E s):
  wpAny M A (raiseStmt env (some x) none) Q E s:=by
 have i:(bB C::bm).contains (.type "BaseException")=true:=by rw[List.contains_cons,f,pb]
 unfold raiseStmt;refine af (cX h (fun v a l=>?_) fun _ _ x=>x);obtain⟨e,t,dx,rfl,b,j,c⟩:=l;obtain⟨hp,g,d,tk,m⟩:=a;repeat(first |with_reducible refine jP j ?_ |with_reducible refine jP b ?_ | (with_reducible refine wpAny_isSubtype_exc b ?_;rw[i]) |wp_step)
 exact wpAny_raiseNew_none k c
end
section
variable {X:Cx}{pins:List (Addr×Obj)}{σ:St}{H:Hp}{s:Shared}
theorem Inv.del{g:Heap->Prop}(I:Inv X pins σ H s)(e:H a=some (.ext g)):Inv X pins σ (L2.del H a) s:=by
 have ne:∀{b:Addr}{o:HO},H b=some o->(∀j,o≠.ext j)->b≠a:=fun{b o} q n z=>by rw[z,e]at q;exact n g (bj q).symm
 refine⟨I.ok,I.os,I.bare,⟨I.base.keep,I.base.slot,fun b o q n d=>?_,I.base.there,fun b f q=>?_,fun b o u q=>?_,fun b h q=>?_⟩,I.loc,I.cell,?_,fun x c q=>?_,fun p q=>?_,fun b u q=>?_,I.len⟩
 ·by_cases z:b=a;·rw[z];exact lL
  ·rw[jD z];exact I.base.free b o q n d
 ·have r:=I.base.tups b f q;rw[jD (ne r fun _ z=>by cases z)];exact r
 ·have r:=I.base.frzs b o u q;rw[jD (ne r fun _ z=>by cases z)];exact r
 ·obtain⟨more,r⟩:=I.base.tbls b h q;exact⟨more,by rw[jD (ne r fun _ z=>by cases z)];exact r⟩
 ·by_cases z:X.env.locals=a;·rw[z];exact lL
  ·rw[jD z];exact I.free
 ·by_cases z:c=a;·rw[z];exact lL
  ·rw[jD z];exact I.freeC x c q
 ·obtain⟨i,n,r⟩:=I.pin p q;refine⟨i,?_,r⟩;by_cases z:p.1=a;·rw[z];exact lL
  ·rw[jD z];exact n
 ·by_cases d:b=a;·rw[d,lL]at q;cases q
  ·rw[jD d]at q;exact(I.hok b u q).lE (fun _ _ _ r=>r) (fun c r=>by rw[jD (ne r fun _ z=>by cases z)];exact r) fun c f r=>by rw[jD (ne r fun _ z=>by cases z)];exact r
structure NewX(X:Cx)(pins:List (Addr×Obj))(H:Hp)(s:Shared)(a C:Addr)(d:Option Addr):Prop where
 at_:∃x0,s.heap.get? a=some (mL C d #[.ref x0,.none,.none,.none,.bool false,.none])
 new:X.s₀.heap.get? a=none
 un:H a=none
 pins:∀p∈X.pn++pins,p.1≠a
theorem yg{M:Model}{Q:Unit->Shared->Prop}(I:Inv X pins σ H s)(c:X.stack=X.env::X.outer)(hf:X.env.frame=some X.env.locals)(n:NewX X pins H s a C d)
  (h:∀s2,Inv X pins σ H s2->Fly X.s₀.heap s2.heap H (X.pn++pins) a (.ref C) d->Q () s2):
  wpAny M X.A (mW (.ref a) X.env) (fun _ s'=>wpAny M X.A (CC (.ref a) none) Q E s') E s:=by
 obtain⟨e,b⟩:=n.at_;unfold mW;simp only[hf];refine af (gC (x:=.none) b rfl (by rfl) ?_);rw[if_neg (show ¬(bK != bK)=true by simp)];exact enter I c hf b rfl (by simp) n.new n.un n.pins h
def Eu(X:Cx)(E:XS):Prop:=∀(pins:List (Addr×Obj))(σ:St)(H:Hp)(s:Shared)(a C:Addr)(d:Option Addr),Inv X pins σ H s->NewX X pins H s a C d->E σ (.ref C) d H->X.xe (.ref a) s
theorem En{cd:Value}{outer:List Env}{E:XK}:
  Eu (Ai (CXx P w) P w K mg base N qual scope f cd A outer s H E) (fun _=>E):=by
 intro F L e G a C d I n q;show wpAny _ _ (leaving _ _) _ _ _;unfold leaving;refine af (yg I rfl rfl n fun J b c=>?_);obtain⟨⟨T,y,D,x,B,i,l,m,o,p,r,t,u,v,j,k,_⟩,g,h,_⟩:=c;exact⟨a,.ref C,d,e,rfl,b.os,b.bare,b.base,b.hok,⟨⟨T,y,D,x,B,i,l,m,o,p,r,t,u,v,j,k,fun _ z=>nomatch z⟩,g,h,fun _ z=>nomatch z⟩,q⟩
theorem GF{n:Str}{b:Stmt}{c:List Stmt}{e:Pos}{g:TS}{D:Ends}(O:Cz X x n C i (b::c) g){f:Addr}(ok:X.Ok)
  (I:Inv (X.re X.A X.calm (X.pn++pins) (j8 X pins D [.ExceptHandler (some (.Name x np)) (some n) (b::c) e])) pins' σ H s)(m:NewX (X.re X.A X.calm (X.pn++pins) (j8 X pins D [.ExceptHandler (some (.Name x np)) (some n) (b::c) e])) pins' H s a f d)(h:qp X.K C i g D σ (.ref f) d H):
  j8 X pins D [.ExceptHandler (some (.Name x np)) (some n) (b::c) e] (.ref a) s:=by
 have J:Inv X pins σ H s:=I.IW ok fun p z=>cJ _ z;exact yg J O.stk O.fr ⟨m.at_,m.new,m.un,fun p hp=>m.pins p (cJ _ hp)⟩ fun l k j=>sW O k j h
def JB(C:Addr)(sp:Sp)(dvs:List V)(E:XS)(t:TA):TS:=fun _ σ H=>t σ H fun vs H1=>vs.length<=sizeLine/\∀a,H1 a=none->
 sp (.ref a::(vs++dvs)) (upd H1 a (exO a C none)) (fun v H2=>v=.non/\∃d,H2 a=some (exO a C d)/\E σ (.ref C) d (del H2 a)) (E σ)
theorem G8{CX:CXT}{A:fh}{sp:Sp}{E:XS}{i:List Expr}{t:TA}{m:Pos}(Mk:MkX X.K C f)(F:ju X.prog X.w X.K X.mg X.base CX k f A ps sp)(hr:jf (k+1) X.A)(Y:Binds X.K A ps ds)(hd:bM dvs ds)
  (hx:yS CX X E)(hg:Gl X x)(hm:X.mg x=some (.ref C))(U:PA X (e::i) t)(hc:X.calm=true)(a0:(x==("__debug__":Str))=false)
  (a3:bz (e::i) X.env=(false,eval e X.env)::bz i X.env)(a2:(backTo m (bz i X.env)).any (·.1)=false)(a4:Eu X E):
  PS X (.Raise (some (.Call (.Name x np) (e::i) [] m)) none pos) (JB C sp dvs E t):=by
 intro w s g H D I h;obtain⟨nm,J,N,bs,bm,B,sn,sub,ab,col,dd,k0,k1,k2,k3,k5,mN,R,hN,hi,T⟩:=wu (bmB:=bmV) I.mod.kin Mk.ex;have Z:bm.contains (.type "BaseException")=true:=T.hasType (by decide+kernel);rw[arm_exec_Raise];show wpAny _ _ (do standAt pos;raiseStmt X.env (some (do let v<-eval (.Call (.Name x np) (e::i) [] m) X.env;standAt pos;pure v)) none) _ _ s;refine af (pq (Dy (C:=C) (nm:=nm) (q:=J) (N:=N) (bs:=bs) (bm:=bm) (hdct:=B) (sn:=sn) (sub:=sub) (ab:=ab) (col:=col) (dd:=dd) (k0:=k0) (k1:=k1) (k2:=k2) (k3:=k3) (k5:=k5) (newId:="ValueError.__new__") Z (I.ok.hd hc) (af (cX (Q:=fun v c=>∃a a9 O,v=.ref a/\c.heap.get? C=some (o5 nm J C N bs bm B sn sub ab col dd k0 k1 k2 k3 k5 "ValueError.__new__")/\c.heap.get? a=some (mL C O #[.ref a9,.none,.none,.none,.bool false,.none])/\X.xe (.ref a) c) (E:=X.xe) ?_ (fun v c z=>af (pq (aj z))) fun _ _ z=>z))));refine gF (oO I hg hm ?_ a0);refine IA (h₀:=X.base) I.ok.mod.kin Mk.kp (thn (U m w s g H _ I h) fun us c ⟨vs,H1,l,a6,a1,q⟩=>⟨l.kIn,?_⟩) a3 a2;refine cX (G5 (E:=E g) (Q:=fun v b=>∃a d,c.heap.objs.size<=a/\v=.ref a/\b a=some (exO a C d)/\E g (.ref C) d (del b a)) Mk F hr Y hd (fun L s' e a8 M z=>hx w g L s' e a8 M z) l a6 a1 (fun a n W=>?_)) (fun v s2 z=>?_) fun _ _ z=>z
 ·have e:(fun(v:V)(b:Hp)=>v=.non/\∃d,b a=some (exO a C d)/\E g (.ref C) d (del b a))=fun v b=>v=.non/\∃j d,c.heap.objs.size<=j/\V.ref a=V.ref j/\b j=some (exO j C d)/\E g (.ref C) d (del b j):=by
   funext v b
   apply propext
   constructor;·rintro⟨p,d,r,u⟩;exact⟨p,a,d,n,rfl,r,u⟩
   ·rintro⟨p,b0,d,_,P,r,u⟩;cases P;exact⟨p,d,r,u⟩
  rw[<-e];exact q a W
 ·obtain⟨w',b,o,a7,a,d,n,rfl,y,S⟩:=z;cases a7;obtain⟨⟨K,G⟩,_⟩:=o.hok a _ y;refine⟨a,K,d,rfl,o.bk _ _ R,G,a4 w g (del b a) s2 a C d (o.del y) ⟨⟨K,G⟩,qF (aP l.sz n),lL,fun a5 hp=>?_⟩ S⟩;exact aK (aT (aw (l.pin a5 hp).1) n)
end
noncomputable def nJ(K:ah)(C:Addr)(f:Str):Bool:=
 lK K C&&findIn K (.ref C) f==some none&&(match clsIn K C with |some cd=>cd.hasDict|none=>false)
theorem D7{v:V}(r:RelV v u):handedIn u=true:=by
 cases v with
 |non=>cases r;rfl
 |bl b=>cases r;rfl
 |int i=>obtain⟨t,rfl⟩:=r;rfl
 |str x=>obtain⟨t,rfl⟩:=r;rfl
 |byt b=>obtain⟨t,rfl⟩:=r;rfl
 |flt b=>obtain⟨t,rfl⟩:=r;rfl
 |ref a=>cases r;rfl
 |ty n=>cases r;rfl
theorem KL{d:Addr}{m:Str->Option Value}{f:Str}(N:h.Ns1 d m)(e:m f=some u):∃o,h.get? d=some o/\lookIn f o=some (some u):=by
 obtain⟨o,a,g,c,b,_,_,hf⟩:=N;refine⟨o,c,?_⟩;have q:=(hf f).trans e;unfold nsFind findBy at q;rw[<-tF]at q;unfold lookIn;rw[b];dsimp only;cases hz:a.toList.find? (·.key.isStr f)with
 |none=>rw[hz]at q;cases q
 |some en=>rw[hz]at q;simpa using q
theorem B4{f:Str}{o:Obj}(F:nJ K C f=true)(e:lookIn f o=some (some u)):uY K C (some o) f=some (.value u):=by
 unfold nJ at F;rw[aE,aE,beq_iff_eq]at F;obtain⟨⟨_,b⟩,a⟩:=F;cases hc:clsIn K C with
 |none=>rw[hc]at a;cases a
 |some cd=>
  rw[hc]at a;unfold uY;rw[hc,fG,b,fG];have c:PySem.W.ownOf cd (some o) f=some (some u):=by unfold PySem.W.ownOf;rw[if_pos a];exact e
  simp[c]
section
variable {prog:Program}{w:World}{A:Around}{E:Value->Shared->Prop}{s:Shared}{K:ah}{a C:Addr}{o:Obj}{od:Option Obj}{f:Str}{u:Value}
theorem LR{tk:Tok}{R:Result->Shared->Prop}(b:K.In s.heap)(J:InstAt s.heap a o C od)(F:wV K C)(hf:uY K C od f=some (.value u))(h:R (.ok (.ret u)) s):
  gH (model prog w) A (.call (.builtin "BaseException.__getattribute__") ⟨[.ref a,.str f tk],[]⟩) R s:=by
 obtain⟨i,g,d,t,j⟩:=s;have c:=J.type (M:=model prog w);have e:=looks_find (M:=model prog w) b J hf;refine iK gh.ga.plain C3 (wR b J F ?_);unfold Builtin.«object.__getattribute__»;repeat(first |with_reducible refine iI ?_ |lk|wp_step)
 exact h
theorem exc_fld{b:Bool}{Q:Value->Shared->Prop}(c:K.In s.heap)(J:InstAt s.heap a o C od)(F:wV K C)(hf:uY K C od f=some (.value u))(l:handedIn u=true)(h:Q u {s with toks:=s.toks+1}):
  wpAny (model prog w) A (getAttr (.ref a) f b) Q E s:=by
 obtain⟨k,g,d,t,m⟩:=s;have e:=J.type (M:=model prog w);have i:=r9 (M:=model prog w) c F.ga;have j:=r9 (M:=model prog w) c F.hook;unfold getAttr getAttrBy;refine af (wpAny_mkText (bQ (af (e.at (af (i.at ?_))))));show wpAny _ _ (if(CD (.ref C)&&(iO "BaseException.__getattribute__"==iO "object.__getattribute__"))=true then _ else _) _ _ _;rw[ga_ne,fP,if_neg ao];unfold getAttrByItsOwn hookBefore;rw[if_pos (show CD (.ref C)=true from rfl)];refine af (j.at ?_);unfold callGetattribute boundAndCalled;rw[show CD (iO "BaseException.__getattribute__")=false from rfl,fP,if_neg ao];refine af (gT (bQ (af ?_)));rw[gh.ga.bind (.ref a)];refine aj (iI (LR (s:=⟨k,g,d,t+1,m⟩) c J F hf ?_));show wpAny _ _ (handedOut u) _ _ _;rw[handedOut_of l];exact aj h
end
def rFld(K:ah)(f:Str):V->Hp->VK->Prop:=fun x H Q=>∃a C dd fs v,x=.ref a/\H a=some (kR a (.ref C) (some dd))/\H dd=some (xdO dd fs)/\nJ K C f=true/\fs.lookup f=some v/\Q v H
section
variable {X:Cx}{pins:List (Addr×Obj)}{σ:St}{H:Hp}{s:Shared}
theorem get_fld{x:V}{f:Str}{b:Bool}{Q:VK}(I:Inv X pins σ H s)(r:RelV x u)(h:rFld X.K f x H Q):wpAny (model X.prog X.w) X.A (getAttr u f b) (EP X pins σ Q) X.xe s:=by
 obtain⟨a,C,e,fs,v,rfl,l,m,F,p,q⟩:=h;obtain rfl:u=.ref a:=r;obtain⟨⟨o,g,i,j,k⟩,_⟩:=I.hok a _ l;obtain⟨⟨w,N,z,_⟩,_⟩:=I.hok e _ m;have c:=z f;rw[p]at c;cases hm:w f with
 |none=>rw[hm]at c;exact c.elim
 |some y=>
  rw[hm]at c;obtain⟨od,t,n⟩:=KL N hm;have d:lK X.K C=true:=by unfold nJ at F;rw[aE,aE]at F;exact F.1.1
  exact exc_fld I.kIn (od:=some od) ⟨g,i,k,by rw[j];exact t⟩ (B5 d) (B4 F n) (D7 c) ⟨v,H,I.tok _,c,q⟩
theorem E9{n f:Str}{t:TE}(b:PE X (.Name n np) t):PE X (.Attribute (.Name n np) f pos) (fun σ H Q=>t σ H fun x H1=>rFld X.K f x H1 Q):=by intro c s σ H Q I h;refine Attribute_name (thn (b c s σ H _ I h) fun u d ⟨x,H1,a,r,q⟩=>?_);exact get_fld a r q
theorem rF:fF X (.builtin "isinstance") (fun xs H Q=>∃a C d y cv b,xs=[.ref a,y]/\H a=some (kR a (.ref C) d)/\(∀dd,d=some dd->∃fs,H dd=some (xdO dd fs))/\lK X.K C=true/\((∃T,y=.ty T/\cv=gR T)\/(∃D,y=.ref D/\cv=bB D))/\kitOne X.K (.ref C) cv=some b/\Q (.bl b) H):=by
 intro o s r H xs p Q I n h;obtain⟨a,C,d,y,cv,b,rfl,g,j,ok,l,e,q⟩:=h;obtain⟨u,c,rfl,m,f⟩:=n.two;obtain rfl:u=bB a:=m;have i:c=cv:=by
  rcases l with⟨T,rfl,rfl⟩ |⟨D,rfl,rfl⟩;·cases f;rfl
  ·cases f;rfl
 subst i;exact kia_one (KU (B5 ok)) I.kIn (Eb I.hok g fun dd z=>by obtain⟨fs,k⟩:=j dd z;exact⟨_,k⟩) e (fun z=>nomatch z) fun tk=>⟨.bl b,H,I.tok tk,rfl,q⟩
end
def tRepl(ta tb:TE)(i:Nat)(c d:Str)(tr:TA):TA:=fun σ H Q=>ta σ H fun x H1=>tb σ H1 fun y H2=>∃u v z:Str,x=.str u/\y=.str v/\(1<=u.length/\1<=v.length/\u.length+v.length<=sizeLine/\z.length<=1000)/\σ[i]? =some (some (.str z))/\
 tr σ H2 fun xs a=>Q (.str (u++v)::.str (Txt.replace z c d)::xs) a
section
variable {X:Cx}{a b:Expr}{es:List Expr}{ta tb:TE}{tr:TA}{i:Nat}{x c d:Str}{p1 np apos cpos p2 p3:Pos}{j1 j2:Nat}
def tMkf(K:ah)(C:Addr)(sp:Sp)(dvs:List V)(E:XS)(c:Str)(t:TA):TE:=fun σ H Q=>t σ H fun vs H1=>vs.length<=sizeLine/\∀a,H1 a=none->
 sp (.ref a::(vs++dvs)) (upd H1 a (exO a C none)) (fun v H2=>v=.non/\∃b dd fs w,V.ref a=.ref b/\H2 b=some (exO b C (some dd))/\H2 dd=some (xdO dd fs)/\nJ K C c=true/\fs.lookup c=some w/\Q w H2) (E σ)
end
def rSlW(K:ah):V->Option Int->Option Int->Hp->VK->Prop:=fun x lo hi H Q=>∃a xs,x=.ref a/\SqT K H a xs/\HT.sIx xs.length 0 lo=0/\HT.sIx xs.length xs.length hi=xs.length/\Q (.ref a) H
def tMakeS(C:Addr)(sp:Sp)(dvs:List V)(E:XS)(t:TA):TE:=fun σ H Q=>tMake C sp dvs (E σ) t σ H Q
def tMethS(C:Addr)(m:Str)(sp:Sp)(dvs:List V)(E:XS)(ta:TE)(t:TA):TE:=fun σ H Q=>tMeth C m sp dvs (E σ) ta t σ H Q
end L2
namespace L2
open PySem PySem.Spec PyProof.Rows
section
variable {X:Cx}{pins:List (Addr×Obj)}{σ:St}{H N:Hp}{s:Shared}{h':Heap}
def tLZip(K:ah)(t:TA):TE:=fun σ H Q=>t σ H fun vs H1=>∃a b xs ys,vs=[.ref a,.ref b]/\SqL K H1 a xs/\SqL K H1 b ys/\xs.length<=1000/\∀H' p ws,aQ H1 H'->H1 p=none->H' p=some (.lst ws)->ws.length=min xs.length ys.length->
 (∀(j:Nat)(x y:V),xs[j]? =some x->ys[j]? =some y->∃q,ws[j]? =some (.ref q)/\H1 q=none/\H' q=some (.tup [x,y]))->Q (.ref p) H'
end
end L2
namespace Q
open PySem
def td(xs:Array Nat):Prop:=xs.toList.Pairwise (·<·)
structure Parts(xs:Array Nat)(j p:Nat):Prop where
 le:p<=xs.size
 lo:∀i x,i<p->xs[i]? =some x->x<j
 hi:∀i x,p<=i->xs[i]? =some x->j<=x
theorem uN{xs:Array Nat}(h:td xs){x y:Nat}(e:i<k)(f:xs[i]? =some x)(j:xs[k]? =some y):x<y:=by
 have g:xs.toList[i]? =some x:=by simpa using f
 have l:xs.toList[k]? =some y:=by simpa using j
 obtain⟨c,a⟩:=aC.mp g;obtain⟨d,b⟩:=aC.mp l;have :=cY.mp h i k c d e;rw[a,b]at this;exact this
theorem wj{xs:Array Nat}(h:td xs)(j:Nat):∀(fuel lo hi:Nat),hi-lo<=fuel->lo<=hi->hi<=xs.size->(∀i x,i<lo->xs[i]? =some x->x<j)->(∀i x,hi<=i->xs[i]? =some x->j<=x)->Parts xs j (AE xs j fuel lo hi)
 | 0,lo,hi,hf,hl,hs,a,b=>by
  have e:lo=hi:=by lia
  subst e;exact⟨hs,a,b⟩
 |fuel+1,lo,hi,hf,hl,hs,a,b=>by
  unfold AE;by_cases c:lo<hi
  ·rw[if_pos c];have g:(lo+hi)/2<xs.size:=by lia
   have f:xs[(lo+hi)/2]? =some xs[(lo+hi)/2]:=by simp[g]
   have l:xs.getD ((lo+hi)/2) j=xs[(lo+hi)/2]:=by simp[Mj,g]
   simp only[l];by_cases d:xs[(lo+hi)/2]<j
   ·rw[if_pos d];refine wj h j fuel _ hi (by lia) (by lia) hs (fun i x m e=>?_) b;by_cases k:i=(lo+hi)/2;·subst k;rw[f]at e;cases e;exact d
    ·exact gf (uN h (by lia) e f) d
   ·rw[if_neg d];refine wj h j fuel lo _ (by lia) (by lia) (by lia) a fun i x m e=>?_;by_cases k:i=(lo+hi)/2;·subst k;rw[f]at e;cases e;lia
    ·have :=uN h (by lia:(lo+hi)/2<i) f e;lia
  ·rw[if_neg c];have e:lo=hi:=by lia
   subst e;exact⟨hs,a,b⟩
theorem kY{xs:Array Nat}(h:td xs)(j:Nat):Parts xs j (cq xs j):=
 wj h j xs.size 0 xs.size (by lia) (aZ _) (az _) (fun i x hi _=>absurd hi (dm _)) fun i x hi e=>by have :=(cA.mp e).1;lia
theorem BU{a:Type}(xs:Array a)(p:Nat)(x:a):(sk xs p x).toList=xs.toList.take p++x::xs.toList.drop p:=by unfold sk;simp;exact eK (by simp)
theorem Ba{xs:Array Nat}(h:td xs)(d:∀i:Nat,xs[i]? ≠some j):td (sk xs (cq xs j) j):=by
 have P:=kY h j;unfold td;rw[BU];have sub:=h;unfold td at sub;rw[List.pairwise_append];refine⟨sub.sublist (u5 _ _),List.pairwise_cons.mpr ⟨fun y hy=>?_,sub.sublist (List.drop_sublist _ _)⟩,fun x f y hy=>?_⟩
 ·obtain⟨i,hi⟩:=bX.mp hy;rw[fZ]at hi;have e:xs[cq xs j+i]? =some y:=by simpa using hi
  have :=P.hi _ _ (xR _ _) e;have ne:y≠j:=fun z=>d _ (z▸e);lia
 ·obtain⟨i,hi⟩:=bX.mp f;have a:i<cq xs j:=by have :=(aC.mp hi).1;rw[dw]at this;lia
  rw[C4 a]at hi;have e:xs[i]? =some x:=by simpa using hi
  have g:=P.lo _ _ a e;rcases aH.mp hy with rfl|hy;·exact g
  ·obtain⟨k,b⟩:=bX.mp hy;rw[fZ]at b;have c:xs[cq xs j+k]? =some y:=by simpa using b
   have :=P.hi _ _ (xR _ _) c;lia
theorem Ep{xs:Array Nat}(h:td xs){x:Nat}(e:xs[i]? =some x):cq xs (x+1)=i+1:=by
 have P:=kY h (x+1);have hi:=(cA.mp e).1;apply AJ
 ·apply fT
  intro c;have f:i+1<xs.size:=aT c P.le;have d:xs[i+1]? =some xs[i+1]:=by simp[f]
  have a:=P.lo _ _ c d;have b:=uN h (eh i) e d;lia
 ·apply fT
  intro c;have :=P.hi i x (by lia) e;lia
theorem Eo{xs:Array Nat}(h:td xs):cq xs 0=0:=by have P:=kY h 0;apply AJ _ (aZ _);apply fT;intro c;have a:0<xs.size:=aT c P.le;have :=P.lo 0 xs[0] c (by simp[a]);lia
theorem Ic{xs:Array Nat}(h:td xs){x:Nat}(e:xs[i]? =some x):cq xs x=i:=by
 have P:=kY h x;apply AJ
 ·apply fT
  intro c;exact dJ _ (P.lo i x c e)
 ·apply fT
  intro c;have f:cq xs x<xs.size:=gf c (cA.mp e).1;have d:xs[cq xs x]? =some xs[cq xs x]:=by simp[f]
  have a:=P.hi _ _ (az _) d;have b:=uN h c d e;lia
theorem Dw(n:Nat):td (Array.range n):=by unfold td;rw[Array.toList_range];exact Gk
structure kE(t:bC):Prop where
 up:td t.place
 no:t.dummies= #[]
theorem slot_no{t:bC}(T:kE t)(j:Nat):t.slot j≠.dummy:=by
 unfold bC.slot;simp only[T.no];split;·simp
 ·split;·rename_i h;exact absurd h (by simp[AM])
  ·simp
theorem GR{t:bC}(T:kE t)(h:t.slot j=.empty):∀i:Nat,t.place[i]? ≠some j:=fun i e=>by have :=Ic T.up e;unfold bC.slot at h;simp only[this,e,beq_self_eq_true,if_true]at h;cases h
theorem xN(t:bC)(p:bC.Probe):(t.advance p).dummy=p.dummy:=by unfold bC.advance;split <;>rfl
theorem vB{t:bC}(T:kE t){f:Nat->Int}{h:Int}{d:Option Nat}:∀(fuel:Nat)(p:bC.Probe),p.dummy=none->o7 t f h fuel p=some (.empty j d)->t.slot j=.empty/\d=none
 | 0,p,_,e=>by simp[o7]at e
 |fuel+1,p,hp,e=>by
  unfold o7 at e;cases hs:t.slot p.j with
  |empty=>rw[hs]at e;simp only[kz,bC.Met.empty.injEq]at e;exact⟨by rw[<-e.1];exact hs,by rw[<-e.2];exact hp⟩
  |dummy=>exact absurd hs (slot_no T _)
  |live i=>
   rw[hs]at e;simp only at e;split at e;·cases e
   ·exact vB T fuel _ (by rw[xN];exact hp) e
theorem xH{t:bC}(T:kE t){h:Int}{b:Bool}(e:t.freeSlot h=some (j,b)):(∀i:Nat,t.place[i]? ≠some j)/\b=false:=by
 unfold bC.freeSlot at e;split at e;·rename_i j' d hm;unfold bC.probe at hm;obtain⟨a,c⟩:=vB T _ _ (by rfl) hm;subst c;simp only[uZ,IH,kz,Prod.mk.injEq]at e;obtain⟨rfl,rfl⟩:=e;exact⟨GR T a,rfl⟩
 ·cases e
theorem jK(t:bC)(n:Nat):kE (t.standIn n):=⟨Dw n,rfl⟩
theorem JY{t:bC}(T:kE t)(a:∀i:Nat,t.place[i]? ≠some j):kE (t.put j).1:=by refine⟨Ba T.up a,?_⟩;show(if AM t.dummies j=true then _ else t.dummies)= #[];rw[T.no];simp[AM]
theorem vH{t:bC}(T:kE t)(n:Nat):kE (t.orStandIn n):=by
 unfold Gg;split;·exact T
 ·exact jK t n
theorem BP{t:bC}(T:kE t)(a:Array (Int×Value))(h:Int)(x:Value):kE (layNew t a h x).2.1/\(layNew t a h x).2.2.1=false:=by
 unfold layNew;split;·rename_i j b e;obtain⟨c,d⟩:=xH T e;subst d;exact⟨vH (JY T c) _,rfl⟩
 ·exact⟨jK t _,rfl⟩
theorem ym{mask finger moves:Nat}{plain:Bool}{f:Array Int}{t:bC}{g:Array Nat}(h:bC.laid mask finger moves led plain f=some (t,g)):kE t/\t.led=led/\t.plain=plain:=by
 unfold bC.laid at h;cases e:bC.layClean mask f with
 |none=>rw[e]at h;cases h
 |some owner=>
  rw[e]at h;have i:some (({mask,place:=(((aG (mask+1)).filterMap fun j=>(owner.getD j none).map (j,·)).map (·.1)).toArray,dummies:= #[],finger,led,moves,plain}:bC),(((aG (mask+1)).filterMap fun j=>(owner.getD j none).map (j,·)).map (·.2)).toArray)=some (t,g):=h;have k:=(Prod.mk.inj (bj i)).1;subst k;refine⟨⟨?_,rfl⟩,rfl,rfl⟩;show((((aG (mask+1)).filterMap fun j=>(owner.getD j none).map (j,·)).map (·.1)).toArray).toList.Pairwise (·<·);rw[Mf,cZ,List.pairwise_filterMap];refine Gk.imp fun{a b} l x c y d=>?_;cases ha:owner.getD a none with
  |none=>rw[ha]at c;cases c
  |some u=>
   cases hb:owner.getD b none with
   |none=>rw[hb]at d;cases d
   |some v=>rw[ha]at c;rw[hb]at d;cases c;cases d;exact l
theorem xB(t:bC)(a:Array (Int×Value))(b:Nat):kE (qA t a b).2.1:=by
 unfold qA;split
 ·rename_i t' order e;simp only;split;·unfold L9 at e;exact(ym e).1
  ·exact jK t _
 ·exact jK t _
theorem put_led(t:bC)(j:Nat):(t.put j).1.led=t.led:=rfl
theorem xG(t:bC)(n:Nat):(t.orStandIn n).led=t.led:=by unfold Gg;split <;>rfl
theorem DU(t:bC)(a:Array (Int×Value))(h:Int)(x:Value):(layNew t a h x).2.1.led=t.led:=by
 unfold layNew;split;·exact(xG _ _).trans (put_led _ _)
 ·rfl
theorem zv(t:bC)(a:Array (Int×Value))(b:Nat):(qA t a b).2.1.led=t.led:=by
 unfold qA;split
 ·rename_i t' order e;simp only;split;·unfold L9 at e;exact(ym e).2.1
  ·rfl
 ·rfl
section
variable {prog:Program}{w:World}{K:Type}[DecidableEq K]{knd:KeyKind prog w K}{A:Around}{E:Value->Shared->Prop}{s:Shared}
def rZ(knd:KeyKind prog w K)(h:Heap)(a:Addr)(S:K->Bool)(n:Nat)(led:Bool):Prop:=
 ∃o es ep t,h.get? a=some o/\o.ExactSet/\o.data=.set es ep t/\ElemsOf knd es.toList/\(∀k,S k=true↔∃e∈es.toList,knd.is k e.2=true)/\es.size<gd/\t.fits es.size=true/\es.size=n/\kE t/\t.led=led
theorem rZ.of{S:K->Bool}(x:rZ knd h a S n led):h.SetOf knd a S n:=by obtain⟨o,l,k,t,b,c,d,e,f,g,i,j,_⟩:=x;exact⟨o,l,k,t,b,c,d,e,f,g,i,j⟩
theorem vx{o:Obj}{t:bC}(l:h.get? a=some o)(i:o.ExactSet)(j:o.data=.set es ep t){t':bC}{b:K->Bool}(d:ElemsOf knd es'.toList)(f:∀k,b k=true↔∃e∈es'.toList,knd.is k e.2=true)(c:es'.size<gd)(hf:t'.fits es'.size=true)(m:kE t'):
  rZ knd (h.update a (Obj.putSet es' t')) a b es'.size t'.led:=by
 have g:=(SetOf_store (knd:=knd) l i j d f c hf).1;exact⟨_,es',ep+1,t',g,i,rfl,d,f,c,hf,rfl,m,rfl⟩
theorem Cy{g:Bool->Sem Unit}(G:∀(b:Bool)(C:Shared)(x:Unit->Shared->Prop),x () C->wpAny (model prog w) A (g b) x E C){o:Obj}{t:bC}(p:s.heap.get? a=some o)(u:o.ExactSet)(k:o.data=.set es ep t)
  {c:bC}{y:K->Bool}(m:ElemsOf knd es1.toList)(n:∀f,y f=true↔∃e∈es1.toList,knd.is f e.2=true)(d:es1.size<gd)(hf:c.fits es1.size=true)(H:kE c){I:Bool}{R:Option Bool->Shared->Prop}
  (h:∀h',di a s.heap h'->rZ knd h' a y es1.size c.led->R (some true) {s with heap:=h'}):
  wpAny (model prog w) A (do
    storeSet a es1 c
    if(!I&&c.tooFull)=true then do
      g (qA c es1 (fw es1.size)).2.2
      storeSet a (qA c es1 (fw es1.size)).1 (qA c es1 (fw es1.size)).2.1
      pure (some true)
     else pure (some true)) R E s:=by
 refine af (wpAny_storeSet_of p k ?_ (o4 d));have z:=(SetOf_store (knd:=knd) p u k m n d hf).1;have J:=vx (knd:=knd) p u k m n d hf H;have B:=bN s.heap a (Obj.putSet es1 c);split
 ·have hp:=relayAll_perm c es1 (fw es1.size);have r:=relayAll_fits c es1 (fw es1.size);have j:=xB c es1 (fw es1.size);have i:=zv c es1 (fw es1.size);generalize qA c es1 (fw es1.size)=Rl at hp r j i⊢;obtain⟨F,t3,L⟩:=Rl;dsimp only at hp r j i⊢;have v:F.size=es1.size:=by rw[<-cu,hp.length_eq,cu]
  refine af (G _ _ _ (af (wpAny_storeSet_of z rfl ?_ (o4 (by rw[v];exact d)))));have D:=vx (knd:=knd) z u rfl (m.perm hp) (fun f=>(n f).trans ⟨fun⟨e,l,q⟩=>⟨e,hp.mem_iff.mpr l,q⟩,fun⟨e,l,q⟩=>⟨e,hp.mem_iff.mp l,q⟩⟩) (by rw[v];exact d) r j;rw[v,i]at D;exact aj (h _ (B.trans (bN _ a _)) D)
 ·exact aj (h _ B J)
theorem DC{t:bC}(T:kE t):kE {t with plain:=false}:=⟨T.up,T.no⟩
theorem addX{S:K->Bool}{k:K}{x:Value}{Q:Bool->Shared->Prop}(F:knd.is k x=true)(H:x.scannable=true)(V:rZ knd s.heap a S n led)(O:n+1<gd)
  (h:∀h',di a s.heap h'->rZ knd h' a (fun c=>S c||decide (c=k)) (if S k then n else n+1) led->Q (!S k) {s with heap:=h'}):
  wpAny (model prog w) A (setAddHashed a x (knd.hash k)) Q E s:=by
 obtain⟨o,d,U,t,u,I,p,B,C,N,hf,G,P,z⟩:=V;have a0:d.size+1<gd:=by rw[G];exact O
 unfold setAddHashed setAddHashedIn;refine bQ (af (hW u p hf ?_));dsimp only;rw[byScan_of H N B];simp only[↓reduceIte];unfold setAddByScan;refine af ?_;refine af (iH (af (wpAny_setScan_of F u p hf B ?_)));cases hr:List.findIdx? (fun e=>knd.is k e.2) d.toList with
 |some j=>
  dsimp only;obtain⟨W,hp,_⟩:=List.findIdx?_eq_some_iff_getElem.mp hr;have l:S k=true:=(C k).mpr ⟨d.toList[j],bo W,hp⟩;refine aj (aj ?_);have :=h s.heap (di.refl a s.heap) ⟨o,d,U,t,u,I,p,B,fun c=>by rw[cf,decide_eq_true_eq,<-C c];exact⟨fun q=>q.elim id (fun e=>e▸l),.inl⟩,N,hf,by rw[l];exact G,P,z⟩
  rw[l]at this;exact this
 |none=>
  dsimp only;have l:S k=false:=by
   cases q:S k with
   |false=>rfl
   |true=>obtain⟨e,D,Y⟩:=(C k).mp q;have :=List.findIdx?_eq_none_iff.mp hr e D;rw[Y]at this;cases this
  have X:∀(b:Bool){y:Shared}{f:Unit->Shared->Prop},f () y->wpAny (model prog w) A (match b with |true=>rule "set.scan.the-table-gave-way" |false=>pure ()) f E y:=fun b y f q=>by cases b<;>first |exact aj q|exact iH q
  have hp:=layNew_perm t d (knd.hash k) x;have r:=layNew_fits t d (knd.hash k) x;have m:=(BP P d (knd.hash k) x).1;have i:=DU t d (knd.hash k) x;generalize layNew t d (knd.hash k) x=L at hp r m i⊢;obtain⟨g,t1,wd,Z⟩:=L;dsimp only at hp r m i⊢;rw[Array.toList_push]at hp;have l1:ElemsOf knd g.toList:=(B.push F H).perm hp;have D:∀c,(S c||decide (c=k))=true↔∃e∈g.toList,knd.is c e.2=true:=mem_push_iff F C hp;have R:g.size=n+1:=by rw[<-cu,hp.length_eq,bw,cu,G];rfl
  have J:g.size<gd:=by rw[R];exact O
  refine af (X _ ?_);have M:∀h',di a s.heap h'->rZ knd h' a (fun c=>S c||decide (c=k)) g.size led->Q true {s with heap:=h'}:=fun h' v x=>by have :=h h' v;rw[l]at this;rw[R]at x;exact this x
  split
  ·refine af ?_;rw[hashByValue_scannable 8 H];refine aj (Cy ?_ u I p l1 D J ?_ ?_ ?_);·intro b y f q;cases b<;>first |exact aj q|exact iH q
   ·split;·exact r
    ·exact bC.fits_plain_off r
   ·split;·exact m
    ·exact DC m
   ·intro h' v x;refine aj (M h' v ?_);split at x;·rw[i,z]at x;exact x
    ·have T:({t1 with plain:=false}:bC).led=led:=i.trans z;rw[T]at x;exact x
  ·refine af (aj ?_);simp only[↓reduceIte];refine Cy ?_ u I p l1 D J r m ?_;·intro b y f q;cases b<;>first |exact aj q|exact iH q
   ·intro h' v x;rw[i,z]at x;exact aj (M h' v x)
end
end Q
set_option maxHeartbeats 3200000
namespace Q
open PySem PySem.Spec PySem.W PyProof.Rows L2
section
variable {prog:Program}{w:World}{A:Around}{R:Result->Shared->Prop}{I:Addr}{fp wr:List Addr}{G:Array ly->Array ly->Prop}{n:Nat}{P:Nat->Value->Prop}{St:Nat->Shared->Prop}
theorem x8(W:WalksS prog w A.in1 I fp wr G n P St)(S:Addr)(h:S∉fp)(ks:List Key)(r:ks.length=n)(y:∀i v,P i v->∃k,ks[i]? =some k/\RelV (kV k) v)(d:n+1<gd):
  ∀(m i:Nat)(s:Shared),n-i=m->i<=n->St i s->rZ (cw prog w) s.heap S (has (met (ks.take i))) (met (ks.take i)).length led->
   (∀s',Moved (S::wr) G s s'->rZ (cw prog w) s'.heap S (has (met ks)) (met ks).length led->R (.ok (.ret .none)) s')->
   gH (model prog w) A (.builtin "set.update.loop" ⟨[.ref S,.ref I],[]⟩) R s
 | 0,i,s,hm,hi,st,hS,hR=>by
  obtain rfl:i=n:=by lia
  rw[<-r,hZ]at hS;refine eM mX ?_;rw[du gm _];show wpAny _ A.in1 (pyNext (.ref I)>>=_) _ _ s;refine af (W.done s _ _ st fun s' g=>?_);obtain⟨o,c,a,t,f,p⟩:=hS;exact aj (hR s' (g.mono fun b d=>aJ _ d) ⟨o,c,a,t,g.heap S _ (fun z=>h (W.sub _ z)) f,p⟩)
 |m+1,i,s,hm,hi,st,hS,hR=>by
  have q:i<n:=by lia
  refine eM mX ?_;rw[du gm _];show wpAny _ A.in1 (pyNext (.ref I)>>=_) _ _ s;refine af (W.item i s _ _ q st fun v s' D a0 g=>?_);obtain⟨k,O,l⟩:=y i v D;have E:rZ (cw prog w) s'.heap S (has (met (ks.take i))) (met (ks.take i)).length led:=by obtain⟨o,c,a,t,f,p⟩:=hS;exact⟨o,c,a,t,g.heap S _ (fun z=>h (W.sub _ z)) f,p⟩
  have V:v.scannable=true:=by
   cases k with
   |inl j=>obtain⟨t,rfl⟩:=l;rfl
   |inr x=>obtain⟨t,rfl⟩:=l;rfl
  show wpAny _ A.in1 (holding [v] (setAdd S v)>>=_) _ _ s';refine af (bQ ?_);unfold setAdd;refine bQ (af ((cw prog w).pyHash (k:=k) (K1 l) ?_));have Q:=DP (ks.take i);rw[dw]at Q;refine addX (knd:=cw prog w) (led:=led) (s:={s' with toks:=s'.toks+1}) (K1 l) V E (by lia) fun C u F=>?_;have B:ks.take (i+1)=ks.take i++[k]:=by rw[dM,O];rfl
  have H:rZ (cw prog w) C S (has (met (ks.take (i+1)))) (met (ks.take (i+1))).length led:=by rw[B,KE];obtain⟨o,c,a,t,f,N,L,M,T,K,hf,U,X⟩:=F;refine⟨o,c,a,t,f,N,L,M,fun j=>?_,K,hf,by rw[rh];exact U,X⟩;rw[<-T j,jO,BG,cf,jO,decide_eq_true_eq]
  refine aj ⟨fR gm _,x8 W S h ks r y d m (i+1) _ (by lia) q (W.frame _ s' _ _ a0 (dy _) fun b hq o e=>?_) H fun Z Y J=>?_⟩;·rw[u.2 b (fun z:b=S=>h (by rw[<-z];exact hq))];exact e
  ·refine hR Z (IE W.gtrans ((g.mono fun b d=>aJ _ d).then_heap (dy _) fun b o hq e=>?_) Y) J;rw[u.2 b (fun z:b=S=>hq (by rw[z];exact aL))];exact e
end
section
variable {prog:Program}{w:World}{A:Around}{E:Value->Shared->Prop}{s:Shared}
theorem HM(a:Value)(h:Q₁ (.ref s.heap.objs.size) {s with heap:=s.heap.push (mY (!w.params.followText "set-order"))}):gH (model prog w) A (.call (.builtin "set.__new__") ⟨[.type "set",a],[]⟩) (wants Q₁ E) s:=by refine EB ?_;show wpAny _ A.in1 (do CF "set.__new__" ⟨[.type "set",a],[]⟩;again (.builtin "set.__new__" ⟨[.type "set",a],[]⟩)) _ _ s;refine af (oX (F.newCall_set_1 a) (aj ⟨fR F.plain_set_new _,eM F.entry_set_new ?_⟩));rw[du F.plain_set_new _];unfold Builtin.«set.__new__» Builtin.Frozenset.newClass;have b:=sub_set_self;obtain⟨hp,g,d,tk,c⟩:=s;dsimp only;wp_walk;refine iX (aj ?_);dsimp only;simp only[newObj];exact af (wpAny_alloc (aj (aj h)))
theorem GV{P:Bool->Heap->Prop}{Q:Value->Shared->Prop}(D:s.heap.IsList l items)
  (I:∀(led:Bool)(R:Result->Shared->Prop),(∀s',Moved (s.heap.objs.size::[(s.heap.push (mY led)).objs.size]) (fun a b=>b=a) {s with heap:=(s.heap.push (mY led)).push {cls:=.type "list_iterator",data:=.fields #[.ref l,.int 0 0]}} s'->P led s'.heap->R (.ok (.ret .none)) s')->gH (model prog w) A.in1.in1 (.builtin "set.update.loop" ⟨[.ref s.heap.objs.size,.ref (s.heap.push (mY led)).objs.size],[]⟩) R {s with heap:=(s.heap.push (mY led)).push {cls:=.type "list_iterator",data:=.fields #[.ref l,.int 0 0]}})
  (h:∀(h':Heap)(tk:Nat),P (!w.params.followText "set-order") h'->(∀b o,b<s.heap.objs.size->s.heap.get? b=some o->h'.get? b=some o)->Q (.ref s.heap.objs.size) {s with heap:=h',toks:=tk}):
  wpAny (model prog w) A (call (.type "set") [.ref l]) Q E s:=by
 have d:=F.called_set;obtain⟨c,tl,a1⟩:=d.mro;have W:=d.made;have X:=d.sub;have Y:=d.notType;have Z:=d.canCreate;have f5:=F.typeCall_set_1 (.ref l);refine iI (EB ?_);show wpAny _ _ (callAny (.type "set") _) _ _ _;refine aj ⟨uj _ (by decide+kernel),eM F.entry_type_call ?_⟩;rw[Around.under_plain (weight_type_call_type "set" [.ref l] []) rfl];repeat(any_goals (first |assumption|wp_step))
 refine jT (HM (.ref l) (E:=E) (Q₁:=fun obj n=>∃led:Bool,led=(!w.params.followText "set-order")/\obj=.ref s.heap.objs.size/\n={s with heap:=s.heap.push (mY led)}) ⟨_,rfl,rfl,rfl⟩) fun r n f=>?_;rcases r with e|fl;·exact f
 rcases fl with _|_|_|obj;·exact f.elim
 ·exact f.elim
 ·exact f.elim
 obtain⟨led,H,rfl,rfl⟩:=f;rw[<-H]at h;have u:(s.heap.push (mY led)).get? s.heap.objs.size=some (mY led):=ay _ rfl;have x:Shared.TypeIs {s with heap:=s.heap.push (mY led)} (.ref s.heap.objs.size) "set":=⟨_,u,rfl⟩;have f6:=d.init.lookup;have f7:=d.init.bind (.ref s.heap.objs.size);repeat(any_goals (first |assumption|wp_step))
 refine jT (iK (R:=wants (fun r p=>r=.none/\∃h' tk,p={s with heap:=h',toks:=tk}/\P led h'/\
  (∀b o,b<s.heap.objs.size->s.heap.get? b=some o->h'.get? b=some o)) E) d.init.plain F.entry_set_init (check_set_init_1 x ?_)) fun U p g=>?_
 ·obtain⟨O,m,y,k,B⟩:=D;obtain⟨L,M,N,T⟩:=O;obtain rfl:L=.type "list":=y;obtain rfl:N=.seq items k:=B;have J:(s.heap.push (mY led)).get? l=some {cls:=.type "list",dict:=M,data:=.seq items k,slots:=T}:=ag _ m;have g1:=F.sub_list_set;have g2:=F.sub_list_frozenset;have g3:(gR "list"==gR "dict")=false:=by decide
  have G:(s.heap.push (mY led)).IsList l items:=⟨_,J,rfl,k,rfl⟩;unfold Builtin.«set.__init__» noKeywords Builtin.Frozenset.updateFrom;generalize hPI:pyIter=PI
  wp_walk
  subst hPI;refine oV G (af (wpAny_runValue ?_));have a0:l<s.heap.objs.size:=aw m;have K:(s.heap.push (mY led)).objs.size=s.heap.objs.size+1:=bE _ _;refine I led _ fun s' i j=>?_
  ·obtain⟨h',t,q,V,S⟩:=s';obtain rfl:t=s.gens:=i.gens;obtain rfl:q=s.drawn:=i.drawn;obtain rfl:S=s.os:=i.os;show wpAny _ _ _ _ _ _;refine aj ?_;show wpAny _ _ (ret bK) _ _ _;refine aj ⟨rfl,h',V,rfl,j,fun b o hq e=>i.heap b o (fun z=>?_) (ag _ (ag _ e))⟩;rcases aH.mp z with z|z;·exact aK hq z
   ·exact aK (bL hq) ((bg.mp z).trans K)
 ·rcases U with e|fl2;·exact g
  rcases fl2 with _|_|_|v;·exact g.elim
  ·exact g.elim
  ·exact g.elim
  obtain⟨rfl,h',tk,rfl,j,C⟩:=g;repeat(any_goals (first |assumption|wp_step))
  exact h _ _ j C
theorem x9{ks:List Key}{Q:Value->Shared->Prop}(p:A.handled=none)(a:s.heap.IsList l items)(q:ks.length=items.size)
  (u:∀(i:Nat)(v:Value),items[i]? =some v->∃k,ks[i]? =some k/\RelV (kV k) v)(m:items.size+1<gd)
  (h:∀(h':Heap)(tk:Nat),rZ (cw prog w) h' s.heap.objs.size (has (met ks)) (met ks).length (!w.params.followText "set-order")->(∀b o,b<s.heap.objs.size->s.heap.get? b=some o->h'.get? b=some o)->Q (.ref s.heap.objs.size) {s with heap:=h',toks:=tk}):
  wpAny (model prog w) A (call (.type "set") [.ref l]) Q E s:=by
 have c:l<s.heap.objs.size:=let⟨_,e,_⟩:=a;aw e;refine GV (P:=fun led h=>rZ (cw prog w) h s.heap.objs.size (has (met ks)) (met ks).length led) a (fun led R g=>?_) h;have f:A.in1.in1.in1.handled=none:=by simp[p]
 have d:(s.heap.push (mY led)).objs.size=s.heap.objs.size+1:=bE _ _;have r:l≠(s.heap.push (mY led)).objs.size:=by rw[d];exact aK (bL c)
 have t:s.heap.objs.size∉[(s.heap.push (mY led)).objs.size,l]:=by
  rw[d];intro z;rcases aH.mp z with z|z;·exact aK (eh _) z
  ·exact eP c (bg.mp z)
 have j:(s.heap.push (mY led)).get? s.heap.objs.size=some (mY led):=ay _ rfl;refine x8 (led:=led) ((Walks.list f _ l r items).toS) s.heap.objs.size t ks q u m (items.size-0) 0 _ (by lia) (aZ _) ⟨⟨_,ay _ rfl,rfl,rfl⟩,(a.push _).push _⟩ ?_ g;exact⟨mY led,#[],0,_,ag _ j,⟨rfl,rfl,rfl⟩,rfl,fun e n=>by simp at n,fun k=>by simp[met,has],by decide,by rfl,rfl,⟨j6,rfl⟩,rfl⟩
end
theorem HQ(m:X.calm=true):fF X (.type "set") (rSet X.K):=by intro M s P H O N Q I r h;obtain⟨p,ks,rfl,hq,K,q⟩:=h;obtain⟨u,rfl,C⟩:=vals1 r;cases C;obtain⟨L,g,A,_⟩:=I.list hq;have f:=g.length;rw[ai]at f;refine x9 (ks:=ks) (I.ok.hd m) A.isList (by rw[aB];exact f) (fun i v e=>zV g i v (by simpa using e)) (by rw[aB,<-f];unfold gd;lia) fun D tk j y=>?_;refine⟨.ref s.heap.objs.size,_,I.laid (t':=tk) (fun b o e=>y b o (aw e) e) (az _) (show dU X.prog X.w _ _ _ (A6 _ (met ks).length)from ?_),rfl,q _ (I.hok.fresh (az _))⟩;obtain⟨o,d,c,t,a,w,n,G,J,l,hf,x⟩:=j.of;refine⟨⟨o,d,c,t,a,w,n,l,hf,x⟩,⟨o,a⟩,fun E F z k=>?_⟩;obtain⟨o,d,c,t,a,B⟩:=z;exact⟨o,d,c,t,k o a,B⟩
end Q
set_option maxHeartbeats 1000000
namespace Q
open PySem
theorem qo{c:Type}:∀{l:List c}{i:Nat}(h:i<l.length),(l[i]::l.eraseIdx i).Perm l
 |a::l,0,_=>d9 _
 |a::l,i+1,h=>by
  have hi:i<l.length:=by simpa using h
  have b:=qo hi;show(l[i]::a::l.eraseIdx i).Perm (a::l);exact(w9 _ _ _).trans (b.cons a)
theorem E7{c:Type}(next :Nat->Nat):∀(fuel k:Nat)(b:List c)(out:Array c),b.length<=fuel->(Ay next fuel k b out).toList.Perm (out.toList++b)
 | 0,k,b,out,h=>by have e:b=[]:=aV.mp (by lia);subst e;simp[Ay]
 |fuel+1,k,b,out,h=>by
  unfold Ay;cases b with
  |nil=>simp
  |cons a l=>
   have hi:next k%(a::l).length<(a::l).length:=CN _ (by simp)
   rw[aa hi];dsimp only;refine(E7 next fuel (k+1) _ _ (by rw[lz hi];simp at h⊢;lia)).trans ?_;rw[Array.toList_push,mJ];exact List.Perm.append_left _ (qo hi)
theorem oJ{a:Type}(next :Nat->Nat)(xs:Array a):(jy next xs).toList.Perm xs.toList:=by unfold jy;exact(E7 next xs.size 0 xs.toList #[] (by simp)).trans (by simp)
section
variable {M:Model}{A:Around}{E:Value->Shared->Prop}
theorem xv{a:Source}{Q:Nat->Shared->Prop}(h:n≠0)(q:∀i d,i<n->Q i {s with drawn:=d}):wpAny M A (choose a n) Q E s:=fun c p b=>by unfold choose;rw[Sem.wp_choose];exact⟨h,q _ _ (CN _ (Nat.pos_of_ne_zero h))⟩
theorem yw{b:Type}:∀(n:Nat)(xs:List b)(s:Shared)(Q:List b->Shared->Prop),xs.length<=n->(∀ys d,ys.Perm xs->Q ys {s with drawn:=d})->wpAny M A (drawOrder n xs) Q E s
 | 0,xs,s,Q,h,q=>by have e:xs=[]:=aV.mp (by lia);subst e;unfold drawOrder;exact aj (q [] s.drawn (d9 _))
 |n+1,[],s,Q,h,q=>by unfold drawOrder;exact aj (q [] s.drawn (d9 _))
 |n+1,a::l,s,Q,h,q=>by unfold drawOrder;refine af (xv (by simp) fun i d hi=>?_);rw[aa hi];dsimp only;refine af (yw n _ _ _ (by rw[lz hi];simp at h⊢;lia) fun ys c f=>aj ?_);exact q _ c ((f.cons _).trans (qo hi))
end
end Q
set_option maxHeartbeats 3200000
namespace Q
open PySem PySem.Spec PySem.W PyProof.Rows L2
theorem fH:Slot "set_iterator" "__next__" "set_iterator.__next__":=
 .of (owner:="set_iterator") (n:="__next__") (by rw[typeLookup_type,builtinLookup_eq_fast];kernel_rfl) (by decide+kernel) (by decide+kernel) (by decide+kernel) (by first |exact .inl (by decide+kernel) |exact .inr (by decide+kernel)) (by rw[Ir];kernel_rfl)
theorem pJ:Iw table "set_iterator.__next__"=some Builtin.«set_iterator.__next__»:=entryFor_of_tree (by kernel_rfl)
theorem rW(a:Value):argsOk "set_iterator.__next__" ⟨[a],[]⟩:=by unfold argsOk;kernel_rfl
theorem uA:Iw table "set.__iter__"=some Builtin.«frozenset.__iter__»:=entryFor_alias (id':="frozenset.__iter__") (by kernel_rfl) rfl (by decide+kernel) (by kernel_rfl)
noncomputable abbrev siO(S:Addr)(first :Value)(i n ep:Nat):Obj:={cls:=.type "set_iterator",dict:=none,data:=.fields #[first,.int i 0,.ref S,.int n 0,.int ep 0],slots:= #[]}
section
variable {prog:Program}{w:World}{A:Around}{E:Value->Shared->Prop}{s:Shared}
noncomputable def ji(es:Array (Int×Value))(t:bC):Bool:= !t.plain&&es.size>1
theorem qH{o:Obj}{t:bC}{Q:Bool->Shared->Prop}(c:s.heap.get? a=some o)(b:o.data=.set es ep t)(hf:t.fits es.size=true)(h:Q (!w.params.followText "set-order"&&ji es t) s):
  wpAny (model prog w) A (setDrawn a) Q E s:=by
 unfold setDrawn Ip;refine af (hW c b hf ?_);dsimp only;refine af (af (iX (aj (aj ?_))));exact h
theorem K3{o:Obj}{t:bC}{Q:Value->Shared->Prop}(b:s.heap.get? S=some o)(g:o.cls=.type "set")(a:o.data=.set es ep t)(hf:t.fits es.size=true)(k:es.size<gd)
  (e:(!w.params.followText "set-order"&&ji es t)=false->Q (.ref s.heap.objs.size) {s with heap:=s.heap.push (siO S (.int 0 0) 0 es.size ep)})
  (f:(!w.params.followText "set-order"&&ji es t)=true->∀(ps:List Nat)(d:Drawn),ps.Perm (aG es.size)->Q (.ref (s.heap.objs.size+1)) {s with drawn:=d,heap:=(s.heap.push {cls:=.type "tuple",data:=.seq (ps.map fun(i:Nat)=>rawInt i).toArray}).push (siO S (.ref s.heap.objs.size) 0 es.size ep)}):
  wpAny (model prog w) A (pyIter (.ref S)) Q E s:=by
 have c:s.TypeIs (.ref S) "set":=⟨o,b,g⟩;refine wpAny_pyIter_slot c F.slot_set_iter (cF F.slot_set_iter c uA ?_ (F.args_set_iter_1 _));unfold Builtin.«frozenset.__iter__» Builtin.Frozenset.slot0 Builtin.Frozenset.sizeOf
 wp_walk
 have h:(t.place.size != es.size||decide (t.fill>t.mask))=false:=by simp only[bC.fits,aE,beq_iff_eq,decide_eq_true_eq]at hf;simp[hf.1,Nat.not_lt.mpr hf.2]
 rw[a];dsimp only;rw[if_neg (by rw[h];decide)];refine aj (aj (aj ?_));refine af (qH b a hf ?_);dsimp only;cases hb:(!w.params.followText "set-order"&&ji es t)with
 |false=>rw[if_neg (by decide)];refine af (aj (af (wpAny_setEpoch_of b a hf ?_)));refine af (bW (aj ⟨_,rfl,"set_iterator",_,⟨_,ay _ rfl,rfl⟩,fH.lookup,e hb⟩))
 |true=>rw[if_pos rfl];refine af (yw _ _ _ _ (by simp) fun ps d hp=>?_);refine af (bW ?_ (by show(ps.map fun(i:Nat)=>rawInt i).toArray.size<=sizeLine;rw[aB,ai,hp.length_eq,ba];exact o4 k));have j:(s.heap.push {cls:=.type "tuple",data:=.seq (ps.map fun(i:Nat)=>rawInt i).toArray}).get? S=some o:=ag _ b;refine af (wpAny_setEpoch_of (s:={s with drawn:=d,heap:=s.heap.push {cls:=.type "tuple",data:=.seq (ps.map fun(i:Nat)=>rawInt i).toArray}}) j a hf ?_);have l:(s.heap.push {cls:=.type "tuple",data:=.seq (ps.map fun(i:Nat)=>rawInt i).toArray}).objs.size=s.heap.objs.size+1:=bE ..;refine af (bW (aj ⟨_,rfl,"set_iterator",_,⟨_,ay _ rfl,rfl⟩,fH.lookup,?_⟩));have :=f hb ps d hp;rw[<-l]at this;exact this
end
section
variable {prog:Program}{w:World}{A:Around}{E:Value->Shared->Prop}{s:Shared}
structure kZ(h:Heap)(S:Addr)(es:Array (Int×Value))(ep:Nat)(t:bC):Prop where
 ob:∃o,h.get? S=some o/\o.cls=.type "set"/\o.data=.set es ep t
 fit:t.fits es.size=true
theorem jW{first :Value}{t:bC}{Q:dI->Shared->Prop}(hi:s.heap.get? I=some (siO S first i es.size ep))(c:kZ s.heap S es ep t)
  (h:wpAny (model prog w) A (match first with
   |.int slot _=>do
    match<-setNext S slot.toNat i ep with
    |some (x,next)=>do
     uE (.ref I) 0 (rawInt next)
     uE (.ref I) 1 (rawInt ((i:Int)+1))
     ret x
    |none=>do
     uE (.ref I) 2 .none
     Iq (<-newExc (.type "StopIteration") [])
   |_=>do
    let some places<-uX first |unsupported "internal:set_iterator"
    match places[i]? with
    |some (.int place _)=>do
     let x<-setNextDrawn S place.toNat ep
     uE (.ref I) 1 (rawInt ((i:Int)+1))
     ret x
    |some _=>unsupported "internal:set_iterator"
    |none=>do
     uE (.ref I) 0 (rawInt 0)
     uE (.ref I) 2 .none
     Iq (<-newExc (.type "StopIteration") [])) Q E s):
  wpAny (model prog w) A (Builtin.«set_iterator.__next__» ⟨[.ref I],[]⟩) Q E s:=by
 obtain⟨⟨o,b,d,a⟩,hf⟩:=c;unfold Builtin.«set_iterator.__next__»;show wpAny _ _ (fieldsOf (.ref I)>>=_) _ _ _;refine af (wpAny_fieldsOf hi rfl ?_);dsimp only;refine af (wpAny_setEntries_of b a hf ?_);rw[if_neg (by simp)];exact h
theorem nxA{t:bC}{o:Obj}{Q:Option (Value×Nat)->Shared->Prop}(c:w.params.followText "set-order"=true)(b:s.heap.get? S=some o)(a:o.data=.set es ep t)(hf:t.fits es.size=true)
  (q:Q ((jy (w.params.setOrder S ep) es)[i]?.map fun e=>(e.2,k)) s):wpAny (model prog w) A (setNext S k i ep) Q E s:=by
 unfold setNext Ip;refine af (hW b a hf ?_);dsimp only;refine af (af (iX (aj ?_)));dsimp only;rw[show(model prog w).w.params.followText "set-order"=true from c];simp only[if_true,bne_self_eq_false,aW,if_false];refine af ?_;unfold setWalk Ip;refine af (hW b a hf ?_);dsimp only;refine af (af (iX (aj ?_)));dsimp only;rw[show(model prog w).w.params.followText "set-order"=true from c];simp only[if_true];exact af (iX (aj (aj q)))
theorem nxB{t:bC}{o:Obj}{Q:Option (Value×Nat)->Shared->Prop}(h:w.params.followText "set-order"=false)(e:ji es t=false)(f:t.led=true)(g:s.heap.get? S=some o)(d:o.data=.set es ep t)(hf:t.fits es.size=true)(b:cq t.place k=i)
  (l:∀x j,es[i]? =some x->t.place[i]? =some j->Q (some (x.2,j+1)) s)(m:es[i]? =none->Q none s):wpAny (model prog w) A (setNext S k n ep) Q E s:=by
 unfold setNext Ip;refine af (hW g d hf ?_);dsimp only;refine af (af (iX (aj ?_)));dsimp only;rw[show(model prog w).w.params.followText "set-order"=false from h];simp only[aW,if_false];rw[if_neg (fun z=>by have c:ji es t=true:=z;rw[e]at c;cases c)];refine af (show wpAny _ _ (if(!t.led&& !es.isEmpty)=true then unsupported "set:maker-not-led" else pure ()) _ _ _ from ?_);rw[if_neg (by rw[f];simp)];refine aj (aj ?_);cases hx:es[i]? with
 |none=>simp only[b,hx];exact m hx
 |some x=>
  have q:t.place.size=es.size:=by simp only[bC.fits,aE,beq_iff_eq]at hf;exact hf.1
  have p:i<es.size:=(cA.mp hx).1;have a:t.place[i]? =some (t.place[i]'(by lia)):=by simp[show i<t.place.size by lia]
  simp only[b,hx,a];exact l x _ hx a
theorem nextA{t:bC}{x:Int×Value}{Q:dI->Shared->Prop}(j:w.params.followText "set-order"=true)(hi:s.heap.get? I=some (siO S (.int k 0) i es.size ep))(d:kZ s.heap S es ep t)
  (l:(jy (w.params.setOrder S ep) es)[i]? =some x)(h:∀h',h'.get? I=some (siO S (.int k 0) (i+1) es.size ep)->di I s.heap h'->Q (.done (.ret x.2)) {s with heap:=h'}):
  wpAny (model prog w) A (Builtin.«set_iterator.__next__» ⟨[.ref I],[]⟩) Q E s:=by
 refine jW hi d ?_;obtain⟨⟨o,g,p,f⟩,hf⟩:=d;refine af (nxA j g f hf ?_);rw[l,jY];dsimp only;refine af (dB hi (by simp) fun e a m=>?_);have a:e.get? I=some (siO S (.int k 0) i es.size ep):=a;refine af (dB a (by simp) fun c b n=>?_);have b:c.get? I=some (siO S (.int k 0) (i+1) es.size ep):=b;exact aj (h c b (m.trans n))
theorem nextB{t:bC}{x:Int×Value}{Q:dI->Shared->Prop}(u:w.params.followText "set-order"=false)(n:ji es t=false)(q:t.led=true)(hi:s.heap.get? I=some (siO S (.int k 0) i es.size ep))(e:kZ s.heap S es ep t)
  (p:cq t.place k=i)(f:es[i]? =some x)(h:∀h' j,t.place[i]? =some j->h'.get? I=some (siO S (.int (j+1:Nat) 0) (i+1) es.size ep)->di I s.heap h'->Q (.done (.ret x.2)) {s with heap:=h'}):
  wpAny (model prog w) A (Builtin.«set_iterator.__next__» ⟨[.ref I],[]⟩) Q E s:=by
 refine jW hi e ?_;obtain⟨⟨o,r,C,m⟩,hf⟩:=e;refine af (nxB u n q r m hf p (fun y j c g=>?_) fun z=>by rw[f]at z;cases z);rw[f]at c;cases c;dsimp only;refine af (dB hi (by simp) fun l a v=>?_);have a:l.get? I=some (siO S (.int (j+1:Nat) 0) i es.size ep):=a;refine af (dB a (by simp) fun d b B=>?_);have b:d.get? I=some (siO S (.int (j+1:Nat) 0) (i+1) es.size ep):=b;exact aj (h d _ g b (v.trans B))
theorem nextC{tk:Tok}{t:bC}{ps:Array Value}{d:Obj}{x:Int×Value}{Q:dI->Shared->Prop}(hi:s.heap.get? I=some (siO S (.ref T) i es.size ep))(c:kZ s.heap S es ep t)
  (e:s.heap.get? T=some d)(f:d.data=.seq ps m)(hp:ps[i]? =some (.int p tk))(k:es[p]? =some x)(h:∀h',h'.get? I=some (siO S (.ref T) (i+1) es.size ep)->di I s.heap h'->Q (.done (.ret x.2)) {s with heap:=h'}):
  wpAny (model prog w) A (Builtin.«set_iterator.__next__» ⟨[.ref I],[]⟩) Q E s:=by
 refine jW hi c ?_;obtain⟨⟨o,j,n,g⟩,hf⟩:=c;dsimp only;refine af (iG e f ?_);simp only[hp,aM];refine af ?_;unfold setNextDrawn;refine af (hW j g hf ?_);simp only[bne_self_eq_false,aW,if_false,k];refine aj ?_;refine af (dB hi (by simp) fun b a l=>?_);have a:b.get? I=some (siO S (.ref T) (i+1) es.size ep):=a;exact aj (h b a l)
end
section
variable {prog:Program}{w:World}{A:Around}{E:Value->Shared->Prop}{s:Shared}
theorem qg{d:Type}{Q:d->Shared->Prop}(b:A.handled=none)(h:∀h' e,(∀c o,s.heap.get? c=some o->h'.get? c=some o)->(∃o,h'.get? e=some o/\o.cls=.type "StopIteration")->E (.ref e) {s with heap:=h'}):
  wpAny (model prog w) A (newExc (.type "StopIteration") []>>=fun x=>Iq x) Q E s:=by
 refine af ?_;simp only[newExc,newTuple];refine af (bW ?_ (by size_fits));refine af (m:=uG _ _) (oX (a:=bK) (by first |rfl| (simp only[uG];rfl)) ?_);refine bW ?_ (by size_fits);simp only[Iq];refine af (wpAny_handled ?_);rw[b];refine af (aj (wpAny_throw ?_));exact h _ _ (fun c o e=>ag _ (ag _ e)) ⟨_,ay _ rfl,rfl⟩
def Ends(E:Value->Shared->Prop)(I:Addr)(s:Shared):Prop:=∀h' e,(∀c o,c≠I->s.heap.get? c=some o->h'.get? c=some o)->(∃o,h'.get? e=some o/\o.cls=.type "StopIteration")->E (.ref e) {s with heap:=h'}
theorem endA{t:bC}{Q:dI->Shared->Prop}(j:A.handled=none)(m:w.params.followText "set-order"=true)(hi:s.heap.get? I=some (siO S (.int k 0) es.size es.size ep))(a:kZ s.heap S es ep t)(h:Ends E I s):
  wpAny (model prog w) A (Builtin.«set_iterator.__next__» ⟨[.ref I],[]⟩) Q E s:=by
 have n:(jy (w.params.setOrder S ep) es)[es.size]? =none:=by have :=(oJ (w.params.setOrder S ep) es).length_eq;simp at this⊢;lia
 refine jW hi a ?_;obtain⟨⟨o,l,v,g⟩,hf⟩:=a;refine af (nxA m l g hf ?_);rw[n,Option.map_none];dsimp only;refine af (dB hi (by simp) fun f u r=>?_);exact qg (s:={s with heap:=f}) j fun d e p i=>h d e (fun c o b q=>p c o (r.extBut c o b q)) i
theorem endB{t:bC}{Q:dI->Shared->Prop}(n:A.handled=none)(v:w.params.followText "set-order"=false)(l:ji es t=false)(r:t.led=true)(hi:s.heap.get? I=some (siO S (.int k 0) es.size es.size ep))(a:kZ s.heap S es ep t)
  (p:cq t.place k=es.size)(h:Ends E I s):wpAny (model prog w) A (Builtin.«set_iterator.__next__» ⟨[.ref I],[]⟩) Q E s:=by
 refine jW hi a ?_;obtain⟨⟨o,u,D,i⟩,hf⟩:=a;refine af (nxB v l r u i hf p (fun y j d C=>by simp at d) fun _=>?_);dsimp only;refine af (dB hi (by simp) fun g B z=>?_);exact qg (s:={s with heap:=g}) n fun f e x m=>h f e (fun c o b q=>x c o (z.extBut c o b q)) m
theorem endC{t:bC}{ps:Array Value}{d:Obj}{Q:dI->Shared->Prop}(n:A.handled=none)(hi:s.heap.get? I=some (siO S (.ref T) es.size es.size ep))(r:kZ s.heap S es ep t)(j:s.heap.get? T=some d)(k:d.data=.seq ps m)(hp:ps.size=es.size)(h:Ends E I s):
  wpAny (model prog w) A (Builtin.«set_iterator.__next__» ⟨[.ref I],[]⟩) Q E s:=by
 refine jW hi r ?_;dsimp only;refine af (iG j k ?_);have p:ps[es.size]? =none:=by simp;lia
 simp only[p];refine af (dB hi (by simp) fun g a v=>?_);have a:g.get? I=some (siO S (.int 0 0) es.size es.size ep):=a;refine af (dB a (by simp) fun i y x=>?_);exact qg (s:={s with heap:=i}) n fun f e u l=>h f e (fun c o b q=>u c o (x.extBut c o b (v.extBut c o b q))) l
end
theorem qJ:Slot "set_iterator" "__iter__" "set_iterator.__iter__":=
 .of (owner:="set_iterator") (n:="__iter__") (by rw[typeLookup_type,builtinLookup_eq_fast];kernel_rfl) (by decide+kernel) (by decide+kernel) (by decide+kernel) (by first |exact .inl (by decide+kernel) |exact .inr (by decide+kernel)) (by rw[Ir];kernel_rfl)
theorem xI:Iw table "set_iterator.__iter__"=some Builtin.«dict_keyiterator.__iter__»:=
 entryFor_alias (id':="dict_keyiterator.__iter__") (by kernel_rfl) (by first |rfl|decide+kernel) (by decide+kernel) (by kernel_rfl)
theorem Av(a:Value):argsOk "set_iterator.__iter__" ⟨[a],[]⟩:=by unfold argsOk;kernel_rfl
section
variable {prog:Program}{w:World}{A:Around}{E:Value->Shared->Prop}{s:Shared}
theorem zk{Q:Option Value->Shared->Prop}(b:s.TypeIs (.ref I) "set_iterator")(h:∀(a:dI->Shared->Prop)(c:Value->Shared->Prop),(∀v h',Q (some v) {s with heap:=h'}->a (.done (.ret v)) {s with heap:=h'})->wpAny (model prog w) A.in1 (Builtin.«set_iterator.__next__» ⟨[.ref I],[]⟩) a c s):
  wpAny (model prog w) A (pyNext (.ref I)) Q E s:=by
 unfold pyNext;exact af (gT (dF (name:=bf "__next__") b fH (cF fH b pJ (h _ _ fun v h' q=>⟨_,rfl,aj q⟩) (rW _))))
theorem zm{Q:Option Value->Shared->Prop}(d:s.TypeIs (.ref I) "set_iterator")(h:∀(f:dI->Shared->Prop)(a:Value->Shared->Prop),(∀h' e,(∀c o,c≠I->s.heap.get? c=some o->h'.get? c=some o)->(∃o,h'.get? e=some o/\o.cls=.type "StopIteration")->a (.ref e) {s with heap:=h'})->wpAny (model prog w) A.in1 (Builtin.«set_iterator.__next__» ⟨[.ref I],[]⟩) f a s)
  (q:∀h',(∀c o,c≠I->s.heap.get? c=some o->h'.get? c=some o)->Q none {s with heap:=h'}):wpAny (model prog w) A (pyNext (.ref I)) Q E s:=by
 unfold pyNext;refine af (gT (dF (name:=bf "__next__") d fH (cF fH d pJ (h _ _ fun h' e k j=>?_) (rW _))));obtain⟨o,g,i⟩:=j;exact af (kF (T:="StopIteration") (b:=true) ⟨o,g,i⟩ Iu (aj (q _ k)))
theorem zj{Q:Value->Shared->Prop}(a:s.TypeIs (.ref I) "set_iterator")(h:Q (.ref I) s):wpAny (model prog w) A (pyIter (.ref I)) Q E s:=by refine wpAny_pyIter_slot a qJ (cF qJ a xI ?_ (Av _));show wpAny _ _ (ret (.ref I)) _ _ s;exact aj ⟨_,rfl,"set_iterator",_,a,fH.lookup,h⟩
end
theorem kZ.at{t:bC}(x:kZ h S es ep t)(k:∀o,h.get? S=some o->h'.get? S=some o):kZ h' S es ep t:=let⟨⟨o,a,b,c⟩,f⟩:=x;⟨⟨o,k o a,b,c⟩,f⟩
variable {prog:Program}{w:World}{A:Around}
theorem walkA(y:A.handled=none)(l:w.params.followText "set-order"=true)(ne:S≠I)(a:Array (Int×Value))(c:Nat)(t:bC):
  Walks prog w A I [I,S] [I] a.size (fun i v=>((jy (w.params.setOrder S c) a).toList.map (·.2))[i]? =some v) (fun i h=>kZ h S a c t/\∃k:Nat,h.get? I=some (siO S (.int k 0) i a.size c)) where
 sub:=fun b d=>by simp at d⊢;exact .inl d
 frame:=fun i h f ⟨x,k,e⟩ g=>⟨x.at fun o q=>g S (by simp) o q,k,g I (by simp) _ e⟩
 item:=fun i s Q E hi ⟨x,k,e⟩ j=>by
  have B:=(oJ (w.params.setOrder S c) a).length_eq;simp only[cu]at B;have m:(jy (w.params.setOrder S c) a)[i]? =some ((jy (w.params.setOrder S c) a)[i]'(by lia)):=by simp[show i<(jy (w.params.setOrder S c) a).size by lia]
  refine zk ⟨_,e,rfl⟩ fun r p q=>nextA l e x m fun f u n=>q _ f ?_;exact j _ f s.toks (by simp[m]) ⟨x.at fun o z=>n.extBut S o ne z,k,u⟩ fun b o d z=>n.extBut b o (by simpa using d) z
 done:=fun s Q E ⟨x,k,e⟩ j=>zm ⟨_,e,rfl⟩ (fun r p q=>endA (by simp[y]) l e x q) fun f g=>j f s.toks fun b o d z=>g b o (by simpa using d) z
 self:=fun i s Q E ⟨x,k,e⟩ q=>zj ⟨_,e,rfl⟩ q
theorem walkB(G:A.handled=none)(r:w.params.followText "set-order"=false)(ne:S≠I)(a:Array (Int×Value))(m:Nat)(t:bC)(n:ji a t=false)(p:t.led=true)(F:kE t):
  Walks prog w A I [I,S] [I] a.size (fun i v=>(a.toList.map (·.2))[i]? =some v) (fun i h=>kZ h S a m t/\∃k:Nat,cq t.place k=i/\h.get? I=some (siO S (.int k 0) i a.size m)) where
 sub:=fun b c=>by simp at c⊢;exact .inl c
 frame:=fun i h f ⟨x,k,d,e⟩ g=>⟨x.at fun o q=>g S (by simp) o q,k,d,g I (by simp) _ e⟩
 item:=fun i s Q E hi ⟨x,k,d,e⟩ l=>by
  have u:a[i]? =some a[i]:=by simp[hi]
  refine zk ⟨_,e,rfl⟩ fun C B q=>nextB r n p e x d u fun f j H D y=>q _ f ?_;exact l _ f s.toks (by simp[u]) ⟨x.at fun o z=>y.extBut S o ne z,j+1,Ep F.up H,D⟩ fun b o c z=>y.extBut b o (by simpa using c) z
 done:=fun s Q E ⟨x,k,d,e⟩ l=>zm ⟨_,e,rfl⟩ (fun C B q=>endB (by simp[G]) r n p e x d q) fun f g=>l f s.toks fun b o c z=>g b o (by simpa using c) z
 self:=fun i s Q E ⟨x,k,d,e⟩ q=>zj ⟨_,e,rfl⟩ q
theorem walkC(B:A.handled=none)(ne:S≠I)(D:T≠I)(a:Array (Int×Value))(l:Nat)(t:bC)(ps:List Nat)(hp:ps.Perm (aG a.size)):
  Walks prog w A I [I,S,T] [I] a.size (fun i v=>(ps.map fun p=>(a.getD p (0,.none)).2)[i]? =some v) (fun i h=>kZ h S a l t/\h.get? T=some {cls:=.type "tuple",data:=.seq (ps.map fun(i:Nat)=>rawInt i).toArray}/\h.get? I=some (siO S (.ref T) i a.size l)) where
 sub:=fun b c=>by simp at c⊢;exact .inl c
 frame:=fun i h d ⟨x,z,e⟩ f=>⟨x.at fun o q=>f S (by simp) o q,f T (by simp) _ z,f I (by simp) _ e⟩
 item:=fun i s Q E hi ⟨x,z,e⟩ g=>by
  have F:ps.length=a.size:=by rw[hp.length_eq,ba]
  have j:i<ps.length:=by lia
  have m:ps[i]<a.size:=aY.mp (hp.mem_iff.mp (bo j));have C:a[ps[i]]? =some a[ps[i]]:=by simp[m]
  refine zk ⟨_,e,rfl⟩ fun r n q=>nextC (p:=ps[i]) (tk:=0) e x z rfl (by simp[j,rawInt]) C fun d u k=>q _ d ?_;exact g _ d s.toks (by simp[j,m,Mj]) ⟨x.at fun o y=>k.extBut S o ne y,k.extBut T _ D z,u⟩ fun b o c y=>k.extBut b o (by simpa using c) y
 done:=fun s Q E ⟨x,z,e⟩ g=>zm ⟨_,e,rfl⟩ (fun r n q=>endC (by simp[B]) e x z rfl (by simp[hp.length_eq]) q) fun d f=>g d s.toks fun b o c y=>f b o (by simpa using c) y
 self:=fun i s Q E ⟨x,z,e⟩ q=>zj ⟨_,e,rfl⟩ q
end Q
namespace Q
open PySem PySem.Spec PySem.W PyProof.Rows L2
section
variable {prog:Program}{w:World}{A:Around}{E:Value->Shared->Prop}{s:Shared}
theorem ite_yes{a:Type}{M:Model}{b:Bool}{x y:Sem a}{Q:a->Shared->Prop}(c:b=true)(h:wpAny M A x Q E s):wpAny M A (if b=true then x else y) Q E s:=by rw[if_pos c];exact h
theorem BV{Q:Bool->Shared->Prop}(a:s.TypeIs (.ref S) "set")(h:Q false s):wpAny (model prog w) A (tB (.ref S)) Q E s:=by
 unfold tB;refine af (wpAny_specialOf a F.slot_set_len.lookup ?_);generalize hid:("set.__len__":String)=id0
 (fail_if_success (clear hid id0))
 wp_delta
 rw[show splitId id0=some ("set","__len__")from by subst hid;decide+kernel];subst hid;refine af (kF (b:=true) a (by rw[Ir];kernel_rfl) ?_);rw[if_neg (by decide)];refine ite_yes (by decide+kernel) (af (Ax a ?_));exact aj h
noncomputable abbrev jB(acc:Array Value)(c:Nat):Obj:={cls:=.type "list",dict:=none,data:=.seq acc c,slots:= #[]}
theorem touch{c:Nat}{Q:Unit->Shared->Prop}(f:s.heap.get? L=some (jB acc c))(hz:acc.size<=5000)(h:∀h' c',h'.get? L=some (jB acc c')->di L s.heap h'->Q () {s with heap:=h'}):wpAny (model prog w) A (lB (.ref L)) Q E s:=by have g:acc.size<=sizeLine:=aP hz (by decide);unfold lB;refine af (fS f rfl ?_ g (by simp;lia));have a:∃e,(s.heap.update L (a8 fun x=>x.push bK)).get? L=some (jB (acc.push .none) e):=⟨_,by rw[b7 _ f rfl];rfl⟩;obtain⟨e,a⟩:=a;refine fS (s:={s with heap:=s.heap.update L (a8 fun x=>x.push bK)}) a rfl ?_ (by simp;exact aP (by lia:acc.size+1<=5001) (by decide)) (by simp;lia);have d:∃b,((s.heap.update L (a8 fun x=>x.push bK)).update L (a8 fun x=>x.pop)).get? L=some (jB acc b):=⟨_,by rw[b7 _ a rfl];simp[a8];rfl⟩;obtain⟨b,d⟩:=d;exact h _ b d ((bN ..).trans (bN ..))
theorem vW{k:List Addr}{P:Nat->Value->Prop}{St:Nat->Heap->Prop}{i:Value}{c:Nat}{R:Result->Shared->Prop}(hq:∀c' s',c'.quiet=true/\gH (model prog w) A c' R s'->Qf (.again c') s')(W:Walks prog w A.in1 I fp k n P St)(u:n<=sizeLine)(g:L∉fp)(q:s.heap.get? L=some (jB #[] c))(st:St 0 s.heap)
  (h:∀s' acc c',(∀b o,b∉L::k->s.heap.get? b=some o->s'.heap.get? b=some o)->s'.gens=s.gens->s'.drawn=s.drawn->s'.os=s.os->s'.heap.get? L=some (jB acc c')->ItemsOf P acc n->R (.ok (.ret i)) s'):
  wpAny (model prog w) A.in1 (do
   rule "list.extend.makes-room"
   let f<-lB (.ref L)
   (fun(f:Unit)=>again (Code.builtin "list.extend.loop" {pos:=[bB L,bB I,i]})) f) Qf E s:=by
 refine af (iH (af (touch q (by simp) fun p x m j=>?_)));have v:=W.frame 0 s.heap p st fun b a o e=>j.extBut b o (fun z=>g (z▸a)) e;refine aj (hq _ _ ⟨fR F.plain_extend_loop _,codeAny_extend_loopS W.toS u _ g _ n 0 _ _ _ rfl (aZ _) v m (ItemsOf.nil P) fun s' l c' d r t=>?_⟩);exact h s' l c' (fun b o a e=>d.heap b o a (j.extBut b o (fun z=>a (by rw[z];exact aL)) e)) d.gens d.drawn d.os r t
end
theorem DY(h:ItemsOf (fun i v=>vs[i]? =some v) acc vs.length):acc.toList=vs:=by
 obtain⟨c,d⟩:=h;apply bS;·simpa using c
 ·intro i a b;have :vs[i]? =some acc[i]:=d i acc[i] (by simp);rw[aa b]at this;simpa using(bj this).symm
theorem es_map(c:Array (Int×Value)):((aG c.size).map fun p=>(c.getD p (0,.none)).2)=c.toList.map (·.2):=by
 apply bS;·simp
 ·intro i a b;have hi:i<c.size:=by simpa using a
  simp[hi,Mj]
section
variable {prog:Program}{w:World}{A:Around}{E:Value->Shared->Prop}{s:Shared}
theorem Cc{o:Obj}{t:bC}{Q:List Value->Shared->Prop}(H:A.handled=none)(M:s.heap.get? S=some o)(n:o.cls=.type "set")(G:o.data=.set es ep t)(hf:t.fits es.size=true)(O:es.size<gd)(L:kE t)(X:w.params.followText "set-order"=false->t.led=true)
  (T:∀(vs:List Value) s',vs.Perm (es.toList.map (·.2))->(∀b o,s.heap.get? b=some o->s'.heap.get? b=some o)->s'.gens=s.gens->s'.os=s.os->s.heap.objs.size<s'.heap.objs.size->Q vs s'):wpAny (model prog w) A (collect (.ref S)) Q E s:=by
 have m:S<s.heap.objs.size:=aw M;have J:es.size<=sizeLine:=o4 O;unfold collect;refine af (wpAny_runValue (eM F.entry_proto_collect ?_));rw[du F.plain_proto_collect _];show wpAny _ A.in1 (newList []>>=fun a0=>again (.builtin "list.__iadd__" ⟨[a0,.ref S],[]⟩)) _ _ s;refine af (bW ?_);refine aj ⟨fR F.plain_list_iadd _,eM F.entry_list_iadd ?_⟩;rw[du F.plain_list_iadd _];have D:(s.heap.push (jB #[] 0)).get? s.heap.objs.size=some (jB #[] 0):=ay _ rfl;have u:(s.heap.push (jB #[] 0)).get? S=some o:=ag _ M;have v:(s.heap.push (jB #[] 0)).objs.size=s.heap.objs.size+1:=bE ..;have U:Shared.TypeIs {s with heap:=s.heap.push (jB #[] 0)} (.ref S) "set":=⟨o,u,n⟩;show wpAny _ A.in1 (tE (.ref s.heap.objs.size) (.ref S) (.ref s.heap.objs.size)) _ _ {s with heap:=s.heap.push (jB #[] 0)};unfold tE;refine af (Ax U ?_);rw[if_neg (by simp[Builtin.List.listSameRef];exact eP m)];have C:∀(vs:List Value)(s':Shared)(c:Array Value)(a:Nat),vs.length=es.size->vs.Perm (es.toList.map (·.2))->(∀b o,s.heap.get? b=some o->s'.heap.get? b=some o)->s'.gens=s.gens->s'.os=s.os->s'.heap.get? s.heap.objs.size=some (jB c a)->ItemsOf (fun i a2=>vs[i]? =some a2) c es.size->
   wpAny (model prog w) A (load s.heap.objs.size>>=fun a3=>match a3.data with |.seq xs _=>pure xs.toList|_=>unsupported "internal:collect") Q E s':=fun vs s' c a r hp j l z e g=>by
  refine af (wpAny_load e ?_);rw[<-r]at g;have :=DY g;exact aj (by rw[this];exact T vs s' hp j l z (aw e))
 refine af (K3 u n G hf O (fun I=>?_) fun I f d hp=>?_)
 ·rw[v];refine af (bQ (BV ⟨o,ag _ u,n⟩ ?_));refine ite_yes (by decide+kernel) ?_;have y:((s.heap.push (jB #[] 0)).push (siO S (.int 0 0) 0 es.size ep)).get? (s.heap.objs.size+1)=some (siO S (.int 0 0) 0 es.size ep):=by rw[<-v];exact ay _ rfl
  have K:kZ ((s.heap.push (jB #[] 0)).push (siO S (.int 0 0) 0 es.size ep)) S es ep t:=⟨⟨o,ag _ u,n,G⟩,hf⟩;have B:s.heap.objs.size∉[s.heap.objs.size+1,S]:=by simp only[aH,cV,or_false,not_or];exact⟨aK (eh _),eP m⟩
  have P:∀(s':Shared),(∀b o,b∉s.heap.objs.size::[s.heap.objs.size+1]->((s.heap.push (jB #[] 0)).push (siO S (.int 0 0) 0 es.size ep)).get? b=some o->s'.heap.get? b=some o)->∀b o,s.heap.get? b=some o->s'.heap.get? b=some o:=fun s' k b o e=>by have p:=aw e;refine k b o ?_ (ag _ (ag _ e));simp only[aH,cV,or_false,not_or];exact⟨aK p,aK (bL p)⟩
  cases hw:w.params.followText "set-order" with
  |true=>
   have r:((jy (w.params.setOrder S ep) es).toList.map (·.2)).length=es.size:=by have :=(oJ (w.params.setOrder S ep) es).length_eq;simpa using this
   refine vW (s:={s with heap:=(s.heap.push (jB #[] 0)).push (siO S (.int 0 0) 0 es.size ep)}) (fun a s' h=>h) (walkA (A:=A.in1) (by simp[H]) hw (aK (bL m)) es ep t) J B (ag _ D) ⟨K,0,y⟩ fun s' c a j l z x e g=>?_;exact C _ s' c a r ((oJ (w.params.setOrder S ep) es).map _) (P s' j) l x e g
  |false=>
   have W:ji es t=false:=by rw[hw]at I;simpa using I
   refine vW (s:={s with heap:=(s.heap.push (jB #[] 0)).push (siO S (.int 0 0) 0 es.size ep)}) (fun a s' h=>h) (walkB (A:=A.in1) (by simp[H]) hw (aK (bL m)) es ep t W (X hw) L) J B (ag _ D) ⟨K,0,Eo L.up,y⟩ fun s' c a j l z x e g=>?_;exact C _ s' c a (by simp) (d9 _) (P s' j) l x e g
 ·rw[v];have Y:((s.heap.push (jB #[] 0)).push {cls:=.type "tuple",data:=.seq (f.map fun(i:Nat)=>rawInt i).toArray}).objs.size=s.heap.objs.size+1+1:=by rw[bE,v]
  have V:((s.heap.push (jB #[] 0)).push {cls:=.type "tuple",data:=.seq (f.map fun(i:Nat)=>rawInt i).toArray}).get? (s.heap.objs.size+1)=some {cls:=.type "tuple",data:=.seq (f.map fun(i:Nat)=>rawInt i).toArray}:=by rw[<-v];exact ay _ rfl
  have N:((s.heap.push (jB #[] 0)).push {cls:=.type "tuple",data:=.seq (f.map fun(i:Nat)=>rawInt i).toArray}).get? S=some o:=ag _ u;have R:((s.heap.push (jB #[] 0)).push {cls:=.type "tuple",data:=.seq (f.map fun(i:Nat)=>rawInt i).toArray}).get? s.heap.objs.size=some (jB #[] 0):=ag _ D;have Z:∀b o,s.heap.get? b=some o->((s.heap.push (jB #[] 0)).push {cls:=.type "tuple",data:=.seq (f.map fun(i:Nat)=>rawInt i).toArray}).get? b=some o:=fun b o e=>ag _ (ag _ e);generalize(s.heap.push (jB #[] 0)).push {cls:=.type "tuple",data:=.seq (f.map fun(i:Nat)=>rawInt i).toArray}=h2 at *;refine af (bQ (BV ⟨o,ag _ N,n⟩ ?_));refine ite_yes (by decide+kernel) ?_;have y:(h2.push (siO S (.ref (s.heap.objs.size+1)) 0 es.size ep)).get? (s.heap.objs.size+1+1)=some (siO S (.ref (s.heap.objs.size+1)) 0 es.size ep):=by rw[<-Y];exact ay _ rfl
  have B:s.heap.objs.size∉[s.heap.objs.size+1+1,S,s.heap.objs.size+1]:=by simp only[aH,cV,or_false,not_or];exact⟨aK (bL (eh _)),eP m,aK (eh _)⟩
  have r:(f.map fun a1=>(es.getD a1 (0,.none)).2).length=es.size:=by rw[ai,hp.length_eq,ba]
  refine vW (s:={s with drawn:=d,heap:=h2.push (siO S (.ref (s.heap.objs.size+1)) 0 es.size ep)}) (fun a s' h=>h) (walkC (A:=A.in1) (by simp[H]) (aK (bL (bL m))) (aK (eh _)) es ep t f hp) J B (ag _ R)
   ⟨⟨⟨o,ag _ N,n,G⟩,hf⟩,ag _ V,y⟩ fun s' c a j l z x e g=>?_
  refine C _ s' c a r ((hp.map _).trans (by rw[es_map])) (fun b o q=>?_) l x e g;have p:=aw q;refine j b o ?_ (ag _ (Z b o q));simp only[aH,cV,or_false,not_or];exact⟨aK p,aK (bL (bL p))⟩
end
theorem HD{xs:List Value}(p:vs.Perm xs):∀{ks:List Int},bZ xs ks->∃c:List Int,c.Perm ks/\bZ vs c:=by
 induction p with
 |nil=>intro ks h;exact⟨ks,d9 _,h⟩
 |cons x p ih=>
  intro ks h;cases h with
  |cons k t h=>obtain⟨c,a,b⟩:=ih h;exact⟨k::c,a.cons k,.cons k t b⟩
 |swap x y l=>
  intro ks h;cases h with
  |cons k t h=>cases h with
   |cons k' t' h=>exact⟨k'::k::_,w9 _ _ _,.cons k' t' (.cons k t h)⟩
 |trans p q ih1 ih2=>intro ks h;obtain⟨c,a,b⟩:=ih2 h;obtain⟨f,d,e⟩:=ih1 b;exact⟨f,d.trans a,e⟩
section
variable {prog:Program}{w:World}{A:Around}{E:Value->Shared->Prop}{s:Shared}
theorem Ds{o:Obj}{t:bC}{ks:List Int}{Q:Value->Shared->Prop}(v:A.handled=none)(B:s.heap.get? S=some o)(q:o.cls=.type "set")(u:o.data=.set es ep t)(hf:t.fits es.size=true)(n:es.size<64)(p:kE t)(z:w.params.followText "set-order"=false->t.led=true)
  (x:bZ (es.toList.map (·.2)) ks)(nd:ks.Nodup)
  (h:∀(a:List Int)(vs:List Value)(s':Shared)(l:Addr)(c:Nat),a.Perm ks->bZ vs a->(∀b o,s.heap.get? b=some o->s'.heap.get? b=some o)->s'.gens=s.gens->s'.os=s.os->s.heap.objs.size<=l->s'.heap.get? l=some (seqObj "list" (gK (ltI a) vs).toArray c)->Q (.ref l) s'):
  wpAny (model prog w) A (call (.builtin "sorted") [.ref S]) Q E s:=by
 refine mq kind_sorted plain_sorted entry_sorted (args_sorted1 _) ?_;unfold Builtin.«sorted»;refine af (m:=checkCount "sorted" 1 1 _) (aj (af (Cc (by simp[v]) B q u hf (gf n (by decide)) p z fun vs s' hp H D F G=>af (pv ?_ ?_))))
 ·obtain⟨a,j,f⟩:=HD hp x;have y:vs.length=a.length:=f.length;have C:vs.length<64:=by have :=hp.length_eq;simp at this;lia
  have d:(s'.heap.push (seqObj "list" vs.toArray 0)).get? s'.heap.objs.size=some (seqObj "list" vs.toArray 0):=ay _ rfl;have I:a.Nodup:=j.nodup_iff.mpr nd;show wpAny _ _ _ _ _ {s' with heap:=s'.heap.push (seqObj "list" vs.toArray 0)};refine af (bQ (cF Im ⟨_,d,rfl⟩ EA (EN (lt:=ltI a) (h0:=s'.heap) (by rw[y];exact totI I) d (fun b o e=>⟨ag _ e,aK (aw e)⟩) C (fun k=>Ih f k) ⟨_,rfl,?_⟩) (args_list_sort _)));refine aj ⟨_,rfl,?_⟩;obtain⟨c,r⟩:=sortedHeap_at (out:=(gK (ltI a) vs).toArray) d;refine h a vs _ _ c j f (fun b o e=>?_) D F (jx G) r;have g:=H b o e;have i:=aw g;show(sortedHeap (s'.heap.push (seqObj "list" vs.toArray 0)) s'.heap.objs.size vs (gK (ltI a) vs).toArray).get? b=some o;rw[sortedHeap_old (aK i) (by rw[Io];exact bL i)];exact ag _ g
 ·have :=hp.length_eq;simp at this;exact aP (by lia:vs.length<=64) (by decide)
end
theorem zR(ks:List Key):(met ks).Nodup:=by
 unfold met;have g:∀(l d:List Key),d.Nodup->(l.foldl more d).Nodup:=by
  intro l
  induction l with
  |nil=>exact fun _ h=>h
  |cons k l ih=>
   intro d h;refine ih _ ?_;unfold more;split;·exact h
   ·rename_i c;refine fk.mpr ⟨h,by simp,fun a f b e=>?_⟩;rw[bg]at e;subst e;intro z;subst z;exact c (jO.mpr f)
 exact g ks [] jk
theorem yc{c:Type}[DecidableEq c]:∀{m l:List c},m.Nodup->(∀x∈m,x∈l)->l.length=m.length->l.Perm m
 | [],l,_,_,h=>by rw[pA]at h;rw[List.eq_nil_of_length_eq_zero h]
 |a::m,l,nd,hs,h=>by have d:a∈l:=hs a aL;have p:=qC d;rw[bP]at nd;have e:=p.length_eq;rw[bG]at e h;have q:=yc (m:=m) (l:=l.erase a) nd.2 (fun x b=>(qD (fun z:x=a=>nd.1 (by rw[<-z];exact b))).mpr (hs x (aJ _ b))) (by lia);exact p.trans (q.cons a)
section
variable {prog:Program}{w:World}
theorem FC{k:Int}{v:Value}(h:(cw prog w).is (.inl k) v=true):∃t,v=.int k t:=by rw[DO]at h;exact Value.isInt_shape (k:=k) (v:=v) h
theorem uT{l:List (Int×Value)}(h:ElemsOf (cw prog w) l)(hi:∀e∈l,∀k,(cw prog w).is k e.2=true->∃n:Int,k=.inl n):∃a:List Int,bZ (l.map (·.2)) a:=by
 induction l with
 |nil=>exact⟨[],.nil⟩
 |cons e l ih=>obtain⟨a,r⟩:=ih h.tail fun c f=>hi c (aJ _ f);obtain⟨⟨k,b,_⟩,_⟩:=h.head;obtain⟨n,rfl⟩:=hi e aL k b;obtain⟨t,d⟩:=FC b;refine⟨n::a,?_⟩;rw[bR,d];exact .cons n t r
theorem K5:∀{vs:List Value}{a:List Int},bZ vs a->∀n,n∈a↔∃v∈vs,(cw prog w).is (.inl n) v=true:=by
 intro vs a r
 induction r with
 |nil=>simp
 |cons k t r ih=>
  intro n;rw[aH,ih n];constructor
  ·rintro(rfl|⟨v,hv,e⟩);·exact⟨_,aL,ny _ _ _ _⟩
   ·exact⟨v,aJ _ hv,e⟩
  ·rintro⟨v,hv,e⟩;rcases aH.mp hv with rfl|hv;·obtain⟨c,b⟩:=FC e;cases b;exact .inl rfl
   ·exact .inr ⟨v,hv,e⟩
theorem GW(x:rZ (cw prog w) h a (has (met (ns.map .inl))) (met (ns.map .inl)).length led):
  ∃o es ep t b,h.get? a=some o/\o.cls=.type "set"/\o.data=.set es ep t/\t.fits es.size=true/\es.size<=ns.length/\kE t/\t.led=led/\bZ (es.toList.map (·.2)) b/\b.Nodup/\∀n,n∈b↔n∈ns:=by
 obtain⟨o,es,ep,t,B,g,q,u,i,D,hf,f,m,l⟩:=x;have y:=DP (ns.map (dX:Int->Key));rw[ai]at y;have inl:∀e∈es.toList,∀k,(cw prog w).is k e.2=true->∃n:Int,n∈ns/\k=.inl n:=fun e c k d=>by have :=kO.mp (jO.mp ((i k).mpr ⟨e,c,d⟩));obtain⟨n,f,rfl⟩:=aF.mp this;exact⟨n,f,rfl⟩
 obtain⟨b,r⟩:=uT u fun e c k d=>let⟨n,_,e⟩:=inl e c k d;⟨n,e⟩;have mem:∀n,n∈b↔n∈ns:=fun n=>by
  rw[K5 (prog:=prog) (w:=w) r n];constructor;·rintro⟨v,C,e⟩;obtain⟨j,s,rfl⟩:=aF.mp C;obtain⟨E,A,z⟩:=inl j s _ e;cases z;exact A
  ·intro h;obtain⟨e,c,d⟩:=(i (.inl n)).mp (jO.mpr (kO.mpr (sr h)));exact⟨e.2,sr c,d⟩
 have len:b.length=es.size:=by have :=r.length;simp at this;lia
 have p:(b.map (dX:Int->Key)).Perm (met (ns.map .inl)):=yc (zR _) (fun x g=>by obtain⟨n,f,rfl⟩:=aF.mp (kO.mp g);exact sr ((mem n).mpr f)) (by rw[ai];lia)
 have nd:(b.map (dX:Int->Key)).Nodup:=p.nodup_iff.mpr (zR _);exact⟨o,es,ep,t,b,B,g.1,q,hf,by lia,m,l,r,(cZ.mp nd).imp fun h z=>h (congrArg _ z),mem⟩
end
end Q
namespace L2
open PySem PySem.Spec PyProof.Rows Q
section
variable {X:Cx}
theorem Inv.same{a:List (Option V)}(I:Inv X pins a H s)(e:s'.heap=s.heap)(f:s'.gens=s.gens)(i:s'.os=s.os):Inv X pins a H s':=by obtain⟨h,g,d,t,o⟩:=s;obtain⟨c,b,k,l,j⟩:=s';obtain rfl:c=h:=e;obtain rfl:b=g:=f;obtain rfl:j=o:=i;exact⟨I.ok,I.os,I.bare,I.base,I.loc,I.cell,I.free,I.freeC,I.pin,I.hok,I.len⟩
theorem qR{c:Type}[DecidableEq c]:∀{l m:List c},l.Nodup->(∀x∈l,x∈m)->l.length<=m.length
 | [],_,_,_=>aZ _
 |a::l,m,nd,h=>by rw[bP]at nd;have d:=h a aL;have p:=(qC d).length_eq;have :=qR (m:=m.erase a) nd.2 fun x b=>(qD fun z:x=a=>nd.1 (z▸b)).mpr (h x (aJ _ b));rw[bG]at p⊢;lia
def Few(ns:List Int):Prop:=ns.length<1000/\∃a:List Int,a.length<64/\∀x∈ns,x∈a
theorem Few.of(h:ns.length<64):Few ns:=⟨by lia,ns,h,fun _ h=>h⟩
def A0(K:ah)(ta:TA):TE:=fun σ H Q=>ta σ H fun vs H1=>∃(p:Addr)(ns:List Int),vs=[V.ref p]/\SqL K H1 p (ns.map V.int)/\Few ns/\
 ∀(a:List Int) l,a.Nodup->(∀x,x∈a↔x∈ns)->H1 l=none->Q (.ref l) (upd H1 l (.lst (sortI a)))
theorem Ap:fM "sorted"=some (.builtin "sorted"):=by decide+kernel
theorem HY:fM "set"=some (.type "set"):=by decide+kernel
theorem DD{a:Expr}{A:TA}{p p':Pos}(q:X.calm=true)(G:Gl X "sorted")(L:X.mg "sorted"=none)(J:Gl X "set")(M:X.mg "set"=none)(E:PA X [a] A)(O:bz [a] X.env=[(false,eval a X.env)]:=by rfl):
  PE X (.Call (.Name "sorted" p) [.Call (.Name "set" p') [a] [] pos'] [] pos) (A0 X.K A):=by
 intro a0 s σ H a7 I h;refine Call_ (k9 I G L Ap (i3 (Mi ?_) rfl rfl));refine Call_ (k9 I J M HY (dc (thn (E pos' a0 s σ H _ I h) fun us s1 ⟨vs,H1,d,r1,q1⟩=>?_) O rfl));obtain⟨pl,w,e,hq,⟨a8,mm,a9,N⟩,a4⟩:=q1;subst e;obtain⟨b3,rfl,rx⟩:=vals1 r1;cases rx;obtain⟨R,y,a3,_⟩:=d.list hq;have j:=y.length;rw[ai]at j;have r2:bM ((w.map (dX:Int->Key)).map kV) R:=by rw[bD];exact y
 refine x9 (ks:=w.map .inl) (d.ok.hd q) a3.isList (by rw[aB,ai];exact j) (fun i a5 e=>zV r2 i a5 (by simpa using e)) (by rw[aB,<-j];unfold gd;lia) fun h' tk C Y=>?_;obtain⟨o,n,ep,t,ms,v,k,F,hf,b2,D,B,r,nd,mem⟩:=GW C;have b0:n.size<64:=by have g:=r.length;simp at g;have :=qR nd fun x k=>N x ((mem x).mp k);lia
 refine aj ?_;refine Ds (s:={s1 with heap:=h',toks:=tk}) (d.ok.hd q) v k F hf (by lia) D (fun a6=>by rw[B,a6];rfl) r nd fun f vs z l c hp P Z S T U V=>?_;have m:f.Nodup:=hp.nodup_iff.mpr nd;have b1:f.length=n.size:=by have a1:=hp.length_eq;have g:=r.length;simp at g;lia
 have W:∀b o,s1.heap.get? b=some o->z.heap.get? b=some o:=fun b o e=>Z b o (Y b o (aw e) e);have K:s1.heap.objs.size<h'.objs.size:=aw v;have u:s1.heap.objs.size<=l:=aP (jx K) U;have Q:(sortI f).length<=sizeLine:=by unfold sortI;rw[ai,Kn m];exact fY (by lia)
 exact⟨.ref l,_,(d.laid (h':=z.heap) (t':=s1.toks) W u (show dU X.prog X.w _ _ _ (.lst (sortI f))from⟨Q,_,c,outI m (sx P),V⟩)).same rfl S T,rfl,a4 _ _ m (fun x=>(hp.mem_iff).trans (mem x)) (d.hok.fresh u)⟩
end
section
variable {X:Cx}
def tSortSetL(K:ah)(ta:TA):TE:=fun σ H Q=>ta σ H fun vs H1=>∃(p:Addr)(ys:List V)(ps:List (List Int))(m:Nat),vs=[V.ref p]/\SqL K H1 p ys/\ps.length<=18/\(∀k∈ps,k.length=m)/\IntKeys H1 ys ps/\
 ∀(zs:List V)(qs:List (List Int)) l,qs.Nodup->(∀x,x∈qs↔x∈ps)->IntKeys H1 zs qs->H1 l=none->Q (.ref l) (upd H1 l (.lst (cj .non qs zs)))
end
end L2
set_option maxHeartbeats 1000000
namespace Q
open PySem PySem.Spec PySem.W PyProof.Rows L2
section
variable {prog:Program}{w:World}{A:Around}{E:Value->Shared->Prop}{s:Shared}{lt:Nat->Nat->Bool}{vs:List Value}
open Classical in
end
end Q
set_option maxHeartbeats 3200000
namespace L2
open PySem PySem.Spec PyProof.Rows Q
section
variable {X:Cx}
noncomputable def sortT(ks:List Str):List V:=sortBy .non ks (ks.map V.str)
end
set_option maxHeartbeats 1000000
def rSortA(K:ah):List V->Hp->VK->Prop:=fun xs H Q=>∃p ks,xs=[V.ref p]/\SqL K H p (ks.map V.str)/\ks.length<1000/\ks.Nodup/\∀l,H l=none->Q (.ref l) (upd H l (.lst (sortT ks)))
end L2
namespace Q
open PySem PySem.Spec PySem.W PyProof.Rows L2
noncomputable abbrev Tri:=Int×Str×Str
noncomputable def t3(x y:Tri):Bool:=decide (x.1<y.1)||(decide (x.1=y.1)&&(tlt x.2.1 y.2.1||(decide (x.2.1=y.2.1)&&tlt x.2.2 y.2.2)))
def Gd(H:Hp)(ys:List V)(ps:List Tri):Prop:=Paired (fun v k=>∃a,v=V.ref a/\H a=some (.tup [.int k.1,.str k.2.1,.str k.2.2])) ys ps
def rSort3(K:ah):List V->Hp->VK->Prop:=fun xs H Q=>∃p ys ps,xs=[V.ref p]/\SqL K H p ys/\ps.length<=9000/\ps.Nodup/\Gd H ys ps/\∀l zs qs,H l=none->Gd H zs qs->qs.Perm ps->qs.Pairwise (fun a b=>t3 a b=true)->Q (.ref l) (upd H l (.lst zs))
end Q
set_option genInjectivity false
set_option genSizeOf false
namespace R
open PySem PySem.Spec PyProof.Rows L2
inductive Bf where
 |len|isinstance|all|list|tuple|set|min|int|lend|isx|sortl|minl|maxl|sortt
 deriving DecidableEq
noncomputable def Bf.name:Bf->Str
 |.len=>"len" |.isinstance=>"isinstance" |.all=>"all" |.list=>"list" |.tuple=>"tuple" |.set=>"set" |.min=>"min" |.int=>"int" |.lend=>"len" |.isx=>"isinstance" |.sortl=>"sorted" |.minl=>"min" |.maxl=>"max" |.sortt=>"sorted"
noncomputable def Bf.val:Bf->Value
 |.len=>.builtin "len" |.isinstance=>.builtin "isinstance" |.all=>.builtin "all" |.list=>.type "list" |.tuple=>.type "tuple" |.set=>.type "set" |.min=>.builtin "min" |.int=>.type "int" |.lend=>.builtin "len" |.isx=>.builtin "isinstance" |.sortl=>.builtin "sorted" |.minl=>.builtin "min" |.maxl=>.builtin "max" |.sortt=>.builtin "sorted"
theorem Bf.boot:∀b:Bf,fM b.name=some b.val
 |.len=>PySem.boot_len|.isinstance=>boot_isinstance|.all=>boot_all|.list=>xj|.tuple=>wZ
 |.set=>by decide+kernel|.min=>by decide+kernel|.int=>xQ|.lend=>PySem.boot_len|.isx=>boot_isinstance|.sortl=>by decide+kernel|.minl=>by decide+kernel|.maxl=>by decide+kernel|.sortt=>by decide+kernel
theorem Bf.plain:∀b:Bf,b.name≠"__name__"/\(b.name==("__debug__":Str))=false:=by intro b;cases b<;>exact⟨by decide+kernel,by decide+kernel⟩
inductive Ty where
 |int|bool|str|list|tuple|dict|valueError
 deriving DecidableEq
noncomputable def Ty.name:Ty->Str
 |.int=>"int" |.bool=>"bool" |.str=>"str" |.list=>"list" |.tuple=>"tuple" |.dict=>"dict" |.valueError=>"ValueError"
noncomputable def Ty.t:Ty->String
 |.int=>"int" |.bool=>"bool" |.str=>"str" |.list=>"list" |.tuple=>"tuple" |.dict=>"dict" |.valueError=>"ValueError"
theorem Ty.boot:∀b:Ty,fM b.name=some (.type b.t)
 |.int=>xQ|.bool=>PyProof.Rows.boot_bool|.str=>PyProof.Rows.boot_str|.list=>xj|.tuple=>wZ|.dict=>PyProof.Rows.boot_dict|.valueError=>by decide+kernel
theorem Ty.plain:∀b:Ty,b.name≠"__name__"/\(b.name==("__debug__":Str))=false:=by intro b;cases b<;>exact⟨by decide+kernel,by decide+kernel⟩
noncomputable def qM(K:ah):Operator->R2
 |.Add=>fun x y H Q=>(rI0 fun i j=>.int (i+j)) x y H Q\/(∃i j,x=.str i/\y=.str j/\i.length+j.length<=sizeLine/\Q (.str (i++j)) H)\/rCat x y H Q\/False
 |.Sub=>rI0 fun i j=>.int (i-j)
 |.Mult=>fun x y H Q=>(rI Ex fun i j=>.int (i*j)) x y H Q\/rRep x y H Q\/JU x y H Q
 |.Mod=>rI (fun _ j=>0<j) fun i j=>.int (i%j)
 |.FloorDiv=>rI CDiv fun i j=>.int (i/j)
 |.Pow=>rI L5 fun i j=>.int (i^j.toNat)
 |.RShift=>rI (fun _ j=>0<=j) fun i j=>.int (i/2^j.toNat)
 |.LShift=>rI L5 fun i j=>.int (i*2^j.toNat)
 |.BitAnd=>rI0 fun i j=>.int (i6 i j)
 |.BitXor=>rI0 fun i j=>.int (kM i j)
 |_=>fun _ _ _ _=>False
noncomputable def iF(K:ah):CmpOp->R2
 |.Eq=>rEqD K
 |.NotEq=>rNeD K
 |.Lt=>rI0 fun i j=>.bl (decide (i<j))
 |.LtE=>rI0 fun i j=>.bl (decide (i<=j))
 |.Gt=>rI0 fun i j=>.bl (decide (j<i))
 |.GtE=>rI0 fun i j=>.bl (decide (j<=i))
 |.Is=>fun x y H Q=>y=.non/\Q (.bl (decide (x=.non))) H
 |.IsNot=>fun x y H Q=>y=.non/\Q (.bl (!decide (x=.non))) H
 |.In=>fun x y H Q=>((∃i j,x=.str i/\y=.str j/\Q (.bl (!(iq j i 0 j.length 1).isEmpty)) H))\/rIn K false x y H Q
 |.NotIn=>fun x y H Q=>((∃i j,x=.str i/\y=.str j/\Q (.bl (!(!(iq j i 0 j.length 1).isEmpty))) H))\/rIn K true x y H Q
def rSlc(K:ah):V->Option Int->Option Int->Hp->VK->Prop:=fun x lo hi H Q=>rSlL K x lo hi H Q\/rSlS x lo hi H Q
noncomputable def rBf(K:ah):Bf->List V->Hp->VK->Prop
 |.len=>fun xs H Q=>(∃p ys,xs=[.ref p]/\(SqL K H p ys\/SqT K H p ys)/\Q (.int ys.length) H)\/(∃z:Str,xs=[.str z]/\z.length<=sizeLine/\Q (.int z.length) H)\/(∃a n,xs=[V.ref a]/\H a=some (_root_.Q.A6 a n)/\Q (.int n) H)
 |.isinstance=>fun xs H Q=>(∃x T t b,xs=[x,.ty T]/\mZ K H x t/\cP K t (.type T)=some b/\Q (.bl b) H)\/(∃x C t b,xs=[x,.ref C]/\mZ K H x t/\cP K t (.ref C)=some b/\Q (.bl b) H)
 |.all=>fun xs H Q=>∃(p:Addr)(bs:List Bool),xs=[.ref p]/\SqL K H p (bs.map V.bl)/\Q (.bl (bs.all id)) H
 |.list=>fun xs H Q=>∃p ys,xs=[.ref p]/\(SqL K H p ys\/SqT K H p ys)/\∀l,H l=none->Q (.ref l) (upd H l (.lst ys))
 |.tuple=>fun xs H Q=>∃p ys,xs=[.ref p]/\((SqL K H p ys/\∀l,H l=none->Q (.ref l) (upd H l (.tup ys)))\/(SqT K H p ys/\Q (.ref p) H))
 |.set=>Q.rSet K
 |.min=>fun xs H Q=>∃i j,xs=[.int i,.int j]/\Q (.int (if j<i then j else i)) H
 |.int=>fun xs H Q=>(∃i,xs=[.int i]/\Q (.int i) H)\/∃k,xs=[.bl k]/\Q (.int (if k then 1 else 0)) H
 |.lend=>fun xs H Q=>∃a kvs,xs=[V.ref a]/\H a=some (.dT kvs)/\Q (.int kvs.length) H
 |.sortl=>Q.JT K
 |.sortt=>Q.JS K
 |.minl=>Q.rMinL K
 |.maxl=>Q.rMaxL K
 |.isx=>fun xs H Q=>∃a C d y cv b,xs=[.ref a,y]/\H a=some (kR a (.ref C) d)/\(∀dd,d=some dd->∃fs,H dd=some (xdO dd fs))/\lK K C=true/\((∃T,y=.ty T/\cv=gR T)\/(∃D,y=.ref D/\cv=bB D))/\cP K (.ref C) cv=some b/\Q (.bl b) H
inductive Mm where
 |append|clear|reverse|pop|index|extend
 deriving DecidableEq
noncomputable def Mm.name:Mm->Str
 |.append=>"append" |.clear=>"clear" |.reverse=>"reverse" |.pop=>"pop" |.index=>"index" |.extend=>"extend"
noncomputable def Mm.id:Mm->String
 |.append=>"list.append" |.clear=>"list.clear" |.reverse=>"list.reverse" |.pop=>"list.pop" |.index=>"list.index" |.extend=>"list.extend"
noncomputable def rMm:Mm->V->List V->Hp->VK->Prop
 |.append=>E4
 |.clear=>JX
 |.reverse=>Be
 |.pop=>fun x xs H Q=>False\/JV x xs H Q
 |.index=>fun _ _ _ _=>False
 |.extend=>E3
noncomputable def baseOk:Expr->Bool
 |.Name .. =>true|.Subscript .. =>true
 |.Call f _ _ _=>match f with
  |.Attribute .. =>true
  |_=>false
 |_=>false
mutual
inductive CE where
 |var (i:Nat)
 |con (c:Const)
 |glo (x:Str)
 |ty (t:Ty)
 |bin (op:Operator) (a b:CE)
 |cmp (op:CmpOp) (a b:CE)
 |chain (op op':CmpOp) (a b c:CE)
 |not (a:CE)
 |and (a b:CE)
 |or (a b:CE)
 |ite (c a b:CE)
 |idx (a i:CE)
 |cut (a:CE) (lo hi:CO)
 |tup (es:CL)
 |lst (es:CL)
 |call (f:Str) (es:CL)
 |bfn (b:Bf) (es:CL)
 |meth0 (m:Mm) (o:CE)
 |meth1 (m:Mm) (o a:CE)
 |idxd (a i:CE)
 |dicT
 |setd (o a b:CE)
 |base (x:Str) (es:CL)
 |fld (a:CE) (f:Str)
 |sortset (a:CE)
 |comp (own:List Str) (fr:List Nat) (tg:CG) (it:CI) (cond:CO) (elt:CE)
inductive CL where
 |nil
 |cons (e:CE) (es:CL)
inductive CP where
 |nil
 |cons (k v:CE) (r:CP)
inductive CO where
 |no
 |yes (e:CE)
inductive CG where
 |name (i:Nat)
 |tup (gs:CGs)
inductive CGs where
 |nil
 |cons (g:CG) (gs:CGs)
inductive CI where
 |seq (e:CE)
 |lseq (e:CE)
 |range1 (e:CE)
 |range2 (a b:CE)
 |enum (e:CE)
 |enumt (e:CE)
end
noncomputable def CL.len:CL->Nat
 |.nil=>0
 |.cons _ r=>r.len+1
noncomputable def CGs.len:CGs->Nat
 |.nil=>0
 |.cons _ r=>r.len+1
mutual
inductive CS where
 |asg (g:CG) (e:CE)
 |asgc (i:Nat) (e:CE)
 |expr (e:CE)
 |iff (c:CE) (a b:CB)
 |whl (c:CE) (b:CB)
 |forr (g:CG) (it:CI) (b:CB)
 |ret (e:CE)
 |retN
 |pass|brk|cont
 |raisX (x:Str) (es:CL)
 |fldX (o:CE) (f:Str) (e:CE)
 |tryc (x:Str) (i:Nat) (b su:CB)
inductive CB where
 |nil
 |hole
 |cons (s:CS) (r:CB)
end
noncomputable def BQ(sc:Scope)(x:Str):Bool:=sc.names.lookup x==some .local||sc.names.lookup x==some .cell||sc.names.lookup x==some .free
noncomputable def kC(sc:Scope)(x:Str):Bool:=sc.names.lookup x==some .globalImplicit
noncomputable def tJ(x:Str):Bool:=(x==("__debug__":Str))==false&&(x==("__classdict__":Str))==false
noncomputable def okCon:Const->Bool
 |.none=>true|.bool _=>true|.int _=>true|.str _=>true|_=>false
noncomputable def cv:Const->V
 |.none=>.non|.bool b=>.bl b|.int i=>.int i|.str x=>.str x|_=>.non
noncomputable def namesOf(N own:List Str)(fr:List Nat):List Str:=own++fr.map fun j=>N.getD j ""
noncomputable def oF(own:List Str)(fr:List Nat)(σ:L2.St):L2.St:=own.map (fun _=>none)++fr.map fun j=>(σ[j]?).getD none
noncomputable def zW:Expr->Bool
 |.Slice .. =>true
 |_=>false
noncomputable def isSet:Expr->Bool
 |.Set .. =>true
 |_=>false
noncomputable def wb:Expr->Bool
 |.ListComp .. =>true|.SetComp .. =>true|.DictComp .. =>true
 |_=>false
noncomputable def qk:Expr->Bool
 |.Tuple .. =>true
 |_=>false
noncomputable def zL(sc sc':Scope)(N own:List Str)(fr:List Nat):Bool:=
 decide (sc'.kind=.function)&&sc'.names.all (fun y=>decide (y.2=.cell->sc'.names.lookup y.1=some .cell))&&sc'.names.all (fun y=>decide (y.2=.local->sc'.names.lookup y.1=some .local))&&
 sc'.names.all (fun y=>decide (y.2=.free->sc.names.lookup y.1=some .cell\/sc.names.lookup y.1=some .free))&&decide ((namesOf N own fr).Nodup)&&
 fr.all (fun j=>decide (j<N.length)&&sc'.names.lookup (N.getD j "")==some .free)&&own.all (fun x=>sc'.names.lookup x==some .local||sc'.names.lookup x==some .cell)
theorem cW{P:Prop}(h:false=true):P:=(ao h).elim
theorem Ku{P:Prop}(h:true=false):P:=(ao h.symm).elim
theorem an{a b:Bool}(h:(a&&b)=true):a=true/\b=true:=by rwa [aE]at h
theorem qP{a:Bool}(h:(!a)=true):a=false:=by simpa using h
theorem iA{a b c:Bool}(h:(a&&b&&c)=true):a=true/\b=true/\c=true:=let⟨h,z⟩:=an h;let⟨x,y⟩:=an h;⟨x,y,z⟩
theorem mh{a b c d:Bool}(h:(a&&b&&c&&d)=true):a=true/\b=true/\c=true/\d=true:=let⟨h,z⟩:=an h;let⟨x,y,w⟩:=iA h;⟨x,y,w,z⟩
theorem and5{a b c d e:Bool}(h:(a&&b&&c&&d&&e)=true):a=true/\b=true/\c=true/\d=true/\e=true:=let⟨h,z⟩:=an h;let⟨x,y,w,v⟩:=mh h;⟨x,y,w,v,z⟩
section
variable {e:Expr}{s:Stmt}
noncomputable def l1{α:Type}(l:List α)(f:α->Bool):Bool:=match l with
 |a::r=>r.isEmpty&&f a
 | []=>false
theorem kQ{b:Type}{l:List b}{f:b->Bool}(h:l1 l f=true):∃a,l=[a]/\f a=true:=by
 cases l with
 |nil=>exact cW h
 |cons a r=>
  obtain⟨c,h⟩:=an h;cases r with
  |nil=>exact⟨a,rfl,h⟩
  |cons=>exact cW c
noncomputable def l2{α:Type}(l:List α)(f:α->α->Bool):Bool:=match l with
 |a::r=>l1 r (f a)
 | []=>false
theorem yn{c:Type}{l:List c}{f:c->c->Bool}(h:l2 l f=true):∃a b,l=[a,b]/\f a b=true:=by
 cases l with
 |nil=>exact cW h
 |cons a r=>obtain⟨b,rfl,h⟩:=kQ h;exact⟨a,b,rfl,h⟩
noncomputable def dNm(e:Expr)(f:Str->Pos->Bool):Bool:=match e with
 |.Name x p=>f x p
 |_=>false
theorem gP{f}(h:dNm e f=true):∃x p,e=.Name x p/\f x p=true:=by cases e<;>first |exact⟨_,_,rfl,h⟩ |exact cW h
noncomputable def dCn(e:Expr)(f:Const->Bool):Bool:=match e with
 |.Constant c _ _=>f c
 |_=>false
theorem LD{f}(h:dCn e f=true):∃c j p,e=.Constant c j p/\f c=true:=by cases e<;>first |exact⟨_,_,_,rfl,h⟩ |exact cW h
noncomputable def dBi(e:Expr)(f:Expr->Operator->Expr->Bool):Bool:=match e with
 |.BinOp a op b _=>f a op b
 |_=>false
theorem dBi_of{f}(h:dBi e f=true):∃a c b p,e=.BinOp a c b p/\f a c b=true:=by cases e<;>first |exact⟨_,_,_,_,rfl,h⟩ |exact cW h
noncomputable def dUn(e:Expr)(f:UnaryOp->Expr->Bool):Bool:=match e with
 |.UnaryOp op a _=>f op a
 |_=>false
theorem Lz{f}(h:dUn e f=true):∃b a p,e=.UnaryOp b a p/\f b a=true:=by cases e<;>first |exact⟨_,_,_,rfl,h⟩ |exact cW h
noncomputable def dCm(e:Expr)(f:Expr->List CmpOp->List Expr->Bool):Bool:=match e with
 |.Compare a os es _=>f a os es
 |_=>false
theorem Eg{f}(h:dCm e f=true):∃a os es p,e=.Compare a os es p/\f a os es=true:=by cases e<;>first |exact⟨_,_,_,_,rfl,h⟩ |exact cW h
noncomputable def dC1(e:Expr)(f:Expr->CmpOp->Expr->Bool):Bool:=dCm e fun a os es=>l1 os fun c=>l1 es fun b=> !isSet b&&f a c b
theorem LG{f}(h:dC1 e f=true):∃a c b p,e=.Compare a [c] [b] p/\isSet b=false/\f a c b=true:=by obtain⟨a,i,g,p,rfl,k⟩:=Eg h;obtain⟨c,rfl,l⟩:=kQ k;obtain⟨b,rfl,m⟩:=kQ l;obtain⟨d,n⟩:=an m;exact⟨a,c,b,p,rfl,qP d,n⟩
noncomputable def dBo(e:Expr)(f:BoolOp->Expr->Expr->Bool):Bool:=match e with
 |.BoolOp op es p=>match es with
  |a::r=>match r with
   |b::r=>match r with
    | []=>f op a b
    |c::r=>f op a (.BoolOp op (b::c::r) p)
   | []=>false
  | []=>false
 |_=>false
theorem qr{f}(h:dBo e f=true):∃d a x p,f d a x=true/\(e=.BoolOp d [a,x] p\/∃b c r,x=.BoolOp d (b::c::r) p/\e=.BoolOp d (a::b::c::r) p):=by
 cases e<;>first |exact cW h|skip
 rename_i d es p;cases es with
 |nil=>exact cW h
 |cons a r=>cases r with
  |nil=>exact cW h
  |cons b r=>cases r with
   |nil=>exact⟨d,a,b,p,h,.inl rfl⟩
   |cons c r=>exact⟨d,a,_,p,h,.inr ⟨b,c,r,rfl,rfl⟩⟩
noncomputable def dIf(e:Expr)(f:Expr->Expr->Expr->Bool):Bool:=match e with
 |.IfExp c a b _=>f c a b
 |_=>false
theorem dIf_of{f}(h:dIf e f=true):∃c a b p,e=.IfExp c a b p/\f c a b=true:=by cases e<;>first |exact⟨_,_,_,_,rfl,h⟩ |exact cW h
noncomputable def dSu(e:Expr)(f:Expr->Expr->Bool):Bool:=match e with
 |.Subscript a i _=>f a i
 |_=>false
theorem Ae{f}(h:dSu e f=true):∃a i p,e=.Subscript a i p/\f a i=true:=by cases e<;>first |exact⟨_,_,_,rfl,h⟩ |exact cW h
noncomputable def dSl(e:Expr)(f:Option Expr->Option Expr->Option Expr->Bool):Bool:=match e with
 |.Slice a b c _=>f a b c
 |_=>false
theorem dSl_of{f}(h:dSl e f=true):∃a b c p,e=.Slice a b c p/\f a b c=true:=by cases e<;>first |exact⟨_,_,_,_,rfl,h⟩ |exact cW h
noncomputable def dTu(e:Expr)(f:List Expr->Bool):Bool:=match e with
 |.Tuple es _ _=>f es
 |_=>false
theorem Ee{f}(h:dTu e f=true):∃es k p,e=.Tuple es k p/\f es=true:=by cases e<;>first |exact⟨_,_,_,rfl,h⟩ |exact cW h
noncomputable def dLi(e:Expr)(f:List Expr->Bool):Bool:=match e with
 |.List es _=>f es
 |_=>false
theorem dLi_of{f}(h:dLi e f=true):∃es p,e=.List es p/\f es=true:=by cases e<;>first |exact⟨_,_,rfl,h⟩ |exact cW h
noncomputable def dDi(e:Expr)(f:List (Option Expr)->List Expr->Bool):Bool:=match e with
 |.Dict ks vs _=>f ks vs
 |_=>false
theorem dDi_of{f}(h:dDi e f=true):∃ks vs p,e=.Dict ks vs p/\f ks vs=true:=by cases e<;>first |exact⟨_,_,_,rfl,h⟩ |exact cW h
noncomputable def dCa(e:Expr)(f:Expr->List Expr->Pos->Bool):Bool:=match e with
 |.Call g es ks p=>ks.isEmpty&&f g es p
 |_=>false
theorem LF{f}(h:dCa e f=true):∃g es p,e=.Call g es [] p/\f g es p=true:=by
 cases e<;>first |exact cW h|skip
 rename_i g es ks p;obtain⟨a,h⟩:=an h;cases ks with
 |nil=>exact⟨g,es,p,rfl,h⟩
 |cons=>exact cW a
noncomputable def dFn(e:Expr)(f:Str->List Expr->Bool):Bool:=dCa e fun g es _=>dNm g fun x _=>f x es
theorem jb{f}(h:dFn e f=true):∃x np es p,e=.Call (.Name x np) es [] p/\f x es=true:=by obtain⟨g,es,p,rfl,k⟩:=LF h;obtain⟨x,np,rfl,l⟩:=gP k;exact⟨x,np,es,p,rfl,l⟩
noncomputable def dAt(e:Expr)(f:Expr->Str->Pos->Bool):Bool:=match e with
 |.Attribute a x p=>f a x p
 |_=>false
theorem Ag{f}(h:dAt e f=true):∃a x p,e=.Attribute a x p/\f a x p=true:=by cases e<;>first |exact⟨_,_,_,rfl,h⟩ |exact cW h
noncomputable def dMt(m:Str)(e:Expr)(f:Expr->List Expr->Bool):Bool:=dCa e fun g es b=>dAt g fun o c a=>decide (m=c)&&(a.endLine==b.line)&&f o es
theorem Af{m:Str}{f}(h:dMt m e f=true):∃o a es b,e=.Call (.Attribute o m a) es [] b/\(a.endLine==b.line)=true/\f o es=true:=by obtain⟨g,es,b,rfl,k⟩:=LF h;obtain⟨o,i,a,rfl,l⟩:=Ag k;obtain⟨c,d,n⟩:=iA l;cases of_decide_eq_true c;exact⟨o,a,es,b,rfl,d,n⟩
noncomputable def dLc(e:Expr)(f:Expr->List Comprehension->Scope->Pos->Bool):Bool:=match e with
 |.ListComp a gs sc p=>f a gs sc p
 |_=>false
theorem Ef{f}(h:dLc e f=true):∃a b sc p,e=.ListComp a b sc p/\f a b sc p=true:=by cases e<;>first |exact⟨_,_,_,_,rfl,h⟩ |exact cW h
noncomputable def dJs(e:Expr)(f:List Expr->Bool):Bool:=match e with
 |.JoinedStr es _=>f es
 |_=>false
noncomputable def dFv(e:Expr)(f:Expr->Int->Option Expr->Bool):Bool:=match e with
 |.FormattedValue a c s _=>f a c s
 |_=>false
noncomputable def dAs(s:Stmt)(f:Expr->Expr->Pos->Bool):Bool:=match s with
 |.Assign ts e p=>l1 ts fun g=>f g e p
 |_=>false
theorem Ah{f}(h:dAs s f=true):∃g e p,s=.Assign [g] e p/\f g e p=true:=by
 cases s<;>first |exact cW h|skip
 obtain⟨g,rfl,h⟩:=kQ h;exact⟨g,_,_,rfl,h⟩
noncomputable def dEx(s:Stmt)(f:Expr->Bool):Bool:=match s with
 |.Expr e _=>f e
 |_=>false
theorem dEx_of{f}(h:dEx s f=true):∃e p,s=.Expr e p/\f e=true:=by cases s<;>first |exact⟨_,_,rfl,h⟩ |exact cW h
noncomputable def dIs(s:Stmt)(f:Expr->List Stmt->List Stmt->Bool):Bool:=match s with
 |.If c a b _=>f c a b
 |_=>false
theorem LC{f}(h:dIs s f=true):∃c a b p,s=.If c a b p/\f c a b=true:=by cases s<;>first |exact⟨_,_,_,_,rfl,h⟩ |exact cW h
noncomputable def dWh(s:Stmt)(f:Expr->List Stmt->Bool):Bool:=match s with
 |.While c a b _=>b.isEmpty&&f c a
 |_=>false
theorem dWh_of{f}(h:dWh s f=true):∃c a p,s=.While c a [] p/\f c a=true:=by
 cases s<;>first |exact cW h|skip
 rename_i c a b p;obtain⟨d,h⟩:=an h;cases b with
 |nil=>exact⟨c,a,p,rfl,h⟩
 |cons=>exact cW d
noncomputable def dFo(s:Stmt)(f:Expr->Expr->List Stmt->Bool):Bool:=match s with
 |.For g i a b _=>b.isEmpty&&f g i a
 |_=>false
theorem dFo_of{f}(h:dFo s f=true):∃g i a p,s=.For g i a [] p/\f g i a=true:=by
 cases s<;>first |exact cW h|skip
 rename_i g i a b p;obtain⟨c,h⟩:=an h;cases b with
 |nil=>exact⟨g,i,a,p,rfl,h⟩
 |cons=>exact cW c
noncomputable def dRt(s:Stmt)(f:Option Expr->Bool):Bool:=match s with
 |.Return e _=>f e
 |_=>false
theorem LA{f}(h:dRt s f=true):∃e p,s=.Return e p/\f e=true:=by cases s<;>first |exact⟨_,_,rfl,h⟩ |exact cW h
noncomputable def dRa(s:Stmt)(f:Str->List Expr->Bool):Bool:=match s with
 |.Raise e c _=>match e with
  |some e=>c.isNone&&dFn e f
  |none=>false
 |_=>false
theorem dRa_of{f}(h:dRa s f=true):∃x np es a p,s=.Raise (some (.Call (.Name x np) es [] a)) none p/\f x es=true:=by
 cases s<;>first |exact cW h|skip
 rename_i e c p;cases e with
 |none=>exact cW h
 |some e=>
  obtain⟨b,k⟩:=an h;obtain⟨x,np,es,a,rfl,l⟩:=jb k;cases c with
  |none=>exact⟨x,np,es,a,p,rfl,l⟩
  |some=>exact cW b
noncomputable def dTr(s:Stmt)(f:List Stmt->Str->Str->List Stmt->Bool):Bool:=match s with
 |.Try b hs o r _=>o.isEmpty&&r.isEmpty&&l1 hs fun h=>match h with
  |.ExceptHandler t n ss _=>match t with
   |some t=>match n with
    |some n=>dNm t fun x _=>f b x n ss
    |none=>false
   |none=>false
 |_=>false
theorem dTr_of{f}(h:dTr s f=true):∃b x np n a hp p,s=.Try b [.ExceptHandler (some (.Name x np)) (some n) a hp] [] [] p/\f b x n a=true:=by
 cases s<;>first |exact cW h|skip
 rename_i b hs o r p;obtain⟨c,d,k⟩:=iA h;obtain⟨⟨t,n,a,hp⟩,rfl,l⟩:=kQ k;cases o with
 |cons=>exact cW c
 |nil=>cases r with
  |cons=>exact cW d
  |nil=>cases t with
   |none=>exact cW l
   |some t=>cases n with
    |none=>exact cW l
    |some n=>obtain⟨x,np,rfl,m⟩:=gP l;exact⟨b,x,np,n,a,hp,p,rfl,m⟩
end
noncomputable def u1{α:Type}(l:List α)(f:α->List α->Bool):Bool:=match l with
 |a::r=>f a r
 | []=>false
theorem xT{b:Type}{l:List b}{f:b->List b->Bool}(h:u1 l f=true):∃a r,l=a::r/\f a r=true:=by
 cases l with
 |nil=>exact cW h
 |cons a r=>exact⟨a,r,rfl,h⟩
noncomputable def om{α:Type}(o:Option α)(f:α->Bool):Bool:=match o with
 |some x=>f x
 |none=>false
theorem Ko{a:Type}{o:Option a}{f:a->Bool}(h:om o f=true):∃x,o=some x/\f x=true:=by
 cases o with
 |none=>exact cW h
 |some x=>exact⟨x,rfl,h⟩
theorem nil_of{a:Type}{l:List a}(h:l.isEmpty=true):l=[]:=List.isEmpty_iff.mp h
noncomputable def dFF(f g:Str)(sc:Scope)(e:Expr)(k:Expr->Bool):Bool:=dFn e fun b es=>l1 es fun x=>dFn x fun c es=>l1 es fun a=>decide (b=f)&&decide (c=g)&&kC sc f&&kC sc g&&k a
theorem dFF_of{f g:Str}{k}(h:dFF f g sc e k=true):∃p a q r t,e=.Call (.Name f p) [.Call (.Name g q) [a] [] r] [] t/\kC sc f=true/\kC sc g=true/\k a=true:=by obtain⟨_,p,_,t,rfl,i⟩:=jb h;obtain⟨x,rfl,j⟩:=kQ i;obtain⟨_,q,_,r,rfl,l⟩:=jb j;obtain⟨a,rfl,m⟩:=kQ l;obtain⟨b,c,d,o,n⟩:=and5 m;cases of_decide_eq_true b;cases of_decide_eq_true c;exact⟨p,a,q,r,t,rfl,d,o,n⟩
noncomputable def isM1(e:Expr):Bool:=dUn e fun a c=>decide (a=.USub)&&dCn c fun k=>decide (k=.int 1)
noncomputable def mBase(e:Expr):Bool:=(dNm e fun _ _=>true)||(dFn e fun _ es=> !es.isEmpty)
mutual
noncomputable def dA(sc:Scope)(N:List Str):CE->Expr->Bool
 |.var i,e=>dNm e fun x _=>N[i]? ==some x&&BQ sc x&&tJ x
 |.con c,e=>dCn e fun c'=>okCon c&&decide (c=c')
 |.glo x,e=>dNm e fun y _=>decide (x=y)&&kC sc x&&tJ x
 |.ty t,e=>dNm e fun y _=>decide (t.name=y)&&kC sc y
 |.bin j a b,e=>dBi e fun d w h=>decide (j=w)&&dA sc N a d&&dA sc N b h
 |.cmp j a b,e=>dC1 e fun d w h=>decide (j=w)&&dA sc N a d&&dA sc N b h
 |.chain o1 o2 a b c,e=>dCm e fun d os es=>l2 os fun p q=>l2 es fun h c'=>decide (o1=p)&&decide (o2=q)&& !isSet c'&&(dA sc N a d&&dA sc N b h&&dA sc N c c')
 |.not a,e=>dUn e fun j d=>decide (j=.Not)&&dA sc N a d
 |.and a b,e=>dBo e fun j d x=>decide (j=.And)&&dA sc N a d&&dA sc N b x
 |.or a b,e=>dBo e fun j d x=>decide (j=.Or)&&dA sc N a d&&dA sc N b x
 |.ite c a b,e=>dIf e fun c' d h=>dA sc N c c'&&dA sc N a d&&dA sc N b h
 |.idx a i,e=>dSu e fun d r=> !zW r&&dA sc N a d&&dA sc N i r
 |.cut a lo hi,e=>dSu e fun d s=>dSl s fun l u t=>t.isNone&&dA sc N a d&&(chkO sc N lo l&&chkO sc N hi u)
 |.tup es,e=>dTu e fun es'=>mG sc N es es'
 |.lst es,e=>dLi e fun es'=>mG sc N es es'
 |.call f es,e=>dFn e fun k es'=>decide (f=k)&&kC sc f&&tJ f&&mG sc N es es'
 |.bfn b es,e=>dFn e fun k es'=>decide (b.name=k)&&kC sc k&& !es'.isEmpty&&mG sc N es es'
 |.meth0 m o,e=>dMt m.name e fun o' es=>es.isEmpty&&baseOk o'&&dA sc N o o'
 |.meth1 m o a,e=>dMt m.name e fun o' es=>l1 es fun d=>baseOk o'&&dA sc N o o'&&dA sc N a d
 |.idxd a i,e=>dSu e fun d r=> !zW r&&dA sc N a d&&dA sc N i r
 |.dicT,e=>dDi e fun ks vs=>ks.isEmpty&&vs.isEmpty
 |.setd o a b,e=>dMt (bf "setdefault") e fun o' es=>l2 es fun d h=>baseOk o'&&dA sc N o o'&&(dA sc N a d&&dA sc N b h)
 |.base x es,e=>dMt (bf "__init__") e fun o es'=>dNm o fun B _=>decide (x=B)&&kC sc x&&tJ x&&(decide (es.len<29)&& !es'.isEmpty&&mG sc N es es')
 |.fld a f,e=>dAt e fun v k _=>dNm v fun n np=>decide (f=k)&&dA sc N a (.Name n np)
 |.sortset a,e=>dFF "sorted" "set" sc e (dA sc N a)
 |.comp own fr tg it cond elt,e=>dLc e fun z A sc' _=>l1 A fun g=>decide (g.is_async=0)&&zL sc sc' N own fr&& !isSet g.iter&&(chkI sc N it g.iter g.target&&wI sc' (namesOf N own fr) false tg g.target&&chkC sc' (namesOf N own fr) cond g.ifs&&dA sc' (namesOf N own fr) elt z)
noncomputable def mG(sc:Scope)(N:List Str):CL->List Expr->Bool
 |.nil,es=>es.isEmpty
 |.cons e r,es=>u1 es fun a b=>dA sc N e a&&mG sc N r b
noncomputable def chkP(sc:Scope)(N:List Str):CP->List (Option Expr)->List Expr->Bool
 |.nil,ks,vs=>ks.isEmpty&&vs.isEmpty
 |.cons k v r,ks,vs=>u1 ks fun a b=>u1 vs fun c d=>om a fun a=>dA sc N k a&&dA sc N v c&&chkP sc N r b d
noncomputable def chkO(sc:Scope)(N:List Str):CO->Option Expr->Bool
 |.no,o=>o.isNone
 |.yes e,o=>om o (dA sc N e)
noncomputable def chkC(sc:Scope)(N:List Str):CO->List Expr->Bool
 |.no,o=>o.isEmpty
 |.yes e,o=>l1 o (dA sc N e)
noncomputable def wI(sc:Scope)(N:List Str)(all:Bool):CG->Expr->Bool
 |.name i,e=>dNm e fun x _=>N[i]? ==some x&&(sc.names.lookup x==some .local||sc.names.lookup x==some .cell)
 |.tup gs,e=>dTu e fun es=>wH sc N all gs es
noncomputable def wH(sc:Scope)(N:List Str)(all:Bool):CGs->List Expr->Bool
 |.nil,es=>es.isEmpty
 |.cons g gs,es=>u1 es fun a es'=>wI sc N all g a&&wH sc N all gs es'
noncomputable def chkI(sc:Scope)(N:List Str):CI->Expr->Expr->Bool
 |.seq e,c,_=>dA sc N e c
 |.lseq e,c,_=>dA sc N e c
 |.range1 e,x,_=>dFn x fun f es=>l1 es fun c=>decide (f="range")&&kC sc f&&dA sc N e c
 |.range2 a b,x,_=>dFn x fun f es=>l2 es fun d g=>decide (f="range")&&kC sc f&&dA sc N a d&&dA sc N b g
 |.enum e,x,tg'=>dFn x fun f es=>l1 es fun c=>decide (f="enumerate")&&kC sc f&&dA sc N e c&&qk tg'
 |.enumt e,x,tg'=>dFn x fun f es=>l1 es fun c=>decide (f="enumerate")&&kC sc f&&dA sc N e c&&qk tg'
end
mutual
noncomputable def Fz:CE->Bool
 |.var _=>true
 |.glo _=>true
 |.ty _=>true
 |.tup es=>BL es
 |.bfn .isx es=>BL es
 |.fld a _=>Fz a
 |_=>false
noncomputable def BL:CL->Bool
 |.nil=>true
 |.cons e es=>Fz e&&BL es
end
noncomputable def Fy:CE->Bool
 |.bfn .isx es=>BL es
 |_=>false
noncomputable def liteT:CE->Bool
 |.and a b=>Fy a&&Fy b
 |c=>Fy c
mutual
noncomputable def liteS:CS->Bool
 |.asg (.name _) e=>Fz e
 |.iff c a b=>liteT c&&(BN a&&BN b)
 |_=>false
noncomputable def BN:CB->Bool
 |.nil=>true
 |.hole=>false
 |.cons s r=>liteS s&&BN r
end
noncomputable def isCe:CE->Bool
 |.comp .. =>true
 |_=>false
mutual
noncomputable def chkS(sc:Scope)(N:List Str):CS->Stmt->Bool
 |.asg g e,s=>dAs s fun k h _=>wI sc N true g k&&dA sc N e h&& !wb h&& !(qk k&&qk h)
 |.asgc i e,s=>isCe e&&dAs s fun g h _=>dNm g fun x p=>dLc h fun a b c d=>N[i]? ==some x&&(sc.names.lookup x==some .local||sc.names.lookup x==some .cell)&&dA sc N e (.ListComp a b c d)&&
   (sc.names.lookup x==some .cell||(decide (p.line=d.line)&& !(c.names.any fun y=>decide (y.1=x)&&(decide (y.2=.local)||decide (y.2=.cell)))))
 |.expr e,s=>dEx s fun h=>dA sc N e h&& !wb h
 |.iff c a b,s=>dIs s fun c' r j=>dA sc N c c'&&qw sc N a r&&qw sc N b j
 |.whl c b,s=>dWh s fun c' j=>dA sc N c c'&&qw sc N b j
 |.forr g it b,s=>dFo s fun k m j=>wI sc N true g k&&chkI sc N it m k&& !isSet m&&qw sc N b j
 |.ret e,s=>dRt s fun o=>om o (dA sc N e)
 |.retN,s=>dRt s fun o=>o.isNone
 |.raisX x es,s=>dRa s fun l es'=>decide (x=l)&&kC sc x&&tJ x&&(!es'.isEmpty&&mG sc N es es')
 |.fldX o f e,s=>dAs s fun g h _=>dAt g fun o' t _=>decide (f=t)&&dA sc N o o'&&dA sc N e h&& !wb h
 |.tryc x i b su,s=>dTr s fun j l n q=>decide (x=l)&&kC sc x&&tJ x&&(N[i]? ==some n&&sc.names.lookup n==some .local&&BN su)&&(!q.isEmpty&&qw sc N su q&&qw sc N b j)
 |.pass,s=>match s with
  |.Pass _=>true
  |_=>false
 |.brk,s=>match s with
  |.Break _=>true
  |_=>false
 |.cont,s=>match s with
  |.Continue _=>true
  |_=>false
noncomputable def qw(sc:Scope)(N:List Str):CB->List Stmt->Bool
 |.hole,_=>true
 |.nil,ss=>ss.isEmpty
 |.cons s r,ss=>u1 ss fun s' a=>chkS sc N s s'&&qw sc N r a
end
structure Gam where
 val:Str->Option V
 fn:Str->Nat->Option (Sp×List V)
 ini:Str->Nat->Option (Addr×Sp×List V)
 dic:Addr->Option (List (Key×V))
 mak:Str->Nat->Option (Addr×Sp×List V)
 mth:Str->Nat->Option (Addr×Sp×List V)
def HE(K:ah)(tl:TE):TI:=fun σ H R=>tl σ H fun x H1=>(∃a,x=.ref a/\(∃xs,SqL K H1 a xs)/\R (Itl K a) H1)\/(∃a,x=.ref a/\(∃xs,SqT K H1 a xs)/\R (Itt K a) H1)\/(∃z,x=.str z/\R (Its z) H1)
def AY(K:ah)(t:TE):TT:=fun σ H Q=>t σ H fun x H1=>∃k,TruV K x H1 k/\Q k H1
mutual
noncomputable def wpE(G:Gam)(K:ah)(E:XS):CE->TE
 |.var i=>xw i
 |.con c=>tC (cv c)
 |.glo x=>fun σ H Q=>∃v,G.val x=some v/\Q v H
 |.ty t=>tC (.ty t.t)
 |.bin op a b=>tOp (qM K op) (wpE G K E a) (wpE G K E b)
 |.cmp op a b=>tOp (iF K op) (wpE G K E a) (wpE G K E b)
 |.chain o1 o2 a b c=>vh (iF K o1) (iF K o2) (wpE G K E a) (wpE G K E b) (wpE G K E c)
 |.not a=>Jh (wpE G K E a)
 |.and a b=>Jl (wpE G K E a) (wpE G K E b)
 |.or a b=>tOrV (wpE G K E a) (wpE G K E b)
 |.ite c a b=>tIf (wpT G K E c) (wpE G K E a) (wpE G K E b)
 |.idx a i=>tOp (rIx K) (wpE G K E a) (wpE G K E i)
 |.cut a lo hi=>tSl (rSlc K) (wpE G K E a) (wpO G K E lo) (wpO G K E hi)
 |.tup es=>tTup (wpL G K E es)
 |.lst es=>tLst (wpL G K E es)
 |.call f es=>fun σ H Q=>∃sp dvs,G.fn f es.len=some (sp,dvs)/\A2 sp dvs (E σ) (wpL G K E es) σ H Q
 |.bfn b es=>tCB (rBf K b) (wpL G K E es)
 |.meth0 m o=>tBM0 K "list" (rMm m) (wpE G K E o)
 |.meth1 m o a=>tBM K "list" (rMm m) (wpE G K E o) (lD (wpE G K E a) uu)
 |.idxd a i=>tOp (rIxD K) (wpE G K E a) (wpE G K E i)
 |.dicT=>Jj
 |.setd o a b=>tBM K "dict" E2 (wpE G K E o) (lD (wpE G K E a) (lD (wpE G K E b) uu))
 |.base x es=>fun σ H Q=>∃B,G.val x=some (.ref B)/\tBase K B (wpL G K E es) σ H Q
 |.fld a f=>fun σ H Q=>wpE G K E a σ H fun x H1=>rFld K f x H1 Q
 |.sortset a=>A0 K (lD (wpE G K E a) uu)
 |.comp own fr tg it cond elt=>xW (wpI G K E it) (wpG G K N0 tg) (wpC G K N0 cond) (wpE G K N0 elt) (oF own fr)
noncomputable def wpT(G:Gam)(K:ah)(E:XS):CE->TT
 |.cmp op a b=>AZ (tOp (iF K op) (wpE G K E a) (wpE G K E b))
 |.chain o1 o2 a b c=>AZ (vh (iF K o1) (iF K o2) (wpE G K E a) (wpE G K E b) (wpE G K E c))
 |.not a=>tNot (wpT G K E a)
 |.and a b=>tAnd (wpT G K E a) (wpT G K E b)
 |.or a b=>tOr (wpT G K E a) (wpT G K E b)
 |.ite _ _ _=>fun _ _ _=>False
 |.var i=>AY K (xw i)
 |.con c=>AY K (tC (cv c))
 |.glo x=>AY K (fun σ H Q=>∃v,G.val x=some v/\Q v H)
 |.idx a i=>AY K (tOp (rIx K) (wpE G K E a) (wpE G K E i))
 |.call f es=>AY K (fun σ H Q=>∃sp dvs,G.fn f es.len=some (sp,dvs)/\A2 sp dvs (E σ) (wpL G K E es) σ H Q)
 |.bfn b es=>AY K (tCB (rBf K b) (wpL G K E es))
 |_=>fun _ _ _=>False
noncomputable def wpL(G:Gam)(K:ah)(E:XS):CL->TA
 |.nil=>uu
 |.cons e es=>lD (wpE G K E e) (wpL G K E es)
noncomputable def wpP(G:Gam)(K:ah)(E:XS):CP->List (TE×TE)
 |.nil=>[]
 |.cons k v r=>(wpE G K E k,wpE G K E v)::wpP G K E r
noncomputable def wpO(G:Gam)(K:ah)(E:XS):CO->TO
 |.no=>yY
 |.yes e=>Jg (wpE G K E e)
noncomputable def wpC(G:Gam)(K:ah)(E:XS):CO->TT
 |.no=>tYes
 |.yes e=>wpT G K E e
noncomputable def wpG(G:Gam)(K:ah)(E:XS):CG->TG
 |.name i=>nH i
 |.tup gs=>gTup K gs.len (wpGs G K E gs)
noncomputable def wpGs(G:Gam)(K:ah)(E:XS):CGs->TGs
 |.nil=>gNil
 |.cons g gs=>Li (wpG G K E g) (wpGs G K E gs)
noncomputable def wpI(G:Gam)(K:ah)(E:XS):CI->TI
 |.seq e=>HE K (wpE G K E e)
 |.lseq e=>La K (wpE G K E e)
 |.range1 e=>K9 (lD (wpE G K E e) uu)
 |.range2 a b=>K8 (lD (wpE G K E a) (lD (wpE G K E b) uu))
 |.enum e=>Lc K (wpE G K E e)
 |.enumt e=>Lb K (lD (wpE G K E e) uu)
end
mutual
noncomputable def wpS(G:Gam)(K:ah)(E:XS):CS->TS
 |.asg g e=>yZ (wpE G K E e) (wpG G K E g)
 |.asgc i e=>yZ (wpE G K E e) (nH i)
 |.expr e=>Ji (wpE G K E e)
 |.iff c a b=>tIfS (wpT G K E c) (wpB G K E a) (wpB G K E b)
 |.whl c b=>Je (wpT G K E c) (wpB G K E b)
 |.forr g it b=>tFor (wpI G K E it) (wpG G K E g) (wpB G K E b)
 |.ret e=>tRet (wpE G K E e)
 |.retN=>Jf
 |.raisX x es=>fun D σ H=>∃C sp dvs,G.ini x es.len=some (C,sp,dvs)/\JB C sp dvs E (wpL G K E es) D σ H
 |.fldX o f e=>sFldX K (wpE G K E o) (wpE G K E e) f
 |.tryc x i b su=>fun D σ H=>∃C,G.val x=some (.ref C)/\wpB G K (qp K C i (wpB G K N0 su) D) b D σ H
 |.pass=>A1
 |.brk=>Jk
 |.cont=>tCont
noncomputable def wpB(G:Gam)(K:ah)(E:XS):CB->TS
 |.nil=>A1
 |.hole=>fun _ _ _=>False
 |.cons s r=>xx (wpS G K E s) (wpB G K E r)
end
noncomputable abbrev Sat(G:Gam)(K:ah)(sp:Sp)(c:CB)(N:List Str):Prop:=∀vs H Q E,sp vs H Q E->wpB G K (fun _=>E) c {nx:=fun _ H'=>Q .non H',rt:=Q} (L2.start N vs) H
noncomputable def jr:List Str:=["len","isinstance","all","any","list","tuple","int","bool","str","dict","range","enumerate","sorted","set","min","max","ValueError","sum","zip","reversed"]
structure Ok(CX:CXT)(G:Gam)(E:XS)(sc:Scope)(N:List Str)(all:Bool)(X:Cx):Prop where
 names:X.N=N
 top:all=true->X.stack=X.env::X.outer/\X.env.frame=some X.env.locals/\X.ex=[]
 nd:N.Nodup
 loc:∀x,sc.names.lookup x=some .local->X.env.scope.names.lookup x=some .local
 cel:∀x,sc.names.lookup x=some .cell->X.env.scope.names.lookup x=some .cell
 fre:∀x,sc.names.lookup x=some .free->X.env.scope.names.lookup x=some .cell\/X.env.scope.names.lookup x=some .free
 glo:∀x,sc.names.lookup x=some .globalImplicit->X.env.scope.names.lookup x=some .globalImplicit
 all:all=true->∀x,X.fn x=true
 own:∀x,sc.names.lookup x=some .cell->X.fn x=true
 calm:X.calm=true
 hu:X.A.units+50<cLine
 val:∀x v,G.val x=some v->∃u,X.mg x=some u/\RelV v u
 fn:∀x n sp dvs,G.fn x n=some (sp,dvs)->∃f fd ps ds k,ju X.prog X.w X.K X.mg X.base CX k f fd ps sp/\jf k X.A/\X.mg x=some (.ref f)/\cL X.K (.ref f)=true/\Binds X.K fd ps ds/\bM dvs ds
 ini:∀x n C sp dvs,G.ini x n=some (C,sp,dvs)->∃f fd ps ds k,MkX X.K C f/\ju X.prog X.w X.K X.mg X.base CX k f fd ps sp/\jf (k+1) X.A/\X.mg x=some (.ref C)/\Binds X.K fd ps ds/\bM dvs ds
 dic:∀a kvs,G.dic a=some kvs->DkIn X.prog X.w X.K a kvs
 mak:∀x n C sp dvs,G.mak x n=some (C,sp,dvs)->∃f fd ps ds k,Mk X.K C f/\ju X.prog X.w X.K X.mg X.base CX k f fd ps sp/\jf (k+1) X.A/\X.mg x=some (.ref C)/\Binds X.K fd ps ds/\bM dvs ds
 mth:∀m n C sp dvs,G.mth m n=some (C,sp,dvs)->∃f fd ps ds k,Cls X.K C/\Meth X.K C m f/\ju X.prog X.w X.K X.mg X.base CX k f fd ps sp/\jf k X.A/\Binds X.K fd ps ds/\bM dvs ds
 blt:∀x∈jr,X.mg x=none
 px:PassesOwn (model X.prog X.w) X.A X.env X.xe
 pass:yS CX X E
 made:MadeS X E
 madeX:Eu X E
 cx:CX=CXx X.prog X.w
theorem Bf.mem:∀b:Bf,b.name∈jr:=by intro b;cases b<;>decide+kernel
theorem Ty.mem:∀b:Ty,b.name∈jr:=by intro b;cases b<;>decide+kernel
section
variable {CX:CXT}{G:Gam}{E:XS}{sc:Scope}{N:List Str}{all:Bool}{X:Cx}
theorem Ok.vis(o:Ok CX G E sc N all X)(h:BQ sc x=true):Vis X.env.scope x:=by
 unfold BQ at h;rw[cf,cf,beq_iff_eq,beq_iff_eq,beq_iff_eq]at h;rcases h with(h|h) |h;·exact .inl (o.loc x h)
 ·exact .inr (.inl (o.cel x h))
 ·rcases o.fre x h with q|q;·exact .inr (.inl q)
  ·exact .inr (.inr q)
theorem Ok.gl(o:Ok CX G E sc N all X)(h:kC sc x=true):Gl X x:=by unfold kC at h;rw[beq_iff_eq]at h;exact o.glo x h
theorem iU(h:tJ x=true):(x==("__debug__":Str))=false/\(x==("__classdict__":Str))=false:=by unfold tJ at h;rw[aE,beq_iff_eq,beq_iff_eq]at h;exact h
theorem rBin_ok:∀a,OpR X (fN a) (qM X.K a)
 |.Add=>op_add.or (DK.or (op_cat.or (r':=fun _ _ _ _=>False) fun _ _ _ _ _ _ _ _ _ _ _ _ h=>h.elim))
 |.Sub=>op_sub
 |.Mult=>op_mul.or (op_rep.or op_repS)
 |.Mod=>op_mod
 |.FloorDiv=>op_fdiv
 |.Pow=>op_pow
 |.RShift=>op_shr
 |.MatMult=>fun _ _ _ _ _ _ _ _ _ _ _ _ h=>h.elim
 |.Div=>fun _ _ _ _ _ _ _ _ _ _ _ _ h=>h.elim
 |.LShift=>op_shl
 |.BitOr=>fun _ _ _ _ _ _ _ _ _ _ _ _ h=>h.elim
 |.BitXor=>op_xor
 |.BitAnd=>op_and
theorem oH(b:X.A.units+50<cLine):∀a,OpR X (dq a) (iF X.K a)
 |.Eq=>op_eqD (by lia)
 |.NotEq=>op_neD (by lia)
 |.Lt=>op_lt
 |.LtE=>op_le
 |.Gt=>op_gt
 |.GtE=>op_ge
 |.Is=>op_isN
 |.IsNot=>op_notN
 |.In=>Hh.or Hi
 |.NotIn=>zJ.or zK
theorem rSlc_ok:SlR X (rSlc X.K):=sl_list.or sl_str
theorem rBf_ok(a:X.calm=true)(c:X.A.units+50<cLine):∀b,fF X (Bf.val b) (rBf X.K b)
 |.len=>An.or (Am.or Q.xM)
 |.isinstance=>tV.or rG
 |.all=>LN a
 |.list=>Al
 |.tuple=>xK
 |.set=>Q.HQ a
 |.min=>sX a
 |.int=>HV
 |.lend=>Cg
 |.sortl=>Q.Ak
 |.sortt=>Q.Aj (by lia)
 |.minl=>Q.HR a (by lia)
 |.maxl=>Q.HS a (by lia)
 |.isx=>rF
theorem Mm.slot:∀m:Mm,Slot "list" m.name m.id
 |.append=>PySem.F.slot_list_append|.clear=>PySem.F.slot_list_clear|.reverse=>PySem.F.slot_list_reverse|.pop=>PySem.F.slot_list_pop|.index=>PySem.F.slot_list_index|.extend=>PySem.F.slot_list_extend
theorem Mm.ty:∀m:Mm,typeOf (.builtin m.id)=pure (.type "method_descriptor")
 |.append=>PySem.F.type_list_append|.clear=>PySem.F.type_list_clear|.reverse=>PySem.F.type_list_reverse|.pop=>PySem.F.type_list_pop|.index=>PySem.F.type_list_index|.extend=>PySem.F.type_list_extend
theorem JW:∀m:Mm,MtR X m.id (rMm m)
 |.append=>Hs|.clear=>KA|.reverse=>DN|.pop=>MtR.or (r:=fun _ _ _ _=>False) (fun _ _ _ _ _ _ _ _ _ _ _ _ h=>h.elim) Kz|.index=>fun _ _ _ _ _ _ _ _ _ _ _ _ h=>h.elim|.extend=>Hr
theorem Ar(h:baseOk o=true)(nm:Str)(env:Env)(t:Sem Value):xi o nm env t=t:=by
 cases o<;>first
  |rfl
  |exact cW h
  | (rename_i f es ks p;cases f<;>first
   |rfl
   |exact cW h)
theorem cD{c:CE}(h:dA sc N c e=true)(a:List Expr)(env:Env):bz (e::a) env=(false,eval e env)::bz a env:=by
 cases e<;>first
  |rfl
  | (cases c<;>exact cW h)
theorem jX{c:CE}{r:CL}{e:List Expr}(h:mG sc N (.cons c r) e=true):∃b d,e=b::d/\dA sc N c b=true/\mG sc N r d=true:=
 let⟨b,d,a,k⟩:=xT h
 ⟨b,d,a,an k⟩
theorem lM{a:List Expr}(h:mG sc N .nil a=true):a=[]:=nil_of h
theorem qv:∀{l:CL}{es:List Expr},mG sc N l es=true->∀(env:Env)(pos:Pos),(backTo pos (bz es env)).any (·.1)=false
 |.nil,es,h,env,pos=>by rw[lM h];rfl
 |.cons c r,es,h,env,pos=>by obtain⟨e,d,rfl,a,b⟩:=jX h;rw[cD a];show(false||(backTo pos (bz d env)).any (·.1))=false;rw[qv b];rfl
theorem EJ{l:CL}{a:List Expr}(h:mG sc N l a=true)(g:(!a.isEmpty)=true):∃e es',a=e::es'/\∀(env:Env)(pos:Pos),bz (e::es') env=(false,eval e env)::bz es' env/\(backTo pos (bz es' env)).any (·.1)=false:=by
 cases l with
 |nil=>obtain rfl:=lM h;exact cW g
 |cons c r=>obtain⟨b,i,rfl,d,f⟩:=jX h;exact⟨b,i,rfl,fun env pos=>⟨cD d _ _,qv f _ _⟩⟩
theorem Cd:∀{l:CL}{es:List Expr},mG sc N l es=true->es.length=l.len
 |.nil,es,h=>by rw[lM h];rfl
 |.cons c r,es,h=>by obtain⟨b,e,rfl,d,a⟩:=jX h;rw[bG,Cd a,CL.len]
theorem zN(h:isSet e=false)(env:Env):∀x,jS e env x=pure x:=by
 intro x;cases e<;>first
  |rfl
  | (exact Ku h)
theorem oM(h:isSet e=false)(op:CmpOp):L8 op e=false:=by
 cases e<;>first
  |rfl
  | (exact Ku h)
theorem Bh(h:zW e=false):Ge e:=by
 intro o i;cases e<;>first
  |rfl
  | (exact Ku h)
theorem uR(h:wb e=false)(t:Option Expr)(l:Nat)(env:Env):qz e t l env=pure false:=by
 cases e<;>first
  |rfl
  | (exact Ku h)
theorem pt_tru{t:TE}(h:PE X e t)(b:∀a,isTrue e X.env a=(do let v<-a;standAt e.pos;holding [v] (truthy v))):PT X e (AY X.K t):=kb h b
theorem pi_any{l:Expr}{k:TE}(m:PE X l k):PI X tg l (HE X.K k):=by
 intro r s y H R I h;refine thn (m r s y H _ I h) fun v c ⟨x,g,d,i,q1⟩=>?_;have key:∀{A:TE}{B:TI},True:=fun{_ _}=>trivial;rcases q1 with q1|q1|q1
 ·obtain⟨a,e,⟨w,hq⟩,q⟩:=q1;subst e;cases i;obtain⟨j,u,p,n⟩:=d.list hq;refine oV p.isList ?_;refine⟨c.heap.objs.size,[c.heap.objs.size],_,_,g,rfl,d.kept (t':=c.toks) fun b o e=>ag _ e,xU a _,⟨_,ay _ rfl,rfl,rfl⟩,fun b f=>?_,q⟩;have e:b=c.heap.objs.size:=by simpa using f
  subst e;exact d.z7 (az _) (d.hok.fresh (az _))
 ·obtain⟨a,e,⟨w,hq⟩,q⟩:=q1;subst e;cases i;obtain⟨j,u,p,n⟩:=d.tuple hq;refine jv (show c.heap.IsTuple a j.toArray from p) ?_;refine⟨c.heap.objs.size,[c.heap.objs.size],_,_,g,rfl,d.kept (t':=c.toks) fun b o e=>ag _ e,Df a _,⟨_,ay _ rfl,rfl,rfl⟩,fun b f=>?_,q⟩;have e:b=c.heap.objs.size:=by simpa using f
  subst e;exact d.z7 (az _) (d.hok.fresh (az _))
 ·obtain⟨z,e,q⟩:=q1;subst e;obtain⟨t,rfl⟩:=i;refine wpAny_pyIter_strU ?_;refine⟨c.heap.objs.size,[c.heap.objs.size],_,_,g,rfl,d.kept (t':=c.toks) fun b o e=>ag _ e,IZ z _ t,⟨_,ay _ rfl,rfl,rfl⟩,fun b f=>?_,q⟩;have e:b=c.heap.objs.size:=by simpa using f
  subst e;exact d.z7 (az _) (d.hok.fresh (az _))
end
set_option maxHeartbeats 4000000
section
variable {CX:CXT}{G:Gam}
structure oS(sc sc':Scope)(N own:List Str)(fr:List Nat):Prop where
 kind:sc'.kind=.function
 cellk:∀y∈sc'.names,y.2=.cell->sc'.names.lookup y.1=some .cell
 own1:∀y∈sc'.names,y.2=.local->sc'.names.lookup y.1=some .local
 free:∀y∈sc'.names,y.2=.free->sc.names.lookup y.1=some .cell\/sc.names.lookup y.1=some .free
 nd:(namesOf N own fr).Nodup
 fr:∀j∈fr,j<N.length/\sc'.names.lookup (N.getD j "")=some .free
 own2:∀x∈own,sc'.names.lookup x=some .local\/sc'.names.lookup x=some .cell
theorem vy{own:List Str}{fr:List Nat}(h:zL sc sc' N own fr=true):oS sc sc' N own fr:=by unfold zL at h;simp only[aE,bI,decide_eq_true_eq,beq_iff_eq,cf]at h;obtain⟨⟨⟨⟨⟨⟨a,b⟩,c⟩,d⟩,e⟩,f⟩,g⟩:=h;exact⟨a,b,c,d,e,f,g⟩
theorem oS.comp{E:XS}{own:List Str}{fr:List Nat}{all:Bool}(S:oS sc sc' N own fr)(o:Ok CX G E sc N all X):oU X (namesOf N own fr) sc':=
 ⟨S.kind,S.cellk,S.own1,fun y a hf=>by
  rcases S.free y a hf with q|q;·exact .inl (o.cel _ q)
  ·exact o.fre _ q⟩
theorem oS.mkOk{E:XS}{own:List Str}{fr:List Nat}{all:Bool}(S:oS sc sc' N own fr)(o:Ok CX G E sc N all X):MkOk X (namesOf N own fr) sc' (oF own fr):=by
 intro e g;refine⟨by simp[oF,namesOf],fun i x v b a=>?_⟩;unfold oF at a;unfold namesOf at b;by_cases hi:i<own.length
 ·rw[cK (by simpa using hi),aA]at a;cases q:own[i]? with
  |none=>rw[q]at a;cases a
  |some z=>rw[q]at a;cases a
 ·rw[bT (by simpa using hi),aA,ai]at a;rw[bT (by simpa using hi),aA]at b;cases q:fr[i-own.length]? with
  |none=>rw[q]at a;cases a
  |some j=>
   rw[q]at b a;have d:N.getD j ""=x:=bj b;have c:(e[j]?).getD none=some v:=bj a;obtain⟨f,hf⟩:=S.fr j (aI q);refine⟨by rw[<-d];exact hf,j,?_,?_⟩;·rw[o.names,<-d,ae,aa f];rfl
   ·cases w:e[j]? with
    |none=>rw[w]at c;cases c
    |some z=>rw[w]at c;exact congrArg some c
noncomputable abbrev HX(CX:CXT):Prop:=∀o H s e s',CX o H s E0 e s'->False
theorem Ok.comp{E:XS}{own:List Str}{fr:List Nat}{all:Bool}(c:HX CX)(S:oS sc sc' N own fr)(o:Ok CX G E sc N all X)(C:Addr)(d:Shared)(a:Hp)(b:List Addr):
  Ok CX G N0 sc' (namesOf N own fr) false (d5 X (namesOf N own fr) sc' C d a b) where
 names:=rfl
 nd:=S.nd
 loc:=fun x h=>lookup_relabel_local (env:=X.env) h
 cel:=fun x h=>gw (env:=X.env) h (by decide)
 own:=fun x h=>cB.mpr ⟨(x,.cell),bu h,by simp⟩
 fre:=fun x h=>(gM (env:=X.env) h).symm
 glo:=fun x h=>gw (env:=X.env) h (by decide)
 all:=fun h=>absurd h (by decide)
 calm:=o.calm
 hu:=o.hu
 val:=o.val
 fn:=o.fn
 ini:=o.ini
 dic:=o.dic
 mak:=o.mak
 mth:=o.mth
 blt:=o.blt
 px:=PassesOwn.never
 pass:=fun _ _ _ _ _ _ _ h=>(c _ _ _ _ _ h).elim
 made:=fun _ _ _ _ _ _ _ _ _ _ h=>h.elim
 madeX:=fun _ _ _ _ _ _ _ _ _ h=>h.elim
 cx:=o.cx
 top:=fun h=>absurd h (by decide)
theorem qQ{all:Bool}{g:CG}(h:wI sc N all g e=true)(a:List Expr)(env:Env):iM (e::a) env=(false,assign e env)::iM a env:=by
 cases e<;>first
  |rfl
  | (cases g<;>exact cW h)
theorem wG{all:Bool}{g:CG}{r:CGs}{d:List Expr}(h:wH sc N all (.cons g r) d=true):∃b c,d=b::c/\wI sc N all g b=true/\wH sc N all r c=true:=
 let⟨b,c,a,k⟩:=xT h
 ⟨b,c,a,an k⟩
theorem yy{all:Bool}{a:List Expr}(h:wH sc N all .nil a=true):a=[]:=nil_of h
theorem tU{all:Bool}:∀{c:CGs}{es:List Expr},wH sc N all c es=true->∀env,(iM es env).length=c.len/\(iM es env).findIdx? (·.1)=none
 |.nil,es,h,env=>by rw[yy h];exact⟨rfl,rfl⟩
 |.cons g r,es,h,env=>by obtain⟨f,i,rfl,d,e⟩:=wG h;obtain⟨a,b⟩:=tU e env;rw[qQ d];refine⟨by rw[bG,a,CGs.len],?_⟩;rw[List.findIdx?_cons];simp[b]
end
section
variable {CX:CXT}{G:Gam}
noncomputable abbrev IHE(CX:CXT)(G:Gam)(c:CE):Prop:=∀(e:Expr){E:XS}{sc:Scope}{N:List Str}{all:Bool}{X:Cx},Ok CX G E sc N all X->dA sc N c e=true->PE X e (wpE G X.K E c)
noncomputable abbrev IHT(CX:CXT)(G:Gam)(c:CE):Prop:=∀(e:Expr){E:XS}{sc:Scope}{N:List Str}{all:Bool}{X:Cx},Ok CX G E sc N all X->dA sc N c e=true->PT X e (wpT G X.K E c)
noncomputable def isBo:Expr->Bool
 |.BoolOp .. =>true
 |_=>false
theorem isBo_of(h:isBo e=true):∃a es p,e=.BoolOp a es p:=by
 cases e<;>first
  |exact⟨_,_,_,rfl⟩
  |exact cW h
noncomputable abbrev IHW(CX:CXT)(G:Gam)(c:CE):Prop:=∀(e:Expr){E:XS}{sc:Scope}{N:List Str}{all:Bool}{X:Cx},Ok CX G E sc N all X->dA sc N c e=true->isBo e=true->PW X e (wpT G X.K E c)
noncomputable abbrev IHL(CX:CXT)(G:Gam)(c:CL):Prop:=∀(es:List Expr){E:XS}{sc:Scope}{N:List Str}{all:Bool}{X:Cx},Ok CX G E sc N all X->mG sc N c es=true->PA X es (wpL G X.K E c)
noncomputable abbrev IHP(CX:CXT)(G:Gam)(c:CP):Prop:=∀(ks:List (Option Expr))(vs:List Expr){E:XS}{sc:Scope}{N:List Str}{all:Bool}{X:Cx},Ok CX G E sc N all X->chkP sc N c ks vs=true->∀pos,
  PPs X pos ks vs (wpP G X.K E c)/\ks.all (·.isSome)=true/\ks.length=vs.length/\(c≠.nil->ks≠[])
noncomputable abbrev IHO(CX:CXT)(G:Gam)(c:CO):Prop:=∀(e:Option Expr){E:XS}{sc:Scope}{N:List Str}{all:Bool}{X:Cx},Ok CX G E sc N all X->chkO sc N c e=true->PO X e (wpO G X.K E c)
noncomputable abbrev IHC(CX:CXT)(G:Gam)(c:CO):Prop:=∀(es:List Expr){E:XS}{sc:Scope}{N:List Str}{all:Bool}{X:Cx},Ok CX G E sc N all X->chkC sc N c es=true->PTs X es (wpC G X.K E c)
noncomputable abbrev IHG(CX:CXT)(G:Gam)(c:CG):Prop:=∀(e:Expr){E:XS}{sc:Scope}{N:List Str}{all:Bool}{X:Cx},Ok CX G E sc N all X->wI sc N all c e=true->PG X e (wpG G X.K E c)
noncomputable abbrev LZ(CX:CXT)(G:Gam)(c:CGs):Prop:=∀(es:List Expr){E:XS}{sc:Scope}{N:List Str}{all:Bool}{X:Cx},Ok CX G E sc N all X->wH sc N all c es=true->PGs X es (wpGs G X.K E c)
noncomputable abbrev IHI(CX:CXT)(G:Gam)(c:CI):Prop:=∀(e tg:Expr){E:XS}{sc:Scope}{N:List Str}{all:Bool}{X:Cx},Ok CX G E sc N all X->chkI sc N c e tg=true->PI X tg e (wpI G X.K E c)
theorem JF:IHE CX G (.var i):=by intro e E g N all X o h;obtain⟨x,p,rfl,k⟩:=gP h;obtain⟨c,d,f⟩:=iA k;obtain⟨a,b⟩:=iU f;exact J8 (by rw[o.names];exact beq_iff_eq.mp c) (o.vis d) a b
theorem JK{c:Const}:IHE CX G (.con c):=by
  intro e E g N all X o h;obtain⟨f,j,p,rfl,k⟩:=LD h;obtain⟨a,d⟩:=an k;cases of_decide_eq_true d;cases c with
  |none=>exact pe_non
  |bool b=>exact pe_bl
  |int i=>exact pe_int
  |str x=>exact pe_str
  |_=>exact cW a
theorem JJ:IHE CX G (.glo x):=by intro e E l N all X o h;obtain⟨y,p,rfl,k⟩:=gP h;obtain⟨a,b,c⟩:=iA k;cases of_decide_eq_true a;intro i s j H Q I g;obtain⟨v,f,q⟩:=g;obtain⟨u,d,r⟩:=o.val _ _ f;exact E8 (o.gl b) d r (iU c).1 i s j H Q I q
theorem sE_ty{t:Ty}:IHE CX G (.ty t):=by intro e E c N all X o h;obtain⟨y,p,rfl,k⟩:=gP h;obtain⟨a,b⟩:=an k;cases of_decide_eq_true a;exact Fb (o.gl b) (o.blt _ t.mem) t.boot rfl t.plain.1 t.plain.2
theorem sE_bin{op:Operator}{a b:CE}(g:IHE CX G a)(i:IHE CX G b):IHE CX G (.bin op a b):=by intro e E n N all X o h;obtain⟨j,m,l,p,rfl,k⟩:=dBi_of h;obtain⟨c,d,f⟩:=iA k;cases of_decide_eq_true c;exact pe_op (rBin_ok op) (g _ o d) (i _ o f)
theorem sE_cmp{op:CmpOp}{a b:CE}(i:IHE CX G a)(j:IHE CX G b):IHE CX G (.cmp op a b):=by intro e E q N all X o h;obtain⟨l,n,m,p,rfl,c,k⟩:=LG h;obtain⟨d,f,g⟩:=iA k;cases of_decide_eq_true d;exact pe_cmpR (oH o.hu op) (i _ o f) (j _ o g) (oM c op)
theorem JL{f d:CmpOp}{a b c:CE}(t:IHE CX G a)(u:IHE CX G b)(v:IHE CX G c):IHE CX G (.chain f d a b c):=by intro e E D N all X o h;obtain⟨w,A,z,p,rfl,k⟩:=Eg h;obtain⟨B,C,rfl,l⟩:=yn k;obtain⟨x,y,rfl,m⟩:=yn l;obtain⟨g,i,j,n⟩:=mh m;obtain⟨q,r,s⟩:=iA n;cases of_decide_eq_true g;cases of_decide_eq_true i;exact Kg (oH o.hu f) (oH o.hu d) (t _ o q) (u _ o r) (v _ o s) (oM (qP j) d)
theorem sE_not{a:CE}(d:IHE CX G a):IHE CX G (.not a):=by intro e E i N all X o h;obtain⟨g,f,p,rfl,k⟩:=Lz h;obtain⟨b,c⟩:=an k;cases of_decide_eq_true b;exact pe_not (d _ o c)
theorem sE_and{a b:CE}(f:IHE CX G a)(g:IHE CX G b):IHE CX G (.and a b):=by
  intro e E s N all X o h;obtain⟨q,j,x,p,k,m⟩:=qr h;obtain⟨i,c,d⟩:=iA k;cases of_decide_eq_true i;rcases m with rfl|⟨l,n,r,rfl,rfl⟩;·exact Kj (f _ o c) (Kd (g _ o d))
  ·exact Kj (f _ o c) (g _ o d)
theorem sE_or{a b:CE}(f:IHE CX G a)(g:IHE CX G b):IHE CX G (.or a b):=by
  intro e E s N all X o h;obtain⟨q,j,x,p,k,m⟩:=qr h;obtain⟨i,c,d⟩:=iA k;cases of_decide_eq_true i;rcases m with rfl|⟨l,n,r,rfl,rfl⟩;·exact pe_or (f _ o c) (Kd (g _ o d))
  ·exact pe_or (f _ o c) (g _ o d)
theorem sE_ite{c a b:CE}(l:IHT CX G c)(i:IHE CX G a)(j:IHE CX G b):IHE CX G (.ite c a b):=by intro e E r N all X o h;obtain⟨q,m,n,p,rfl,k⟩:=dIf_of h;obtain⟨d,f,g⟩:=iA k;exact Ke (l _ o d) (i _ o f) (j _ o g)
theorem JI{a i:CE}(f:IHE CX G a)(g:IHE CX G i):IHE CX G (.idx a i):=by intro e E m N all X o h;obtain⟨j,l,p,rfl,k⟩:=Ae h;obtain⟨b,c,d⟩:=iA k;exact pe_ix ix_seq (f _ o c) (g _ o d) (Bh (qP b))
theorem sE_cut{a:CE}{lo hi:CO}(g:IHE CX G a)(j:IHO CX G lo)(i:IHO CX G hi):IHE CX G (.cut a lo hi):=by intro e E v N all X o h;obtain⟨q,s,p,rfl,k⟩:=Ae h;obtain⟨l,u,t,r,rfl,m⟩:=dSl_of k;obtain⟨b,c,n⟩:=iA m;obtain⟨d,f⟩:=an n;cases gY.mp b;exact Kb rSlc_ok (g _ o c) (j _ o d) (i _ o f)
theorem sE_tup{a:CL}(b:IHL CX G a):IHE CX G (.tup a):=by intro e E d N all X o h;obtain⟨c,j,p,rfl,k⟩:=Ee h;exact J9 (b _ o k)
theorem sE_lst{a:CL}(b:IHL CX G a):IHE CX G (.lst a):=by intro e E d N all X o h;obtain⟨c,p,rfl,k⟩:=dLi_of h;exact pe_lst (b _ o k)
theorem ET{f:Str}{b:CL}(x:IHL CX G b):IHE CX G (.call f b):=by
  intro e E K N all X o h;obtain⟨A,D,u,p,rfl,k⟩:=jb h;obtain⟨v,d,g,c⟩:=mh k;cases of_decide_eq_true v;intro r s t H Q I a;obtain⟨L,z,hf,a⟩:=a;obtain⟨B,C,J,y,k,F,n,m,l,i,j⟩:=o.fn _ _ _ _ hf;cases u with
  |nil=>
   cases b with
   |nil=>exact He F n (o.gl d) m l i j o.pass (iU g).1 r s t H Q I a
   |cons=>exact cW c
  |cons e1 r1=>have w:=x _ o c;obtain⟨_,_,e,q⟩:=EJ c rfl;cases e;exact Kh F n (o.gl d) m l i j o.pass w (iU g).1 (q _ p).1 (q _ _).2 r s t H Q I a
theorem Bf.kind:∀b:Bf,(∃n,b.val=.builtin n)\/∃n,b.val=.type n:=by intro b;cases b<;>first |exact .inl ⟨_,rfl⟩ |exact .inr ⟨_,rfl⟩
theorem pe_bf{b:Bf}{a:List Expr}{t:TA}{l:CL}(c:fF X b.val (rBf X.K b))(i:Gl X b.name)(j:X.mg b.name=none)(g:PA X a t)(k:(!a.isEmpty)=true)(h:mG sc N l a=true):PE X (.Call (.Name b.name np) a [] pos) (tCB (rBf X.K b) t):=by
 obtain⟨e,m,rfl,d⟩:=EJ h k;have f:=b.boot;rcases b.kind with⟨n,q⟩ |⟨n,q⟩;·rw[q]at c f;exact Ki c i j f g b.plain.1 b.plain.2 (d _ pos).1 (d _ _).2
 ·rw[q]at c f;exact Hd c i j f g b.plain.1 b.plain.2 (d _ pos).1 (d _ _).2
theorem JM{b:Bf}{a:CL}(i:IHL CX G a):IHE CX G (.bfn b a):=by intro e E n N all X o h;obtain⟨l,m,j,p,rfl,k⟩:=jb h;obtain⟨d,f,g,c⟩:=mh k;cases of_decide_eq_true d;exact pe_bf (rBf_ok o.calm o.hu b) (o.gl f) (o.blt _ b.mem) (i _ o c) g c
theorem JH{m:Mm}{b:CE}(g:IHE CX G b):IHE CX G (.meth0 m b):=by intro e E p N all X o h;obtain⟨n,i,l,j,rfl,a,k⟩:=Af h;obtain⟨c,d,f⟩:=iA k;obtain rfl:=nil_of c;exact pe_bm0 AN m.slot m.ty (JW m) (g _ o f) (Ar d _ _ _) a
theorem JG{m:Mm}{b a:CE}(j:IHE CX G b)(i:IHE CX G a):IHE CX G (.meth1 m b a):=by intro e E t N all X o h;obtain⟨s,p,r,q,rfl,d,k⟩:=Af h;obtain⟨n,rfl,l⟩:=kQ k;obtain⟨f,g,c⟩:=iA l;exact pe_bm AN m.slot m.ty (JW m) (j _ o g) (gZ (i _ o c) k7 (cD c _ _)) (Ar f _ _ _) (by rw[cD c];rfl) d (cD c _ _) rfl
theorem sE_idxd{a i:CE}(f:IHE CX G a)(g:IHE CX G i):IHE CX G (.idxd a i):=by intro e E m N all X o h;obtain⟨j,l,p,rfl,k⟩:=Ae h;obtain⟨b,c,d⟩:=iA k;exact pe_ix (ix_dict (by have :=o.hu;lia)) (f _ o c) (g _ o d) (Bh (qP b))
theorem sE_dicT:IHE CX G .dicT:=by intro e E d N all X o h;obtain⟨c,f,p,rfl,k⟩:=dDi_of h;obtain⟨a,b⟩:=an k;obtain rfl:=nil_of a;obtain rfl:=nil_of b;exact Kf
theorem sE_setd{b a c:CE}(p:IHE CX G b)(n:IHE CX G a)(q:IHE CX G c):IHE CX G (.setd b a c):=by intro e E x N all X o h;obtain⟨w,s,v,u,rfl,g,k⟩:=Af h;obtain⟨r,t,rfl,l⟩:=yn k;obtain⟨i,j,m⟩:=iA l;obtain⟨d,f⟩:=an m;exact pe_bm PySem.F.plainAttrs_dict wY PySem.F.type_dict_setdefault (Hq (by have :=o.hu;lia)) (p _ o j) (gZ (n _ o d) (gZ (q _ o f) k7 (cD f _ _)) (cD d _ _)) (Ar i _ _ _) (by rw[cD d,cD f];rfl) g (cD d _ _) (by rw[cD f];rfl)
theorem LK{l:CL}{a:List Expr}(h:mG sc N l a=true)(d:l.len<29)(env:Env)(b:Pos):((backTo b (bz a env)).all (fun x=> !x.1)&&(AA b (oZ [] env)).all (fun x=>x.1.isSome)
   &&decide (a.length+([]:List Keyword).length+(if([]:List Keyword).isEmpty then 0 else 1)<30))=true:=by
 have c:=qv h env b;rw[aE,aE];refine⟨⟨?_,rfl⟩,?_⟩;·rw[List.any_eq_false]at c;exact bI.mpr fun x e=>by simpa using c x e
 ·rw[decide_eq_true_eq,Cd h];exact gf d (by decide)
theorem sE_base{c:CL}(z:IHL CX G c):IHE CX G (.base x c):=by intro e E M N all X o h;obtain⟨L,F,J,b,rfl,f,k⟩:=Af h;obtain⟨O,K,rfl,l⟩:=gP k;obtain⟨g,i,j,m⟩:=mh l;obtain⟨n,p,a⟩:=iA m;cases of_decide_eq_true g;intro A s D H Q I y;obtain⟨B,w,q⟩:=y;obtain⟨u,v,C⟩:=o.val _ _ w;obtain rfl:u=bB B:=C;have t:=z _ o a;have r:=LK a (of_decide_eq_true n) X.env b;obtain⟨_,_,rfl,d⟩:=EJ a p;exact pe_base (o.gl i) v t (iU j).1 (d _ b).1 (d _ _).2 r f A s D H Q I q
theorem sE_fld{a:CE}{f:Str}(d:IHE CX G a):IHE CX G (.fld a f):=by intro e E j N all X o h;obtain⟨v,g,p,rfl,k⟩:=Ag h;obtain⟨n,i,rfl,l⟩:=gP k;obtain⟨b,c⟩:=an l;cases of_decide_eq_true b;exact E9 (d _ o c)
theorem Dv{a:CE}(f:IHE CX G a):IHE CX G (.sortset a):=by intro e E i N all X o h;obtain⟨p,g,q,r,t,rfl,c,d,b⟩:=dFF_of h;exact DD o.calm (o.gl c) (o.blt _ (by decide+kernel)) (o.gl d) (o.blt _ (by decide+kernel)) (gZ (f _ o b) k7 (cD b _ _)) (cD b _ _)
theorem sE_comp(c:HX CX){own:List Str}{fr:List Nat}{j:CG}{i:CI}{f:CO}{g:CE}(A:IHI CX G i)(z:IHG CX G j)(w:IHC CX G f)(x:IHE CX G g):IHE CX G (.comp own fr j i f g):=by
  intro e E I N all X o h;obtain⟨B,D,J,p,rfl,k⟩:=Ef h;obtain⟨⟨K,H,F,y⟩,rfl,l⟩:=kQ k;obtain⟨n,q,r,m⟩:=mh l;obtain⟨s,t,u,v⟩:=mh m;cases of_decide_eq_true n;have S:=vy q;exact pe_comp (S.comp o) (S.mkOk o) o.calm (A _ _ o s)
   (fun C d a b _=>⟨z _ (o.comp c S C d a b) t,w _ (o.comp c S C d a b) u,x _ (o.comp c S C d a b) v⟩) (zN (qP r) _)
theorem sT_cmp{op:CmpOp}{a b:CE}(i:IHE CX G a)(j:IHE CX G b):IHT CX G (.cmp op a b):=by intro e E q N all X o h;obtain⟨l,n,m,p,rfl,c,k⟩:=LG h;obtain⟨d,f,g⟩:=iA k;cases of_decide_eq_true d;exact pt_cmpR (oH o.hu op) (i _ o f) (j _ o g) (oM c op)
theorem JA{f d:CmpOp}{a b c:CE}(t:IHE CX G a)(u:IHE CX G b)(v:IHE CX G c):IHT CX G (.chain f d a b c):=by intro e E D N all X o h;obtain⟨w,A,z,p,rfl,k⟩:=Eg h;obtain⟨B,C,rfl,l⟩:=yn k;obtain⟨x,y,rfl,m⟩:=yn l;obtain⟨g,i,j,n⟩:=mh m;obtain⟨q,r,s⟩:=iA n;cases of_decide_eq_true g;cases of_decide_eq_true i;exact J1 (oH o.hu f) (oH o.hu d) (t _ o q) (u _ o r) (v _ o s) (oM (qP j) d)
theorem sT_not{a:CE}(d:IHT CX G a):IHT CX G (.not a):=by intro e E i N all X o h;obtain⟨g,f,p,rfl,k⟩:=Lz h;obtain⟨b,c⟩:=an k;cases of_decide_eq_true b;exact pt_not (d _ o c)
theorem sT_var:IHT CX G (.var i):=by intro e E a N all X o h;have q:=JF e o h;obtain⟨x,p,rfl,k⟩:=gP h;exact kb q fun _=>rfl
theorem sT_con{c:Const}:IHT CX G (.con c):=by intro e E a N all X o h;have q:=JK e o h;obtain⟨x,j,p,rfl,k⟩:=LD h;exact kb q fun _=>rfl
theorem sT_glo:IHT CX G (.glo x):=by intro e E a N all X o h;have q:=JJ e o h;obtain⟨x,p,rfl,k⟩:=gP h;exact kb q fun _=>rfl
theorem sT_idx{a i:CE}(b:IHE CX G a)(c:IHE CX G i):IHT CX G (.idx a i):=by intro e E d N all X o h;have q:=JI b c e o h;obtain⟨x,y,p,rfl,k⟩:=Ae h;exact kb q fun _=>rfl
theorem sT_call{f:Str}{a:CL}(b:IHL CX G a):IHT CX G (.call f a):=by intro e E d N all X o h;have q:=ET b e o h;obtain⟨x,c,a,p,rfl,k⟩:=jb h;exact kb q fun _=>rfl
theorem sT_bfn{b:Bf}{a:CL}(c:IHL CX G a):IHT CX G (.bfn b a):=by intro e E f N all X o h;have q:=JM c e o h;obtain⟨x,d,a,p,rfl,k⟩:=jb h;exact kb q fun _=>rfl
theorem Jz{a b:CE}(f:IHT CX G a)(i:IHT CX G b)(j:IHW CX G b):IHW CX G (.and a b):=by
  intro e E t N all X o h;obtain⟨s,l,x,p,k,m⟩:=qr h;obtain⟨g,c,d⟩:=iA k;cases of_decide_eq_true g;rcases m with rfl|⟨n,q,r,rfl,rfl⟩;·exact fun _=>Dz (f _ o c) (E5 (i _ o d))
  ·exact fun _=>Dz (f _ o c) (j _ o d rfl)
theorem sT_and{a b:CE}(c:IHW CX G (.and a b)):IHT CX G (.and a b):=by intro e E j N all X o h;obtain⟨i,d,x,p,k,m⟩:=qr h;exact(c _ o h (by rcases m with rfl|⟨f,g,r,rfl,rfl⟩<;>rfl)).pt
theorem sW_or{a b:CE}(f:IHT CX G a)(i:IHT CX G b)(j:IHW CX G b):IHW CX G (.or a b):=by
  intro e E t N all X o h;obtain⟨s,l,x,p,k,m⟩:=qr h;obtain⟨g,c,d⟩:=iA k;cases of_decide_eq_true g;rcases m with rfl|⟨n,q,r,rfl,rfl⟩;·exact fun _=>pw_or (f _ o c) (pw_or1 (i _ o d))
  ·exact fun _=>pw_or (f _ o c) (j _ o d rfl)
theorem sT_or{a b:CE}(c:IHW CX G (.or a b)):IHT CX G (.or a b):=by intro e E j N all X o h;obtain⟨i,d,x,p,k,m⟩:=qr h;exact(c _ o h (by rcases m with rfl|⟨f,g,r,rfl,rfl⟩<;>rfl)).pt
theorem sL_nil:IHL CX G .nil:=by intro a E b N all X o h;obtain rfl:=lM h;exact k7
theorem sL_cons{c:CE}{r:CL}(d:IHE CX G c)(e:IHL CX G r):IHL CX G (.cons c r):=by intro g E j N all X o h;obtain⟨f,i,rfl,a,b⟩:=jX h;exact gZ (d _ o a) (e _ o b) (cD a _ _)
theorem sP_nil:IHP CX G .nil:=by intro c f E e N all X o h d;obtain⟨a,b⟩:=an h;obtain rfl:=nil_of a;obtain rfl:=nil_of b;exact⟨pps_nil,rfl,rfl,fun z=>absurd rfl z⟩
theorem sP_cons{k v:CE}{r:CP}(e:IHP CX G r)(d:IHE CX G k)(f:IHE CX G v):IHP CX G (.cons k v r):=by intro s x E u N all X o h q;obtain⟨g,t,rfl,l⟩:=xT h;obtain⟨w,y,rfl,m⟩:=xT l;obtain⟨g,rfl,n⟩:=Ko m;obtain⟨a,b,c⟩:=iA n;obtain⟨i,j,p,_⟩:=e _ _ o c q;exact⟨J4 (d _ o a) (f _ o b) i,by simp[j],by simp[p],fun _=>by simp⟩
theorem sO_no:IHO CX G .no:=by intro e E a N all X o h;obtain rfl:=gY.mp h;exact po_none
theorem sO_yes{c:CE}(a:IHE CX G c):IHO CX G (.yes c):=by intro e E d N all X o h;obtain⟨b,rfl,k⟩:=Ko h;exact po_some (a _ o k)
theorem sC_no:IHC CX G .no:=by intro a E b N all X o h;obtain rfl:=nil_of h;exact pts_nil
theorem sC_yes{c:CE}(a:IHT CX G c):IHC CX G (.yes c):=by intro d E e N all X o h;obtain⟨b,rfl,k⟩:=kQ h;exact pts_one (a _ o k)
theorem sG_name:IHG CX G (.name i):=by
  intro e E c N all X o h;obtain⟨x,p,rfl,k⟩:=gP h;rw[aE,cf,beq_iff_eq,beq_iff_eq,beq_iff_eq]at k;obtain⟨b,a⟩:=k;refine zz (by rw[o.names];exact o.nd) (by rw[o.names];exact b) ?_ ?_
  ·rcases a with q|q;·exact .inl (o.loc x q)
   ·exact .inr (o.cel x q)
  ·rcases a with q|q;·exact .inr (o.loc x q)
   ·exact .inl (o.own x q)
theorem sG_tup{c:CGs}(d:LZ CX G c):IHG CX G (.tup c):=by intro e E g N all X o h;obtain⟨f,j,p,rfl,k⟩:=Ee h;obtain⟨a,b⟩:=tU k X.env;exact pg_tup o.calm (d _ o k) a b
theorem sGs_nil:LZ CX G .nil:=by intro a E b N all X o h;obtain rfl:=yy h;exact pgs_nil
theorem JE{c:CG}{r:CGs}(d:IHG CX G c)(e:LZ CX G r):LZ CX G (.cons c r):=by intro g E j N all X o h;obtain⟨f,i,rfl,a,b⟩:=wG h;exact J7 (d _ o a) (e _ o b) (by rw[qQ a];rfl)
theorem sI_seq{c:CE}(a:IHE CX G c):IHI CX G (.seq c):=by intro e d E b N all X o h;exact pi_any (a _ o h)
theorem sI_lseq{c:CE}(a:IHE CX G c):IHI CX G (.lseq c):=by intro e d E b N all X o h;exact pi_list (a _ o h)
theorem G0{c:CE}(g:IHE CX G c):IHI CX G (.range1 c):=by intro e q E n N all X o h;obtain⟨f,m,j,p,rfl,k⟩:=jb h;obtain⟨i,rfl,l⟩:=kQ k;obtain⟨b,d,a⟩:=iA l;cases of_decide_eq_true b;exact Hb (o.gl d) (o.blt _ (by decide+kernel)) (gZ (g _ o a) k7 (cD a _ _)) (cD a _ _)
theorem GZ{a b:CE}(j:IHE CX G a)(m:IHE CX G b):IHI CX G (.range2 a b):=by intro e u E t N all X o h;obtain⟨f,s,r,p,rfl,k⟩:=jb h;obtain⟨n,q,rfl,l⟩:=yn k;obtain⟨g,i,d,c⟩:=mh l;cases of_decide_eq_true g;exact Ha (o.gl i) (o.blt _ (by decide+kernel)) (gZ (j _ o d) (gZ (m _ o c) k7 (cD c _ _)) (cD d _ _)) (by rw[cD d,cD c];rfl) (cD c _ _)
theorem yq(h:qk e=true):∃es k p,e=.Tuple es k p:=by cases e<;>first |exact⟨_,_,_,rfl⟩ |exact cW h
theorem sI_enum{c:CE}(m:IHE CX G c):IHI CX G (.enum c):=by intro e t E s N all X o h;obtain⟨f,q,b,p,rfl,k⟩:=jb h;obtain⟨n,rfl,l⟩:=kQ k;obtain⟨d,g,a,i⟩:=mh l;cases of_decide_eq_true d;obtain⟨b,j,r,rfl⟩:=yq i;exact pi_enum (o.gl g) (o.blt _ (by decide+kernel)) (m _ o a) (cD a _ _)
theorem JD{c:CE}(m:IHE CX G c):IHI CX G (.enumt c):=by intro e t E s N all X o h;obtain⟨f,q,b,p,rfl,k⟩:=jb h;obtain⟨n,rfl,l⟩:=kQ k;obtain⟨d,g,a,i⟩:=mh l;cases of_decide_eq_true d;obtain⟨b,j,r,rfl⟩:=yq i;exact J6 (o.gl g) (o.blt _ (by decide+kernel)) (gZ (m _ o a) k7 (cD a _ _)) (cD a _ _)
mutual
theorem bJ(d:HX CX):∀c:CE,IHE CX G c
 |.var i=>JF
 |.con c=>JK
 |.glo x=>JJ
 |.ty t=>sE_ty
 |.bin op a b=>sE_bin (bJ d a) (bJ d b)
 |.cmp op a b=>sE_cmp (bJ d a) (bJ d b)
 |.chain o1 o2 a b c=>JL (bJ d a) (bJ d b) (bJ d c)
 |.not a=>sE_not (bJ d a)
 |.and a b=>sE_and (bJ d a) (bJ d b)
 |.or a b=>sE_or (bJ d a) (bJ d b)
 |.ite c a b=>sE_ite (i8 d c) (bJ d a) (bJ d b)
 |.idx a i=>JI (bJ d a) (bJ d i)
 |.cut a lo hi=>sE_cut (bJ d a) (Jt d lo) (Jt d hi)
 |.tup es=>sE_tup (my d es)
 |.lst es=>sE_lst (my d es)
 |.call f es=>ET (my d es)
 |.bfn b es=>JM (my d es)
 |.meth0 m b=>JH (bJ d b)
 |.meth1 m b a=>JG (bJ d b) (bJ d a)
 |.idxd a i=>sE_idxd (bJ d a) (bJ d i)
 |.dicT=>sE_dicT
 |.setd b a c=>sE_setd (bJ d b) (bJ d a) (bJ d c)
 |.base x es=>sE_base (my d es)
 |.fld a f=>sE_fld (bJ d a)
 |.sortset a=>Dv (bJ d a)
 |.comp own fr tg it cond elt=>sE_comp d (Dq d it) (sD d tg) (Ju d cond) (bJ d elt)
theorem i8(d:HX CX)(c:CE):IHT CX G c:=by
 cases c with
 |cmp op a b=>exact sT_cmp (bJ d a) (bJ d b)
 |chain p q a b c=>exact JA (bJ d a) (bJ d b) (bJ d c)
 |not a=>exact sT_not (i8 d a)
 |and a b=>exact sT_and (Jz (i8 d a) (i8 d b) (zg d b))
 |or a b=>exact sT_or (sW_or (i8 d a) (i8 d b) (zg d b))
 |var i=>exact sT_var
 |con c=>exact sT_con
 |glo x=>exact sT_glo
 |idx a i=>exact sT_idx (bJ d a) (bJ d i)
 |call f es=>exact sT_call (my d es)
 |bfn b es=>exact sT_bfn (my d es)
 |_=>exact fun _ _ _ _ _ _ _ _ _ _ _ _ _ _ z=>z.elim
theorem zg(d:HX CX)(c:CE):IHW CX G c:=by
 cases c with
 |and a b=>exact Jz (i8 d a) (i8 d b) (zg d b)
 |or a b=>exact sW_or (i8 d a) (i8 d b) (zg d b)
 |_=>intro e E j N all X o h f;obtain⟨i,g,p,rfl⟩:=isBo_of f;exact cW h
theorem my(a:HX CX):∀c:CL,IHL CX G c
 |.nil=>sL_nil
 |.cons c r=>sL_cons (bJ a c) (my a r)
theorem soundP(a:HX CX):∀c:CP,IHP CX G c
 |.nil=>sP_nil
 |.cons k v r=>sP_cons (soundP a r) (bJ a k) (bJ a v)
theorem Jt(a:HX CX):∀c:CO,IHO CX G c
 |.no=>sO_no
 |.yes c=>sO_yes (bJ a c)
theorem Ju(a:HX CX):∀c:CO,IHC CX G c
 |.no=>sC_no
 |.yes c=>sC_yes (i8 a c)
theorem sD(a:HX CX):∀c:CG,IHG CX G c
 |.name i=>sG_name
 |.tup gs=>sG_tup (EM a gs)
theorem EM(a:HX CX):∀c:CGs,LZ CX G c
 |.nil=>sGs_nil
 |.cons c r=>JE (sD a c) (EM a r)
theorem Dq(d:HX CX):∀c:CI,IHI CX G c
 |.seq c=>sI_seq (bJ d c)
 |.lseq c=>sI_lseq (bJ d c)
 |.range1 c=>G0 (bJ d c)
 |.range2 a b=>GZ (bJ d a) (bJ d b)
 |.enum c=>sI_enum (bJ d c)
 |.enumt c=>JD (bJ d c)
end
end
section
variable {CX:CXT}{G:Gam}
theorem vO{all:Bool}{g:CG}(h:wI sc N all g tg=true)(a:(qk tg&&qk e)=false)(env:Env):swappedStores [tg] e env=pure none:=by
 cases tg with
 |Tuple es k p=>
  cases e<;>first
   |rfl
   | (exact Ku a)
 |List es p=>cases g<;>exact cW h
 |_=>rfl
theorem A3{a:Expr}{b:List Comprehension}{c:Scope}{d p:Pos}{l:Nat}{env:Env}(h:env.kindOf x≠some .local):qz (.ListComp a b c d) (some (.Name x p)) l env=pure false:=by
 show(pure (env.blockKind== .function&&env.kindOf x==some .local&&p.line==d.line&& !(c.names.any fun(n,k)=>n==x&&(k== .local||k== .cell))):Sem Bool)=pure false;have e:(env.kindOf x==some eD.local)=false:=by simpa using h
 rw[e,fP,de,de]
theorem Dl{a:Expr}{b:List Comprehension}{c:Scope}{d p:Pos}{l:Nat}{env:Env}(g:env.scope.kind=.function)(h:env.kindOf x=some .local)(i:p.line=d.line)
  (j:(c.names.any fun y=>decide (y.1=x)&&(decide (y.2=.local)||decide (y.2=.cell)))=false):qz (.ListComp a b c d) (some (.Name x p)) l env=pure true:=by
 show(pure (env.blockKind== .function&&env.kindOf x==some .local&&p.line==d.line&& !(c.names.any fun(n,k)=>n==x&&(k== .local||k== .cell))):Sem Bool)=pure true;have e:env.blockKind=.function:=by unfold Env.blockKind;rw[g];rfl
 have f:(c.names.any fun(n,k)=>n==x&&(k==eD.local||k==cQ))=false:=by rw[<-j];congr 1
 rw[e,h,i,f];simp
theorem Ei{c:CE}(h:isCe c=true):∃own fr tg it a elt,c=.comp own fr tg it a elt:=by
 cases c with
 |comp own fr tg it a elt=>exact⟨_,_,_,_,_,_,rfl⟩
 |_=>exact cW h
theorem BA(h:wb e=false)(a:Expr)(l:Nat)(env:Env):L6 [a] e l env=pure false:=by unfold L6;exact uR h _ _ _
structure OkL(G:Gam)(sc:Scope)(N:List Str)(X:Cx):Prop where
 names:X.N=N
 nd:N.Nodup
 loc:∀x,sc.names.lookup x=some .local->X.env.scope.names.lookup x=some .local
 cel:∀x,sc.names.lookup x=some .cell->X.env.scope.names.lookup x=some .cell
 fre:∀x,sc.names.lookup x=some .free->X.env.scope.names.lookup x=some .cell\/X.env.scope.names.lookup x=some .free
 glo:∀x,sc.names.lookup x=some .globalImplicit->X.env.scope.names.lookup x=some .globalImplicit
 all:∀x,X.fn x=true
 val:∀x v,G.val x=some v->∃u,X.mg x=some u/\RelV v u
 blt:∀x∈jr,X.mg x=none
theorem OkL.vis(o:OkL G sc N X)(h:BQ sc x=true):Vis X.env.scope x:=by
 unfold BQ at h;rw[cf,cf,beq_iff_eq,beq_iff_eq,beq_iff_eq]at h;rcases h with(h|h) |h;·exact .inl (o.loc x h)
 ·exact .inr (.inl (o.cel x h))
 ·rcases o.fre x h with q|q;·exact .inr (.inl q)
  ·exact .inr (.inr q)
theorem OkL.gl(o:OkL G sc N X)(h:kC sc x=true):Gl X x:=by unfold kC at h;rw[beq_iff_eq]at h;exact o.glo x h
theorem isi_ok:fF X (.builtin "isinstance") (rBf X.K .isinstance):=tV.or rG
mutual
theorem rj(c:CE)(e:Expr){E:XS}(o:OkL G sc N X)(l:Fz c=true)(h:dA sc N c e=true):PE X e (wpE G X.K E c):=by
 cases c with
 |var i=>obtain⟨x,p,rfl,k⟩:=gP h;obtain⟨d,g,w⟩:=iA k;obtain⟨A,B⟩:=iU w;exact J8 (by rw[o.names];exact beq_iff_eq.mp d) (o.vis g) A B
 |glo x=>obtain⟨y,p,rfl,k⟩:=gP h;obtain⟨d,g,w⟩:=iA k;cases of_decide_eq_true d;intro M s O H Q I K;obtain⟨v,J,q⟩:=K;obtain⟨u,F,r⟩:=o.val _ _ J;exact E8 (o.gl g) F r (iU w).1 M s O H Q I q
 |ty t=>obtain⟨y,p,rfl,k⟩:=gP h;obtain⟨d,g⟩:=an k;cases of_decide_eq_true d;exact Fb (o.gl g) (o.blt _ t.mem) t.boot rfl t.plain.1 t.plain.2
 |tup es=>obtain⟨C,j,p,rfl,k⟩:=Ee h;exact J9 (vY es _ o l k)
 |bfn b es=>
  obtain⟨D,L,C,p,rfl,k⟩:=jb h;obtain⟨d,g,w,z⟩:=mh k;cases of_decide_eq_true d;cases b with
  |isx=>exact pe_bf (b:=.isx) rF (o.gl g) (o.blt _ (Bf.mem _)) (vY es _ o l z) w z
  |_=>exact cW l
 |fld a f=>obtain⟨v,D,p,rfl,k⟩:=Ag h;obtain⟨n,L,rfl,m⟩:=gP k;obtain⟨d,g⟩:=an m;cases of_decide_eq_true d;exact E9 (rj a _ o l g)
 |_=>exact cW l
theorem vY(c:CL)(a:List Expr){E:XS}(o:OkL G sc N X)(l:BL c=true)(h:mG sc N c a=true):PA X a (wpL G X.K E c):=by
 cases c with
 |nil=>obtain rfl:=lM h;exact k7
 |cons c r=>obtain⟨e,f,rfl,b,d⟩:=jX h;obtain⟨l1,l2⟩:=an l;exact gZ (rj c _ o l1 b) (vY r _ o l2 d) (cD b _ _)
end
theorem vX(c:CE)(e:Expr){E:XS}(o:OkL G sc N X)(l:Fy c=true)(h:dA sc N c e=true):PT X e (wpT G X.K E c)/\∀f b p,e≠.BoolOp f b p:=by
 cases c with
 |bfn b a=>
  cases b with
  |isx=>have d:=rj (E:=E) (.bfn .isx a) e o l h;obtain⟨x,g,a,p,rfl,k⟩:=jb h;exact⟨pt_tru d (fun _=>rfl),fun _ _ _ z=>nomatch z⟩
  |_=>exact cW l
 |_=>exact cW l
theorem KN(c:CE)(e:Expr){E:XS}(o:OkL G sc N X)(l:liteT c=true)(h:dA sc N c e=true):PT X e (wpT G X.K E c):=by
 cases c with
 |and a b=>
  obtain⟨l1,l2⟩:=an l;obtain⟨t,n,x,p,k,m⟩:=qr h;obtain⟨d,f,g⟩:=iA k;cases of_decide_eq_true d;obtain⟨i,j⟩:=vX (E:=E) b x o l2 g;rcases m with rfl|⟨q,s,r,rfl,rfl⟩;·exact(Dz (vX a _ o l1 f).1 (E5 i)).pt
  ·exact absurd rfl (j _ _ _)
 |_=>refine(vX _ e o ?_ h).1;exact l
mutual
theorem KO(c:CS)(st:Stmt){E:XS}(o:OkL G sc N X)(l:liteS c=true)(h:chkS sc N c st=true):PS X st (wpS G X.K E c):=by
 cases c with
 |asg g e=>
  obtain⟨v,u,p,rfl,k⟩:=Ah h;obtain⟨d,f,j,w⟩:=mh k;cases g with
  |name i=>
   obtain⟨x,p,rfl,m⟩:=gP d;rw[aE,cf,beq_iff_eq,beq_iff_eq,beq_iff_eq]at m;refine DB (rj e _ o l f) ?_ (BA (qP j) _ _ _) rfl rfl;refine zz (by rw[o.names];exact o.nd) (by rw[o.names];exact m.1) ?_ (.inl (o.all x));rcases m.2 with q|q;·exact .inl (o.loc x q)
   ·exact .inr (o.cel x q)
  |_=>exact cW l
 |iff c a b=>obtain⟨l1,l⟩:=an l;obtain⟨l2,n⟩:=an l;obtain⟨t,r,s,p,rfl,k⟩:=LC h;obtain⟨d,f,j⟩:=iA k;exact ps_if (KN c _ o l1 d) (rm a _ o l2 f) (rm b _ o n j)
 |_=>exact cW l
theorem rm(c:CB)(st:List Stmt){E:XS}(o:OkL G sc N X)(l:BN c=true)(h:qw sc N c st=true):PSs X st (wpB G X.K E c):=by
 cases c with
 |hole=>exact cW l
 |nil=>obtain rfl:=nil_of h;exact zx
 |cons s r=>obtain⟨l1,l2⟩:=an l;obtain⟨e,d,rfl,k⟩:=xT h;obtain⟨a,b⟩:=an k;exact qN (KO s _ o l1 a) (rm r _ o l2 b)
end
mutual
theorem Js(d:HX CX):∀(c:CS)(st:Stmt){E:XS}{sc:Scope}{N:List Str}{X:Cx},Ok CX G E sc N true X->(∀pins σ H s,Inv X pins σ H s->X.env.scope.kind=.function)->chkS sc N c st=true->PS X st (wpS G X.K E c)
 |.asg g e,st,E,sc,N,X,o,hk,h=>by obtain⟨K,w,p,rfl,k⟩:=Ah h;obtain⟨f,j,r,t⟩:=mh k;exact DB (bJ d e _ o j) (sD d g _ o f) (uR (qP r) _ _ _) (vO f (qP t) _) (by rw[qQ f];rfl)
 |.asgc i e,st,E,sc,N,X,o,hk,h=>by
  obtain⟨L,h⟩:=an h;obtain⟨K,w,sp,rfl,k⟩:=Ah h;obtain⟨x,p,rfl,l⟩:=gP k;obtain⟨a,b,c,a3,rfl,m⟩:=Ef l;obtain⟨f,j,r,t⟩:=mh m;rw[beq_iff_eq]at f;rw[cf,beq_iff_eq,beq_iff_eq]at j;rw[cf,beq_iff_eq]at t;obtain⟨own,fr,tg,P,a2,a4,rfl⟩:=Ei L;by_cases hl:X.env.scope.names.lookup x=some .local
  ·rcases t with q|q;·rw[o.cel x q]at hl;cases hl
   obtain⟨q1,q2⟩:=an q;obtain⟨b0,gs,b5,p',e1,r1⟩:=Ef r;cases e1;obtain⟨⟨b6,b3,b2,b7⟩,rfl,r2⟩:=kQ r1;obtain⟨g0,g1,g2,r3⟩:=mh r2;obtain⟨g3,g4,g5,g6⟩:=mh r3;cases of_decide_eq_true g0;have S:=vy g1;intro pins s σ H D I u;exact DA (S.comp o) (S.mkOk o) o.calm (Dq d P _ _ o g3)
    (fun C Q A F _=>⟨sD d tg _ (o.comp d S C Q A F) g4,Ju d a2 _ (o.comp d S C Q A F) g5,bJ d a4 _ (o.comp d S C Q A F) g6⟩)
    (by rw[o.names];exact o.nd) (by rw[o.names];exact f) hl (Dl (hk pins σ H s I) hl (of_decide_eq_true q1) (qP q2)) (zN (qP g2) _) pins s σ H D I u
  ·have T:sc.names.lookup x=some .cell:=by
    rcases j with q|q;·exact absurd (o.loc x q) hl
    ·exact q
   exact ps_set (by rw[o.names];exact o.nd) (by rw[o.names];exact f) (.inr (o.cel x T)) (bJ d _ _ o r) (A3 (by rw[show X.env.kindOf x=_ from o.cel x T];decide)) (.inl (o.all rfl x))
 |.expr e,st,E,sc,N,X,o,hk,h=>by obtain⟨w,p,rfl,k⟩:=dEx_of h;obtain⟨f,j⟩:=an k;exact ps_expr (bJ d e _ o f) (uR (qP j) _ _ _)
 |.iff c a b,st,E,sc,N,X,o,hk,h=>by obtain⟨c',a',B,p,rfl,k⟩:=LC h;obtain⟨f,j,r⟩:=iA k;exact ps_if (i8 d c _ o f) (m9 d a _ o hk j) (m9 d b _ o hk r)
 |.whl c b,st,E,sc,N,X,o,hk,h=>by obtain⟨c',B,p,rfl,k⟩:=dWh_of h;obtain⟨f,j⟩:=an k;exact J2 o.px (i8 d c _ o f) (m9 d b _ o hk j)
 |.forr g P b,st,E,sc,N,X,o,hk,h=>by obtain⟨K,i',B,p,rfl,k⟩:=dFo_of h;obtain⟨f,j,r,t⟩:=mh k;exact ps_for o.px o.calm (Dq d P _ _ o j) (sD d g _ o f) (m9 d b _ o hk t) (zN (qP r) _)
 |.ret e,st,E,sc,N,X,o,hk,h=>by obtain⟨a6,p,rfl,k⟩:=LA h;obtain⟨w,rfl,m⟩:=Ko k;exact ps_ret (bJ d e _ o m)
 |.retN,st,E,sc,N,X,o,hk,h=>by obtain⟨a6,p,rfl,k⟩:=LA h;obtain rfl:=gY.mp k;exact ps_retN
 |.raisX x es,st,E,sc,N,X,o,hk,h=>by obtain⟨x',V,b1,cp,p,rfl,k⟩:=dRa_of h;obtain⟨f,j,r,m⟩:=mh k;obtain⟨t,v⟩:=an m;cases of_decide_eq_true f;intro pins s σ H D I u;obtain⟨C,sp,a9,M,u⟩:=u;obtain⟨a5,fd,ps,ds,k,hM,a1,hr,hu,hb,hd⟩:=o.ini _ _ _ _ _ M;have hL:=my d es _ o v;obtain⟨_,_,rfl,U⟩:=EJ v t;exact G8 hM a1 hr hb hd o.pass (o.gl j) hu hL o.calm (iU r).1 (U _ cp).1 (U _ _).2 o.madeX pins s σ H D I u
 |.fldX a a5 e,st,E,sc,N,X,o,hk,h=>by obtain⟨K,w,p,rfl,k⟩:=Ah h;obtain⟨o',f',p',rfl,l⟩:=Ag k;obtain⟨f,j,r,t⟩:=mh l;cases of_decide_eq_true f;exact ps_fldX (bJ d a _ o j) (bJ d e _ o r) (uR (qP t) _ _ _)
 |.tryc x i b su,st,E,sc,N,X,o,hk,h=>by
  obtain⟨B,x',V,n,y,hp,p,rfl,k⟩:=dTr_of h;obtain⟨f,j,r,m,m'⟩:=and5 k;obtain⟨t,v,h6⟩:=iA m;obtain⟨L,h7,h8⟩:=iA m';cases of_decide_eq_true f;rw[beq_iff_eq]at t v;cases y with
  |nil=>exact cW L
  |cons s0 y=>
   obtain⟨Z,t2,t3⟩:=o.top rfl;intro pins s σ H D I u;obtain⟨C,M,u⟩:=u;obtain⟨a7,hu,ru⟩:=o.val _ _ M;obtain rfl:a7=bB C:=ru;have O:Cz X x n C i (s0::y) (wpB G X.K N0 su):=
    {nd:=by rw[o.names];exact o.nd,at_:=by rw[o.names];exact t,loc:=o.loc n v,gl:=o.gl j,mg:=hu,db:=(iU r).1,stk:=Z,fr:=t2,ex:=t3
     su:=fun pins a=>rm su _ (X:=X.re (X.A.mark (some (.ref a))) false (X.pn++pins) (fun _ _=>False)) ⟨o.names,o.nd,o.loc,o.cel,o.fre,o.glo,o.all rfl,o.val,o.blt⟩ h6 h7}
   exact ps_try (X:=X) (tb:=fun D=>wpB G X.K (qp X.K C i (wpB G X.K N0 su) D) b) (fun pins D ok=>m9 d b _ (X:=X.re X.A X.calm (X.pn++pins) (j8 X pins D [.ExceptHandler (some (.Name x V)) (some n) (s0::y) hp]))
    {names:=o.names,top:=fun _=>⟨Z,t2,t3⟩,nd:=o.nd,loc:=o.loc,cel:=o.cel,fre:=o.fre,glo:=o.glo,all:=o.all,own:=o.own,calm:=o.calm,hu:=o.hu,val:=o.val,fn:=o.fn,ini:=o.ini,dic:=o.dic,mak:=o.mak,mth:=o.mth,blt:=o.blt,px:=PassesOwn.looking
     pass:=fun W a0 R Y e b4 J z=>Ja O ok o.calm J (by rw[o.cx]at z;exact z)
     made:=fun W a0 R Y a c a8 h' J hm z=>Jb O ok J hm z
     madeX:=fun W a0 R Y a C' a3 J m z=>GF O ok J m z
     cx:=o.cx} (fun _ _ _ _ J=>J.ok.kind) h8) pins s σ H D I u
 |.pass,st,E,sc,N,X,o,hk,h=>by
  cases st<;>first
   |exact ps_pass
   |exact cW h
 |.brk,st,E,sc,N,X,o,hk,h=>by
  cases st<;>first
   |exact J3
   |exact cW h
 |.cont,st,E,sc,N,X,o,hk,h=>by
  cases st<;>first
   |exact Bg
   |exact cW h
theorem m9(a:HX CX):∀(c:CB)(st:List Stmt){E:XS}{sc:Scope}{N:List Str}{X:Cx},Ok CX G E sc N true X->(∀pins σ H s,Inv X pins σ H s->X.env.scope.kind=.function)->qw sc N c st=true->PSs X st (wpB G X.K E c)
 |.hole,_,_,_,_,_,_,_,_=>fun _ _ _ _ _ _ z=>z.elim
 |.nil,st,E,sc,N,X,o,hk,h=>by obtain rfl:=nil_of h;exact zx
 |.cons s r,st,E,sc,N,X,o,hk,h=>by obtain⟨f,e,rfl,k⟩:=xT h;obtain⟨b,d⟩:=an k;exact qN (Js a s _ o hk b) (m9 a r _ o hk d)
end
end
structure GOk(P:Program)(w:World)(K:ah)(mg:Str->Option Value)(base:Heap)(CX:CXT)(k:Nat)(G:Gam):Prop where
 val:∀x v,G.val x=some v->∃u,mg x=some u/\RelV v u
 fn:∀x n sp dvs,G.fn x n=some (sp,dvs)->∃f fd ps ds j,j<=k/\ju P w K mg base CX j f fd ps sp/\mg x=some (.ref f)/\cL K (.ref f)=true/\Binds K fd ps ds/\bM dvs ds
 ini:∀x n C sp dvs,G.ini x n=some (C,sp,dvs)->∃f fd ps ds j,j+1<=k/\MkX K C f/\ju P w K mg base CX j f fd ps sp/\mg x=some (.ref C)/\Binds K fd ps ds/\bM dvs ds
 dic:∀a kvs,G.dic a=some kvs->DkIn P w K a kvs
 mak:∀x n C sp dvs,G.mak x n=some (C,sp,dvs)->∃f fd ps ds j,j+1<=k/\Mk K C f/\ju P w K mg base CX j f fd ps sp/\mg x=some (.ref C)/\Binds K fd ps ds/\bM dvs ds
 mth:∀m n C sp dvs,G.mth m n=some (C,sp,dvs)->∃f fd ps ds j,j<=k/\Cls K C/\Meth K C m f/\ju P w K mg base CX j f fd ps sp/\Binds K fd ps ds/\bM dvs ds
 blt:∀x∈jr,mg x=none
noncomputable def pD(N ps:List Str)(sc:Scope):Bool:=
 decide (sc.kind=.function)&&decide (sc.isCoroutine=false)&&decide (sc.isGenerator=false)&&decide N.Nodup&&decide (N.take ps.length=ps)&&
 ps.all (fun x=>sc.names.lookup x==some .local||sc.names.lookup x==some .cell)&&sc.names.all (fun y=>decide (y.2≠.free))
theorem Bv(h:pD N ps sc=true):uW N ps sc:=by unfold pD at h;simp only[aE,bI,decide_eq_true_eq,beq_iff_eq,cf]at h;obtain⟨⟨⟨⟨⟨⟨a,b⟩,c⟩,d⟩,e⟩,f⟩,g⟩:=h;exact⟨a,b,c,d,e,f,g⟩
section
variable {P:Program}{w:World}{K:ah}{mg:Str->Option Value}{base:Heap}
theorem Kq{G:Gam}{outer:List Env}{E:XK}(S:uW N ps sc)(g:GOk P w K mg base (CXx P w) k G)(i:jf k (A.deeper (envOfC qual sc s.heap.objs.size f cdv))):Ok (CXx P w) G (fun _=>E) sc N true (Ai (CXx P w) P w K mg base N qual sc f cdv A outer s H E):=
  {names:=rfl,top:=fun _=>⟨rfl,rfl,rfl⟩,nd:=S.nd,loc:=fun _ z=>z,cel:=fun _ z=>z,fre:=fun y z=>absurd rfl (S.nofree _ (bu z)),glo:=fun _ z=>z,all:=fun _ _=>rfl,own:=fun _ _=>rfl,calm:=rfl,
   hu:=by have :=i.units;show _+50<cLine;exact uH (Nat.add_le_add_left (by decide) _) this
   val:=g.val
   fn:=fun y n h a e=>by obtain⟨b,fd',ps',ds',j,hj,F',hm,hk,hb,d⟩:=g.fn y n h a e;exact⟨b,fd',ps',ds',j,F',i.mono hj,hm,hk,hb,d⟩
   ini:=fun y n C h a e=>by obtain⟨b,fd',ps',ds',j,hj,M,F',hm,hb,d⟩:=g.ini y n C h a e;exact⟨b,fd',ps',ds',j,M,F',i.mono hj,hm,hb,d⟩
   dic:=g.dic
   mak:=fun y n C h a e=>by obtain⟨b,fd',ps',ds',j,hj,M,F',hm,hb,d⟩:=g.mak y n C h a e;exact⟨b,fd',ps',ds',j,M,F',i.mono hj,hm,hb,d⟩
   mth:=fun y n C h a e=>by obtain⟨b,fd',ps',ds',j,hj,c,M,F',hb,d⟩:=g.mth y n C h a e;exact⟨b,fd',ps',ds',j,c,M,F',i.mono hj,hb,d⟩
   blt:=g.blt,px:=PassesOwn.leaving,pass:=HZ,made:=Ia,madeX:=En,cx:=rfl}
theorem B2{st:Stmt}{kV:Value}{an:Option Addr}{G:Gam}{sp:Sp}{a:CB}(j:K.lookup f=some ⟨oc,od,.func (aD x qual (bh st) (aX st) (aO st) dV kV doc pm an cdv ct),osl⟩)(c:eO K cdv qual=true)(d:pD N ps (aO st)=true)(b:qw (aO st) N a (aX st)=true)
  (g:GOk P w K mg base (CXx P w) k G)(len:∀vs H Q E,sp vs H Q E->vs.length=ps.length)
  (h:∀vs H Q E,sp vs H Q E->wpB G K (fun _=>E) a {nx:=fun _ H'=>Q .non H',rt:=Q} (start N vs) H):ju P w K mg base (CXx P w) (k+1) f (aD x qual (bh st) (aX st) (aO st) dV kV doc pm an cdv ct) ps sp:=by
 have S:=Bv d;refine fn_of j c S len fun A l s H vs Q E e i=>?_;exact⟨_,m9 (fun _ _ _ _ _ z=>HJ z) a _ (Kq S g e) (fun _ _ _ _ _=>S.kind) b,h vs H Q E i⟩
theorem FO{st:Stmt}{b:fh}{G:Gam}{sp:Sp}{a:CB}(F:Fun K x qual st f b)(e:pD N ps (aO st)=true)(c:qw (aO st) N a (aX st)=true)
  (g:GOk P w K mg base (CXx P w) k G)(len:∀vs H Q E,sp vs H Q E->vs.length=ps.length)
  (h:∀vs H Q E,sp vs H Q E->wpB G K (fun _=>E) a {nx:=fun _ H'=>Q .non H',rt:=Q} (start N vs) H):ju P w K mg base (CXx P w) (k+1) f b ps sp:=by
 obtain⟨n,o,kV,m,q,an,j,l,p,rfl,i,d⟩:=F.ex;exact B2 i d e c g len h
end
noncomputable def gam(vals:List (Str×V))(c:List ((Str×Nat)×(Sp×List V)))(d:List ((Str×Nat)×(Addr×Sp×List V)):=[]) (b:List (Addr×List (Key×V)):=[]) (e f:List ((Str×Nat)×(Addr×Sp×List V)):=[]):Gam:=⟨fun x=>vals.lookup x,fun x n=>c.lookup (x,n),fun x n=>d.lookup (x,n),fun a=>b.lookup a,fun x n=>e.lookup (x,n),fun m n=>f.lookup (m,n)⟩
theorem BH{c:Type}{b:c}:∀{l:List (Addr×c)},l.lookup a=some b->(a,b)∈l
 | [],h=>nomatch h
 | (k,v)::l,h=>by
  rw[a6]at h;cases q:(a==k)with
  |true=>rw[q]at h;cases h;rw[beq_iff_eq.mp q];exact aL
  |false=>rw[q]at h;exact aJ _ (BH h)
section
variable {P:Program}{w:World}{K:ah}{mg:Str->Option Value}{base:Heap}{CX:CXT}
theorem GOk.start{vals:List (Str×V)}(i:∀x v,(x,v)∈vals->∃u,mg x=some u/\RelV v u)(f:∀x∈jr,mg x=none){b:List (Addr×List (Key×V))}(g:∀a kvs,(a,kvs)∈b->DkIn P w K a kvs:=by intro a kvs h;exact nomatch h):GOk P w K mg base CX 0 (gam vals [] [] b):=
 ⟨fun x v e=>i x v (bu e),fun x n d c e=>(nomatch e),fun x n C d c e=>(nomatch e),fun a kvs e=>g a kvs (BH (show cU a b=some kvs from e)),fun x n C d c e=>(nomatch e),fun x n C d c e=>(nomatch e),f⟩
theorem GOk.add{vals:List (Str×V)}{s:List ((Str×Nat)×(Sp×List V))}{p:fh}{sp:Sp}{u v z:List ((Str×Nat)×(Addr×Sp×List V))}{t:List (Addr×List (Key×V))}(g:GOk P w K mg base CX k (gam vals s u t v z))
  (F:ju P w K mg base CX (k+1) f p ps sp)(G:mg x=some (.ref f))(E:cL K (.ref f)=true)(B:Binds K p ps ds)(D:bM dvs ds):GOk P w K mg base CX (k+1) (gam vals (((x,n),(sp,dvs))::s) u t v z):=by
 refine⟨g.val,fun y m b a e=>?_,fun y m C b a e=>?_,g.dic,fun y m C b a e=>?_,fun y m C b a e=>?_,g.blt⟩
 rotate_left
 rotate_left
 ·obtain⟨d,h,l,c,j,i,r⟩:=g.mak y m C b a e;exact⟨d,h,l,c,j,fv i,r⟩
 ·obtain⟨d,h,l,c,j,i,r⟩:=g.mth y m C b a e;exact⟨d,h,l,c,j,fv i,r⟩
 rotate_left
 ·obtain⟨d,h,l,c,j,i,r⟩:=g.ini y m C b a e;exact⟨d,h,l,c,j,fv i,r⟩
 have o:cU (y,m) (((x,n),(sp,dvs))::s)=some (b,a):=e;rw[a6]at o;cases q:((y,m)==(x,n))with
 |true=>rw[q]at o;have A:(y,m)=(x,n):=eq_of_beq q;cases A;cases o;exact⟨f,p,ps,ds,k+1,az _,F,G,E,B,D⟩
 |false=>rw[q]at o;obtain⟨d,h,l,c,j,i,r⟩:=g.fn y m b a o;exact⟨d,h,l,c,j,fv i,r⟩
theorem GOk.addI{vals:List (Str×V)}{v:List ((Str×Nat)×(Sp×List V))}{p:fh}{sp:Sp}{s z A:List ((Str×Nat)×(Addr×Sp×List V))}{u:List (Addr×List (Key×V))}(g:GOk P w K mg base CX k (gam vals v s u z A))
  (M:MkX K C f)(F:ju P w K mg base CX (k+1) f p ps sp)(G:mg x=some (.ref C))(D:Binds K p ps ds)(E:bM dvs ds):GOk P w K mg base CX (k+2) (gam vals v (((x,n),(C,sp,dvs))::s) u z A):=by
 refine⟨g.val,fun y m b a e=>?_,fun y m t b a e=>?_,g.dic,fun y m C b a e=>(by
  obtain⟨d,h,l,c,j,i,r⟩:=g.mak y m C b a e;exact⟨d,h,l,c,j,aP i (by lia),r⟩),fun y m C b a e=>(by
  obtain⟨d,h,l,c,j,i,r⟩:=g.mth y m C b a e;exact⟨d,h,l,c,j,aP i (by lia),r⟩),g.blt⟩
 ·obtain⟨d,h,l,c,j,i,r⟩:=g.fn y m b a e;exact⟨d,h,l,c,j,aP i (by lia),r⟩
 have o:cU (y,m) (((x,n),(C,sp,dvs))::s)=some (t,b,a):=e;rw[a6]at o;cases q:((y,m)==(x,n))with
 |true=>rw[q]at o;have B:(y,m)=(x,n):=eq_of_beq q;cases B;cases o;exact⟨f,p,ps,ds,k+1,az _,M,F,G,D,E⟩
 |false=>rw[q]at o;obtain⟨d,h,l,c,j,i,r⟩:=g.ini y m t b a o;exact⟨d,h,l,c,j,aP i (by lia),r⟩
end
section
variable {K:ah}{H:Hp}{Q:VK}{i j:Int}
theorem wU:qM K .Add (.int i) (.int j) H Q↔Q (.int (i+j)) H:=by show _\/_↔_;simp[rI0,rCat]
theorem Jn:qM K .Sub (.int i) (.int j) H Q↔Q (.int (i-j)) H:=by show rI0 _ _ _ _ _↔_;simp[rI0]
theorem mul_ii:qM K .Mult (.int i) (.int j) H Q↔Ex i j/\Q (.int (i*j)) H:=by show _\/_↔_;simp[rI,rRep,JU]
theorem i9:qM K .Mod (.int i) (.int j) H Q↔0<j/\Q (.int (i%j)) H:=by show rI _ _ _ _ _ _↔_;simp[rI]
theorem div_ii:qM K .FloorDiv (.int i) (.int j) H Q↔CDiv i j/\Q (.int (i/j)) H:=by show rI _ _ _ _ _ _↔_;simp[rI]
theorem pow_ii:qM K .Pow (.int i) (.int j) H Q↔L5 i j/\Q (.int (i^j.toNat)) H:=by show rI _ _ _ _ _ _↔_;simp[rI]
theorem add_ss{y:Str}:qM K .Add (.str x) (.str y) H Q↔x.length+y.length<=sizeLine/\Q (.str (x++y)) H:=by show _\/_↔_;simp[rI0,rCat]
theorem Fu:iF K .Lt (.int i) (.int j) H Q↔Q (.bl (decide (i<j))) H:=by simp[iF,rI0]
theorem KR:iF K .LtE (.int i) (.int j) H Q↔Q (.bl (decide (i<=j))) H:=by simp[iF,rI0]
theorem Lf:iF K .Gt (.int i) (.int j) H Q↔Q (.bl (decide (j<i))) H:=by simp[iF,rI0]
theorem Lh:iF K .GtE (.int i) (.int j) H Q↔Q (.bl (decide (j<=i))) H:=by simp[iF,rI0]
theorem EZ{d:D}:Rep K H d (.int i)↔d=.int i:=by cases d<;>simp[Rep,eq_comm]
theorem kT:iF K .Eq (.int i) (.int j) H Q↔Q (.bl (decide (i=j))) H:=by
 simp only[iF,rEqD,EZ];constructor;·rintro⟨_,_,rfl,rfl,_,q⟩;exact q
 ·intro q;exact⟨_,_,rfl,rfl,aZ _,q⟩
theorem Fh:iF K .NotEq (.int i) (.int j) H Q↔Q (.bl (!decide (i=j))) H:=by
 simp only[iF,rNeD,EZ];constructor;·rintro⟨_,_,rfl,rfl,_,q⟩;exact q
 ·intro q;exact⟨_,_,rfl,rfl,aZ _,q⟩
theorem isnot_n{x:V}:iF K .IsNot x .non H Q↔Q (.bl (!decide (x=.non))) H:=by simp[iF]
theorem len_s:rBf K .len [.str z] H Q↔z.length<=sizeLine/\Q (.int z.length) H:=by simp[rBf]
theorem idx_s:rIx K (.str z) (.int i) H Q↔∃c,z.length<=sizeLine/\atI z.cps.toList i=some c/\Q (.str ⟨#[c]⟩) H:=by simp[rIx,rIxL,rIxT,rIxS]
theorem cut_s{lo hi:Option Int}:rSlc K (.str z) lo hi H Q↔z.length<=sizeLine/\Q (.str (wA z lo hi)) H:=by simp[rSlc,rSlL,rSlS]
end
structure sZ(J:It)(n:Nat)(it:Nat->V->Hp->Prop)(Hc:Hp->Prop):Prop where
 go:∀i H,Hc H->i<n->J.go i H
 stop:∀i H,Hc H->n<=i->J.stop i H
 yld:∀i H x H',Hc H->i<n->J.yld i H x H'->it i x H'/\aQ H H'
section
variable {K:ah}
theorem dZ:sZ (Itl K a) xs.length (fun i x _=>xs[i]? =some x) (fun H=>SqL K H a xs) where
 go:=fun i H h hi=>⟨xs,xs[i],h,by simp[hi]⟩
 stop:=fun i H h hi=>⟨xs,h,hi⟩
 yld:=fun i H x b h hi y=>by obtain⟨e,y⟩:=y;subst e;exact⟨y xs h,aQ.refl _⟩
theorem ES:sZ (Itt K a) xs.length (fun i x _=>xs[i]? =some x) (fun H=>SqT K H a xs) where
 go:=fun i H h hi=>⟨xs,xs[i],h,by simp[hi]⟩
 stop:=fun i H h hi=>⟨xs,h,hi⟩
 yld:=fun i H x b h hi y=>by obtain⟨e,y⟩:=y;subst e;exact⟨y xs h,aQ.refl _⟩
theorem cR{lo:Int}:sZ (Itr lo n) n (fun i x _=>x=.int (lo+i)) (fun _=>True) where
 go:=fun i H _ hi=>hi
 stop:=fun i H _ hi=>hi
 yld:=fun i H x a _ hi y=>by obtain⟨e,y⟩:=y;subst e;exact⟨y,aQ.refl _⟩
theorem seq_str:sZ (Its z) z.length (fun i x _=>∃c,z.cps[i]? =some c/\x=.str ⟨#[c]⟩) (fun _=>True) where
 go:=fun i H _ hi=>hi
 stop:=fun i H _ hi=>hi
 yld:=fun i H x a _ hi y=>by obtain⟨e,y⟩:=y;subst e;exact⟨y,aQ.refl _⟩
theorem av{p:Addr}{o:HO}(h:H p=none):aQ H (upd H p o):=fun b u e=>by rw[aS (a9 e h)];exact e
theorem kc{p:Addr}{o:HO}(h:upd H p o=H1)(hp:H p=none):aQ H H1/\H1 p=some o:=by subst h;exact⟨av hp,au⟩
theorem Jy:sZ (Ite K a) xs.length (fun i x H=>∃p v,x=.ref p/\H p=some (.tup [.int i,v])/\xs[i]? =some v) (fun H=>SqL K H a xs) where
 go:=fun i H h hi=>⟨xs,xs[i],h,by simp[hi]⟩
 stop:=fun i H h hi=>⟨xs,h,hi⟩
 yld:=fun i H x c h hi y=>by obtain⟨p,v,hp,e,b,y⟩:=y;subst e b;exact⟨⟨p,v,rfl,au,y xs h⟩,av hp⟩
def ForB(J:It)(g:TG)(tb:TS)(D:Ends)(σ:L2.St)(H:Hp):Prop:=∃W:Nat->Nat->L2.St->Hp->Prop,(∃m,W 0 m σ H)/\∀i m σ H,W i m σ H->
 (J.stop i H/\D.nx σ H)\/(J.go i H/\∃N:L2.St->Hp->Prop,(∀b H',N b H'->∃a,a<m/\W (i+1) a b H')/\∀x H',J.yld i H x H'->g x σ H' fun c H2=>tb {D with nx:=N,ct:=N,bk:=D.nx} c H2)
def CA(J:It)(g:TG)(tc:TT)(te:TE)(o:L2.St)(H1:Hp)(Q:VK):Prop:=∃W:Nat->Nat->L2.St->List V->Hp->Prop,(∃m,W 0 m o [] H1)/\
 ∀i m h acc H2,W i m h acc H2->(J.stop i H2/\∀l,H2 l=none->Q (.ref l) (upd H2 l (.lst acc)))\/(J.go i H2/\∃N:L2.St->List V->Hp->Prop,(∀j e H',N j e H'->∃f,f<m/\W (i+1) f j e H')/\
  ∀x c,J.yld i H2 x c->g x h c fun a k=>tc a k fun b d=>if b=true then te a d fun v n=>acc.length<sizeLine/\N a (acc++[v]) n else N a acc d)
theorem FL{J:It}{c:Nat->V->Hp->Prop}{b:Hp->Prop}{g:TG}{tb:TS}{D:Ends}(S:sZ J n c b)(a:Nat->L2.St->Hp->Prop)(h0:a 0 σ H)(f:∀i σ H,i<=n->a i σ H->b H)
  (h:∀i x σ H H',i<n->a i σ H->c i x H'->aQ H H'->g x σ H' fun o H2=>tb {D with nx:=a (i+1),ct:=a (i+1),bk:=D.nx} o H2) (d:∀σ H,a n σ H->D.nx σ H):
  ForB J g tb D σ H:=by
 refine⟨fun i m σ H=>m=n-i/\i<=n/\a i σ H,⟨n,by simp,aZ _,h0⟩,?_⟩;rintro i m σ H ⟨rfl,hi,p⟩;have q:=f i σ H hi p;by_cases hlt:i<n;·refine .inr ⟨S.go i H q hlt,a (i+1),fun r H' j=>⟨n-(i+1),by lia,rfl,hlt,j⟩,fun x H' y=>?_⟩;obtain⟨k,l⟩:=S.yld i H x H' q hlt y;exact h i x σ H H' hlt p k l
 ·have e:i=n:=by lia
  subst e;exact .inl ⟨S.stop i H q (az _),d σ H p⟩
theorem eJ{J:It}{B:Nat->V->Hp->Prop}{w:Hp->Prop}{g:TG}{D:TE}{Q:VK}{E:L2.St}(S:sZ J n B w)(hn:n<=sizeLine)(O:∀H,aQ H1 H->w H)
  (F:Nat->V->Hp->Prop)(I:∀i v H H',aQ H H'->F i v H->F i v H')(T:L2.St->Prop)(N:T E)
  (step:∀i x p o (R:L2.St->V->Hp->Prop),i<n->T p->aQ H1 o->B i x o->(∀j v h,T j->aQ o h->F i v h->R j v h)->g x p o fun G K=>D G K (R G))
  (M:∀vs H2 l,vs.length=n->(∀(i:Nat) v,vs[i]? =some v->F i v H2)->aQ H1 H2->H2 l=none->Q (.ref l) (upd H2 l (.lst vs))):
  CA J g tYes D E H1 Q:=by
 refine⟨fun i m p f H2=>m=n-i/\i<=n/\T p/\f.length=i/\aQ H1 H2/\∀(k:Nat) v,f[k]? =some v->F k v H2,⟨n,by simp,aZ _,N,rfl,aQ.refl _,fun k v e=>by simp at e⟩,?_⟩;rintro i m p f H2 ⟨rfl,hi,X,A,s,z⟩;have q:=O H2 s;by_cases hlt:i<n
 ·refine .inr ⟨S.go i H2 q hlt,fun j t H'=>T j/\t.length=i+1/\aQ H1 H'/\∀(k:Nat) v,t[k]? =some v->F k v H',fun j t H' ⟨a,b,c,d⟩=>⟨n-(i+1),by lia,rfl,hlt,a,b,c,d⟩,fun x o y=>?_⟩;obtain⟨Z,u⟩:=S.yld i H2 x o q hlt y;refine step i x p o (fun j v h=>f.length<sizeLine/\T j/\(f++[v]).length=i+1/\aQ H1 h/\∀(k:Nat) r,(f++[v])[k]? =some r->F k r h) hlt X (s.trans u) Z fun j v h Y C L=>⟨by lia,Y,by simp[A],(s.trans u).trans C,fun k r e=>?_⟩;by_cases hk:k<f.length;·rw[cK hk]at e;exact I k r H2 h (u.trans C) (z k r e)
  ·rw[bT (by lia)]at e;have U:k-f.length=0:=by have :=(aC.mp e).1;simp at this;lia
   rw[U]at e;have P:k=i:=by lia
   simp at e;subst e;rw[P];exact L
 ·have e:i=n:=by lia
  subst e;exact .inl ⟨S.stop i H2 q (az _),fun l W=>M f H2 l A z s W⟩
theorem dH{c:TI}{g:TG}{a:TT}{b:TE}{mk:L2.St->L2.St}{Q:VK}(h:c σ H fun J H1=>CA J g a b (mk σ) H1 Q):xW c g a b mk σ H Q:=h
theorem fJ{a:TI}{g:TG}{tb:TS}{D:Ends}(h:a σ H fun J H1=>ForB J g tb D σ H1):tFor a g tb D σ H:=h
theorem Cw{R:It->Hp->Prop}(a:σ[i]? =some (some (.str z)))(h:R (Its z) H):HE K (xw i) σ H R:=⟨_,a,.inr (.inr ⟨z,rfl,h⟩)⟩
theorem cT{R:It->Hp->Prop}(b:σ[i]? =some (some (.ref a)))(hq:SqL K H a xs)(h:R (Itl K a) H):HE K (xw i) σ H R:=⟨_,b,.inl ⟨a,rfl,⟨xs,hq⟩,h⟩⟩
theorem Cv{R:It->Hp->Prop}(b:σ[i]? =some (some (.ref a)))(hq:SqT K H a xs)(h:R (Itt K a) H):HE K (xw i) σ H R:=⟨_,b,.inr (.inl ⟨a,rfl,⟨xs,hq⟩,h⟩)⟩
theorem bool_list{vs:List V}{b:Nat->Bool}(c:vs.length=n)(h:∀(i:Nat) v,vs[i]? =some v->v=.bl (b i)):vs=((aG n).map b).map V.bl:=by
 apply bS;·simp[c]
 ·intro i a d;have :=h i vs[i] (by simp[a]);simp[this]
theorem rY{a:Type}(l:List a)(d:a)(f:a->Bool):((aG l.length).map fun i=>f (l.getD i d)).all id=l.all f:=by
 rw[o9,cz];simp only[bI,aY,Function.comp,id];constructor;·intro h c b;obtain⟨i,hi,rfl⟩:=cH.mp b;have :=h i hi;rw[ae,aa hi]at this;exact this
 ·intro h i hi;have :=h _ (bo hi);rw[ae,aa hi];exact this
theorem getD_some{a:Type}{l:List a}{d x:a}(h:l[i]? =some x):l.getD i d=x:=by rw[ae,h];rfl
theorem oQ:∀ns:List Int,fX (ns.map D.int)=0
 | []=>rfl
 |n::ns=>by rw[bR,fX,oQ ns];rfl
theorem qi(x y:Str):(x++y).length=x.length+y.length:=by show(x.cps++y.cps).size=_;rw[Array.size_append];rfl
end
def HasFn(K:ah)(x:Str)(st:Stmt):Prop:=∃(f:Addr)(oc:Value)(od an:Option Addr)(osl:Array (Option Value))(kV doc pm cdv ct:Value),dD K bF x=some (some (.ref f))/\
 K.lookup f=some ⟨oc,od,.func (aD x x (bh st) (aX st) (aO st) .none kV doc pm an cdv ct),osl⟩/\eO K cdv x=true/\cL K (.ref f)=true
theorem Le{st:Stmt}{an:Option Addr}{kV:Value}(a:dD K bF x=some (some (.ref f)))
  (l:K.lookup f=some ⟨oc,od,.func (aD x x (bh st) (aX st) (aO st) .none kV doc pm an cdv ct),osl⟩)(c:eO K cdv x=true)(k:cL K (.ref f)=true):HasFn K x st:=
 ⟨f,oc,od,an,osl,kV,doc,pm,cdv,ct,a,l,c,k⟩
structure Def(K:ah)(mg:Str->Option Value)(x:Str)(st:Stmt):Prop where
 ex:∃f fd,Fun K x x st f fd/\mg x=some (.ref f)
theorem HasFn.def{st:Stmt}(X:K.In h)(b:h.Ns bF mg)(H:HasFn K x st):Def K mg x st:=by obtain⟨f,i,j,an,m,kV,g,n,d,e,a,l,c,k⟩:=H;exact⟨f,_,D9 l c k,dz X b a⟩
section
variable {P:Program}{w:World}{K:ah}{mg:Str->Option Value}{base:Heap}
theorem cM{vals:List (Str×V)}{b:List ((Str×Nat)×(Sp×List V))}{st:Stmt}{sp:Sp}{l:CB}{e i j:List ((Str×Nat)×(Addr×Sp×List V))}{a:List (Addr×List (Key×V))}(g:GOk P w K mg base (CXx P w) k (gam vals b e a i j))(d:Def K mg x st)
  (c:(pD N ps (aO st)&&qw (aO st) N l (aX st))=true)
  (m:∀(kV doc pm:Value)(an:Option Addr)(cdv ct:Value)(us:List Value),us.length=ps.length->qB (aD x x (bh st) (aX st) (aO st) .none kV doc pm an cdv ct) ⟨us,[]⟩=pure (ps.zip us))
  (len:∀vs H Q E,sp vs H Q E->vs.length=ps.length)
  (h:∀vs H Q E,sp vs H Q E->wpB (gam vals b e a i j) K (fun _=>E) l {nx:=fun _ H'=>Q .non H',rt:=Q} (L2.start N vs) H):GOk P w K mg base (CXx P w) (k+1) (gam vals (((x,ps.length),(sp,[]))::b) e a i j):=by
 rw[aE]at c;obtain⟨f,p,F,o⟩:=d.ex;exact g.add (n:=ps.length) (FO F c.1 c.2 g len h) o F.kp (F.binds m) .nil
end
end R
variable {G:R.Gam}
set_option hygiene false in
local macro_rules | `(tactic| walk_at "wp") => `(tactic| simp only [_root_.R.wpB, _root_.R.wpS, _root_.R.wpE, _root_.R.wpT, _root_.R.wpL, _root_.R.wpO, _root_.R.wpC, _root_.R.wpG, _root_.R.wpGs, _root_.R.wpI, _root_.L2.xx, _root_.L2.tRet, _root_.L2.Jf, _root_.L2.A1, _root_.L2.yZ, _root_.L2.Ji, _root_.L2.tIfS, _root_.L2.Jl, _root_.L2.tOrV, _root_.L2.Jh, _root_.L2.tNot, _root_.L2.tAnd, _root_.L2.tOr, _root_.L2.AZ, _root_.R.AY, _root_.L2.tIf, _root_.L2.tCB, _root_.L2.lD, _root_.L2.uu, _root_.L2.xw, _root_.L2.tC, _root_.L2.tOp, _root_.L2.vh, _root_.L2.tTup, _root_.L2.tLst, _root_.L2.A2, _root_.L2.tBM, _root_.L2.tBM0, _root_.L2.tSl, _root_.L2.Jg, _root_.L2.yY, _root_.R.cv, _root_.L2.nH, _root_.L2.gTup, _root_.L2.Li, _root_.L2.gNil, _root_.R.CGs.len, _root_.L2.K9, _root_.L2.K8, _root_.L2.La, _root_.L2.Lc, _root_.List.getElem?_cons_zero, _root_.List.getElem?_cons_succ, _root_.Option.some.injEq, _root_.exists_eq_left', _root_.exists_eq_left, _root_.L2.V.bl.injEq, _root_.L2.V.int.injEq, _root_.L2.V.str.injEq, _root_.List.set_cons_zero, _root_.List.set_cons_succ, _root_.R.CL.len, _root_.R.Ty.t, _root_.R.wU, _root_.R.Jn, _root_.R.mul_ii, _root_.R.i9, _root_.R.div_ii, _root_.R.pow_ii, _root_.R.add_ss, _root_.R.Fu, _root_.R.KR, _root_.R.Lf, _root_.R.Lh, _root_.R.kT, _root_.R.Fh, _root_.R.isnot_n, _root_.R.len_s, _root_.R.idx_s, _root_.R.cut_s, _root_.List.append_nil, _root_.R.oF, _root_.List.map_cons, _root_.List.map_nil, _root_.List.nil_append, _root_.List.cons_append])
namespace Cp
open PySem R
noncomputable def DG:List Str:=["thing"]
noncomputable def vS:List Str:=["thing"]
noncomputable def wN:CB:=
  (.cons (.ret (.and (.bfn .isinstance (.cons (.var 0) (.cons (.ty .int) .nil))) (.not (.bfn .isinstance (.cons (.var 0) (.cons (.ty .bool) .nil))))))
  .nil)
noncomputable def Hf:List Str:=["thing"]
noncomputable def yi:List Str:=["thing"]
noncomputable def yB:CB:=
  (.cons (.iff (.not (.bfn .isinstance (.cons (.var 0) (.cons (.ty .str) .nil))))
  (.cons (.ret (.con (.bool false)))
  .nil)
  .nil)
  (.cons (.iff (.not (.chain .LtE .LtE (.con (.int 1)) (.bfn .len (.cons (.var 0) .nil)) (.glo "LONGEST_NAME")))
  (.cons (.ret (.con (.bool false)))
  .nil)
  .nil)
  (.cons (.ret (.bfn .all (.cons (.comp ["sign"] [] (.name 0) (.seq (.var 0)) .no (.cmp .In (.var 0) (.glo "LETTERS"))) .nil)))
  .nil)))
noncomputable def zH:List Str:=["thing"]
noncomputable def qZ:List Str:=["thing"]
noncomputable def rR:CB:=
  (.cons (.ret (.and (.call "is_whole" (.cons (.var 0) .nil)) (.cmp .In (.var 0) (.tup (.cons (.con (.int 0)) (.cons (.con (.int 1)) .nil))))))
  .nil)
noncomputable def vF:List Str:=["thing"]
noncomputable def nv:List Str:=["thing"]
noncomputable def oA:CB:=
  (.cons (.iff (.or (.not (.bfn .isinstance (.cons (.var 0) (.cons (.ty .tuple) .nil)))) (.cmp .Gt (.bfn .len (.cons (.var 0) .nil)) (.glo "MOST_PLACES")))
  (.cons (.ret (.con (.bool false)))
  .nil)
  .nil)
  (.cons (.ret (.bfn .all (.cons (.comp ["part"] [] (.name 0) (.seq (.var 0)) .no (.call "is_reading" (.cons (.var 0) .nil))) .nil)))
  .nil))
end Cp
set_option maxHeartbeats 1000000
namespace Cp
open PySem PySem.Spec PyProof.Rows L2 R
noncomputable def jC:Option HO->String
 |some (.lst _)=>"list"
 |some (.frz _ (.lst _))=>"list"
 |some (.tup _)=>"tuple"
 |some (.dK _)=>"dict"
 |some (.dT _)=>"dict"
 |_=>"?"
noncomputable def tyName(H:Hp):V->String
 |.non=>"NoneType"
 |.bl _=>"bool"
 |.int _=>"int"
 |.str _=>"str"
 |.ref a=>jC (H a)
 |_=>"?"
def Known(H:Hp)(x:V):Prop:=tyName H x≠"?"
theorem Known.same{x:V}(h:Known H x)(s:aQ H H'):Known H' x/\tyName H' x=tyName H x:=by
 cases x with
 |ref a=>
  have b:jC (H a)≠"?":=h;show jC (H' a)≠"?"/\jC (H' a)=jC (H a);cases e:H a with
  |none=>rw[e]at b;exact absurd rfl b
  |some o=>rw[s a o e];rw[e]at b;exact⟨b,rfl⟩
 |_=>exact⟨h,rfl⟩
theorem Known.ty{x:V}(h:Known H x):mZ K H x (.type (tyName H x)):=by
 cases x with
 |non=>exact .non
 |bl b=>exact .bl b
 |int i=>exact .int i
 |str s=>exact .str s
 |ref a=>
  have c:jC (H a)≠"?":=h;show mZ K H (.ref a) (.type (jC (H a)));cases e:H a with
  |none=>rw[e]at c;exact absurd rfl c
  |some o=>
   rw[e]at c;cases o with
   |lst xs=>exact .lst e
   |tup xs=>exact .tup e
   |dK kvs=>exact .dK e
   |dT kvs=>exact .dT e
   |frz ob u=>
    cases u with
    |lst xs=>exact .frz e
    |_=>exact absurd rfl c
   |_=>exact absurd rfl c
 |_=>exact absurd rfl h
theorem Ld{P:Option HO->Prop}(o:Option HO)(c:∀xs,P (some (.lst xs)))(d:∀b xs,P (some (.frz b (.lst xs))))(e:∀xs,P (some (.tup xs)))(f:∀kvs,P (some (.dK kvs)))(g:∀kvs,P (some (.dT kvs)))(a:jC o="?"->P o):P o:=by
 cases o with
 |none=>exact a rfl
 |some o=>
  cases o with
  |lst xs=>exact c xs
  |tup xs=>exact e xs
  |dK kvs=>exact f kvs
  |dT kvs=>exact g kvs
  |frz b u=>
   cases u with
   |lst xs=>exact d b xs
   |_=>exact a rfl
  |_=>exact a rfl
theorem Known.mem{x:V}(h:Known H x):tyName H x∈["NoneType","bool","int","str","list","tuple","dict"]:=by
 cases x with
 |ref a=>
  have b:jC (H a)≠"?":=h;show jC (H a)∈_;cases e:H a with
  |none=>rw[e]at b;exact absurd rfl b
  |some o=>
   rw[e]at b;cases o with
   |lst xs=>show "list"∈_;decide
   |tup xs=>show "tuple"∈_;decide
   |dK kvs=>show "dict"∈_;decide
   |dT kvs=>show "dict"∈_;decide
   |frz ob u=>
    cases u with
    |lst xs=>show "list"∈_;decide
    |_=>exact absurd rfl b
   |_=>exact absurd rfl b
 |_=>first
  |exact absurd rfl h
  |exact aL
  |exact aJ _ aL
  |exact aJ _ (aJ _ aL)
  |exact aJ _ (aJ _ (aJ _ aL))
noncomputable def kN(a b:String):Bool:=a==b||(a=="bool"&&b=="int")
theorem kit_ty(K:ah):∀(a:String)(t:Ty),a∈["NoneType","bool","int","str","list","tuple","dict"]->cP K (.type a) (.type t.t)=some (kN a t.t):=by intro a t h;simp only[aH,cV,or_false]at h;rcases h with rfl|rfl|rfl|rfl|rfl|rfl|rfl<;>cases t<;>rfl
theorem isi{x:V}{Q:VK}(h:Known H x)(t:Ty)(q:Q (.bl (kN (tyName H x) t.t)) H):rBf K .isinstance [x,.ty t.t] H Q:=
 .inl ⟨x,t.t,_,_,rfl,h.ty,kit_ty K _ t h.mem,q⟩
theorem zU{i:Int}:Known H (.int i):=by show "int"≠"?";decide
theorem kn_str:Known H (.str x):=by show "str"≠"?";decide
theorem DW(h:H a=some (.tup xs)):Known H (.ref a):=by show jC (H a)≠"?";rw[h];show "tuple"≠"?";decide
theorem DX(h:H a=some (.lst xs)):Known H (.ref a):=by show jC (H a)≠"?";rw[h];show "list"≠"?";decide
theorem eX{o:HO}(s:aQ H H1)(h:H l=none):aQ H (upd H1 l o):=fun b u e=>by rw[aS (a9 e h)];exact s b u e
noncomputable def isWhole:V->Bool
 |.int _=>true
 |_=>false
noncomputable def cE:V->Bool
 |.int i=>i==0||i==1
 |_=>false
def spB(f:V->Bool):Sp:=fun vs H Q _=>∃x,vs=[x]/\Known H x/\∀H',aQ H H'->Q (.bl (f x)) H'
theorem sub_int{x:V}(h:Known H x):(kN (tyName H x) "int"&& !kN (tyName H x) "bool")=isWhole x:=by
 cases x with
 |ref a=>have b:jC (H a)≠"?":=h;exact Ld (P:=fun o=>(kN (jC o) "int"&& !kN (jC o) "bool")=false) (H a) (fun _=>rfl) (fun _ _=>rfl) (fun _=>rfl) (fun _=>rfl) (fun _=>rfl) fun e=>by rw[e];rfl
 |_=>rfl
theorem AS:Sat G K (spB isWhole) wN vS:=by
 rintro c H Q E ⟨x,rfl,b,q⟩;unfold wN;change wpB G K _ _ _ [some x] H;walk_at "wp";refine isi b .int ⟨_,rfl,?_⟩;have e:=sub_int b;cases h1:kN (tyName H x) "int" with
 |false=>rw[h1,de]at e;have a:=q H (aQ.refl H);rw[<-e]at a;simpa[Ty.t,h1]using a
 |true=>rw[h1,fz]at e;have a:=q H (aQ.refl H);rw[<-e]at a;simp only[Ty.t,h1,if_true];exact isi b .bool ⟨_,rfl,a⟩
theorem xu(d:G.fn "is_whole" 1=some (spB isWhole,[])):
  Sat G K (spB cE) rR qZ:=by
 rintro h H Q E ⟨x,rfl,f,q⟩;unfold rR;change wpB G K _ _ _ [some x] H;walk_at "wp";refine⟨_,_,d,x,rfl,f,fun c b=>⟨_,rfl,?_⟩⟩;cases x with
 |int i=>
  refine⟨by decide,fun p hp=>.inr ⟨p,_,rfl,.inr (SqT.of au),rfl,rfl,?_⟩⟩;have g:=q _ (b.trans (av (o:=.tup [.int 0,.int 1]) hp));have e:(if false=true then !inV (.int i) [.int 0,.int 1]else inV (.int i) [.int 0,.int 1])=cE (.int i):=by show((0:Int)==i||((1:Int)==i||false))=(i==0||i==1);rw[Bool.or_false,Bool.beq_comm,Bool.beq_comm (a:=(1:Int))]
  rw[e];exact g
 |_=>exact q c b
noncomputable def mE(c:Nat):Bool:=decide (97<=c/\c<=122)
noncomputable def iu(z:Str):Bool:=decide (1<=z.length/\z.length<=8)&&z.cps.toList.all mE
noncomputable def isName:V->Bool
 |.str z=>iu z
 |_=>false
noncomputable def LETTERS:Str:="abcdefghijklmnopqrstuvwxyz"
theorem BO(c:Nat):decide (c∈LETTERS.cps.toList)=mE c:=by unfold mE;rw[show LETTERS.cps.toList=List.range' 97 26 by decide+kernel,decide_eq_decide,List.mem_range'_1];exact⟨fun h=>⟨h.1,Nat.le_of_lt_succ h.2⟩,fun h=>⟨h.1,Nat.lt_succ_of_le h.2⟩⟩
theorem D6{c:Nat}{Q:VK}(q:Q (.bl (mE c)) H):iF K .In (.str ⟨#[c]⟩) (.str LETTERS) H Q:=by refine .inl ⟨_,_,rfl,rfl,?_⟩;rw[StrLaws.found_one,BO];exact q
theorem DT:(20000:Nat)<=sizeLine:=by decide
def spN:Sp:=fun vs H Q _=>∃x,vs=[x]/\Known H x/\(∀z,x=.str z->z.length<=20000)/\∀H',aQ H H'->Q (.bl (isName x)) H'
theorem sub_str{x:V}(h:Known H x):kN (tyName H x) "str"=(match x with |.str _=>true|_=>false):=by
 cases x with
 |ref a=>exact Ld (P:=fun o=>kN (jC o) "str"=false) (H a) (fun _=>rfl) (fun _ _=>rfl) (fun _=>rfl) (fun _=>rfl) (fun _=>rfl) fun e=>by rw[e];rfl
 |_=>rfl
theorem Dc(v1:G.val "LETTERS"=some (.str LETTERS))(A:G.val "LONGEST_NAME"=some (.int 8)):
  Sat G K spN yB yi:=by
 rintro B H Q E ⟨x,rfl,m,g,q⟩;unfold yB;change wpB G K _ _ _ [some x] H;walk_at "wp";refine isi m .str ⟨_,rfl,?_⟩;rw[show Ty.t .str="str" from rfl,sub_str m];cases x with
 |str z=>
  have g:=g z rfl;have n:z.length<=sizeLine:=aP g DT;have all:∀R:VK,(∀b,aQ H b->R (.bl (z.cps.toList.all mE)) b)->xW (HE K (xw 0)) (nH 0) tYes (tOp (iF K .In) (xw 0) fun F H Q=>∃v,G.val "LETTERS"=some v/\Q v H) (oF ["sign"] []) [some (.str z)] H fun x j=>rBf K .all [x] j R:=by
   intro R r;refine dH (Cw rfl (eJ seq_str n (fun _ _=>trivial) (fun i v _=>v=.bl (mE (z.cps.toList.getD i 0))) (fun _ _ _ _ _ h=>h) (fun o=>∃t,o=[t]) ⟨none,rfl⟩ ?_ ?_))
   ·rintro i x o C R hi ⟨t,rfl⟩ D ⟨c,s,rfl⟩ k;refine⟨_,rfl,_,v1,D6 (k _ _ _ ⟨_,rfl⟩ (aQ.refl _) ?_)⟩;have :z.cps.toList[i]? =some c:=by simpa using s
    rw[ae,this];rfl
   ·intro B j l w p y u;have e:=bool_list w p;subst e;refine⟨l,_,rfl,SqL.of au,?_⟩;have f:((aG z.length).map fun i=>mE (z.cps.toList.getD i 0)).all id=z.cps.toList.all mE:=by have :=rY z.cps.toList 0 mE;rw[show z.cps.toList.length=z.length by simp[CH]]at this;exact this
    rw[f];exact r _ (y.trans (av u))
  simp only[gB,aW,if_false,A,kz,exists_eq_left',exists_eq_left,V.bl.injEq,V.int.injEq,KR,len_s,n,true_and];have a:∀b,aQ H b->Q (.bl (iu z)) b:=q;unfold iu at a;by_cases h1:1<=z.length
  ·by_cases h2:z.length<=8;·have d:decide ((1:Int)<=z.length)=true:=decide_eq_true (by lia);have f:decide ((z.length:Int)<=8)=true:=decide_eq_true (by lia);rw[decide_eq_true (And.intro h1 h2),fz]at a;simp only[d,f,if_true,gB,aW,if_false];exact all Q a
   ·have d:decide ((1:Int)<=z.length)=true:=decide_eq_true (by lia);have f:decide ((z.length:Int)<=8)=false:=decide_eq_false (by lia);rw[decide_eq_false (fun h=>h2 h.2),de]at a;simp only[d,f,if_true,Bool.not_false];exact a H (aQ.refl H)
  ·have d:decide ((1:Int)<=z.length)=false:=decide_eq_false (by lia);rw[decide_eq_false (fun h=>h1 h.1),de]at a;simp only[d,aW,if_false,Bool.not_false,if_true];exact a H (aQ.refl H)
 |_=>exact q H (aQ.refl H)
noncomputable def dS:Option HO->Option (List V)
 |some (.tup xs)=>some xs
 |_=>none
theorem mF{o:Option HO}(h:dS o=some xs):o=some (.tup xs):=by
 cases o with
 |none=>cases h
 |some o=>cases o<;>first | (cases h;rfl) |cases h
theorem xX(o:Option HO):kN (jC o) "tuple"=(dS o).isSome:=by
 cases o with
 |none=>rfl
 |some o=>
  cases o with
  |frz ob u=>cases u<;>rfl
  |_=>rfl
noncomputable def dE(H:Hp):V->Bool
 |.ref a=>match dS (H a)with
  |some xs=>decide (xs.length<=60)&&xs.all cE
  |none=>false
 |_=>false
def spR:Sp:=fun vs H Q _=>∃x,vs=[x]/\Known H x/\(∀a xs,x=.ref a->H a=some (.tup xs)->xs.length<=20000/\∀y∈xs,Known H y)/\∀H',aQ H H'->Q (.bl (dE H x)) H'
theorem uo(m:G.fn "is_reading" 1=some (spB cE,[]))(v1:G.val "MOST_PLACES"=some (.int 60)):
  Sat G K spR oA nv:=by
 rintro I H Q E ⟨x,rfl,o,w,q⟩;unfold oA;change wpB G K _ _ _ [some x] H;walk_at "wp";refine isi o .tuple ⟨_,rfl,?_⟩;rw[show Ty.t .tuple="tuple" from rfl];cases x with
 |ref a=>
  show if(!kN (jC (H a)) "tuple")=true then _ else _
  rw[xX];have d:∀b,aQ H b->Q (.bl (match dS (H a)with |some xs=>decide (xs.length<=60)&&xs.all cE|none=>false)) b:=q;cases e0:dS (H a)with
  |none=>rw[e0]at d;exact d H (aQ.refl H)
  |some xs=>
    rw[e0]at d;have e:=mF e0;have c:∀b,aQ H b->Q (.bl (decide (xs.length<=60)&&xs.all cE)) b:=d;obtain⟨p,z⟩:=w a xs rfl e;have r:xs.length<=sizeLine:=aP p DT;simp only[fW,gB,aW,if_false];refine Or.inl ⟨a,xs,rfl,.inr (SqT.of e),_,v1,?_⟩;rw[Lf];refine⟨_,rfl,?_⟩;by_cases hle:xs.length<=60
    ·rw[decide_eq_true hle,fz]at c;have f:decide ((60:Int)<xs.length)=false:=decide_eq_false (by lia);rw[f];simp only[aW,if_false];refine dH (Cv rfl (SqT.of e) (eJ ES r (fun J B=>B.tup (SqT.of e)) (fun i v _=>v=.bl (cE (xs.getD i .non))) (fun _ _ _ _ _ h=>h) (fun j=>∃t,j=[t]) ⟨none,rfl⟩ ?_ ?_));·rintro i y j M R hi ⟨t,rfl⟩ D g k;have A:y∈xs:=aI g;exact⟨_,_,m,y,rfl,y,rfl,((z y A).same D).1,fun N F=>k _ _ _ ⟨_,rfl⟩ F (by rw[getD_some g])⟩
     ·intro I L l u n C s;have e:=bool_list u n;subst e;refine⟨l,_,rfl,SqL.of au,?_⟩;rw[rY xs .non cE];exact c _ (C.trans (av s))
    ·rw[decide_eq_false hle,de]at c;have f:decide ((60:Int)<xs.length)=true:=decide_eq_true (by lia);rw[f];simpa using c H (aQ.refl H)
 |_=>exact q H (aQ.refl H)
end Cp
namespace Cp
open PySem R
noncomputable def Hg:List Str:=["thing"]
noncomputable def yj:List Str:=["thing"]
noncomputable def yC:CB:=
  (.cons (.iff (.or (.not (.bfn .isinstance (.cons (.var 0) (.cons (.ty .tuple) .nil)))) (.cmp .NotEq (.bfn .len (.cons (.var 0) .nil)) (.con (.int 2))))
  (.cons (.ret (.con (.bool false)))
  .nil)
  .nil)
  (.cons (.ret (.and (.call "is_name" (.cons (.idx (.var 0) (.con (.int 0))) .nil)) (.call "are_readings" (.cons (.idx (.var 0) (.con (.int 1))) .nil))))
  .nil))
noncomputable def DH:List Str:=["thing"]
noncomputable def vT:List Str:=["thing","names","counts"]
noncomputable def wO:CB:=
  (.cons (.iff (.or (.not (.bfn .isinstance (.cons (.var 0) (.cons (.ty .list) .nil)))) (.cmp .Gt (.bfn .len (.cons (.var 0) .nil)) (.glo "MOST_COPIES")))
  (.cons (.ret (.con (.bool false)))
  .nil)
  .nil)
  (.cons (.iff (.not (.bfn .all (.cons (.comp ["part"] [] (.name 0) (.seq (.var 0)) .no (.call "is_copy" (.cons (.var 0) .nil))) .nil)))
  (.cons (.ret (.con (.bool false)))
  .nil)
  .nil)
  (.cons (.asgc 1 (.comp ["name","readings"] [] (.tup (.cons (.name 0) (.cons (.name 1) .nil))) (.seq (.var 0)) .no (.var 0)))
  (.cons (.asgc 2 (.comp ["name","readings"] [] (.tup (.cons (.name 0) (.cons (.name 1) .nil))) (.seq (.var 0)) .no (.bfn .len (.cons (.var 1) .nil))))
  (.cons (.ret (.and (.cmp .Eq (.bfn .len (.cons (.bfn .set (.cons (.var 1) .nil)) .nil)) (.bfn .len (.cons (.var 1) .nil))) (.cmp .LtE (.bfn .len (.cons (.bfn .set (.cons (.var 2) .nil)) .nil)) (.con (.int 1)))))
  .nil)))))
noncomputable def zB:List Str:=["table"]
noncomputable def qT:List Str:=["table"]
noncomputable def rJ:CB:=
  (.cons (.iff (.not (.call "is_table" (.cons (.var 0) .nil)))
  .hole
  .nil)
  .nil)
noncomputable def xD:List Str:=["table"]
noncomputable def pF:List Str:=["table"]
noncomputable def pL:CB:=
  (.cons (.expr (.call "need_table" (.cons (.var 0) .nil)))
  (.cons (.iff (.cmp .Eq (.bfn .len (.cons (.var 0) .nil)) (.con (.int 0)))
  (.cons (.ret (.con (.int 0)))
  .nil)
  .nil)
  (.cons (.ret (.bfn .len (.cons (.idx (.idx (.var 0) (.con (.int 0))) (.con (.int 1))) .nil)))
  .nil)))
end Cp
namespace Cp
open PySem PySem.Spec PyProof.Rows L2 R
def Kn1(H:Hp)(x:V):Prop:=Known H x/\∀z,x=.str z->z.length<=20000
def Kn2(H:Hp)(x:V):Prop:=Kn1 H x/\∀a xs,x=.ref a->H a=some (.tup xs)->xs.length<=20000/\∀y∈xs,Kn1 H y
def Kn3(H:Hp)(x:V):Prop:=Kn1 H x/\∀a xs,x=.ref a->H a=some (.tup xs)->xs.length<=20000/\∀y∈xs,Kn2 H y
noncomputable def eQ:Option HO->Option (List V)
 |some (.lst xs)=>some xs
 |some (.frz _ (.lst xs))=>some xs
 |_=>none
def Kn4(H:Hp)(x:V):Prop:=Kn1 H x/\∀a xs,x=.ref a->eQ (H a)=some xs->xs.length<=20000/\∀y∈xs,Kn3 H y
theorem yQ{o:HO}(s:aQ H H')(k:H a≠none)(h:H' a=some o):H a=some o:=by
 cases e:H a with
 |none=>exact absurd e k
 |some u=>rw[s a u e]at h;exact h
theorem Known.some(k:Known H (.ref a)):H a≠none:=fun e=>by have b:jC (H a)≠"?":=k;rw[e]at b;exact b rfl
theorem Kn1.same{x:V}(h:Kn1 H x)(s:aQ H H'):Kn1 H' x:=⟨(h.1.same s).1,h.2⟩
theorem Kn2.same{x:V}(h:Kn2 H x)(s:aQ H H'):Kn2 H' x:=⟨h.1.same s,fun a d e b=>by subst e;obtain⟨l,k⟩:=h.2 a d rfl (yQ s h.1.1.some b);exact⟨l,fun y c=>(k y c).same s⟩⟩
theorem Kn3.same{x:V}(h:Kn3 H x)(s:aQ H H'):Kn3 H' x:=⟨h.1.same s,fun a d e b=>by subst e;obtain⟨l,k⟩:=h.2 a d rfl (yQ s h.1.1.some b);exact⟨l,fun y c=>(k y c).same s⟩⟩
theorem yR{x:V}(h:Known H x)(s:aQ H H'):dE H' x=dE H x:=by
 cases x with
 |ref a=>
  show(match dS (H' a)with |some xs=>_|none=>_)=(match dS (H a)with |some xs=>_|none=>_);cases e:H a with
  |none=>exact absurd e h.some
  |some o=>rw[s a o e]
 |_=>rfl
noncomputable def dj(H:Hp):V->Bool
 |.ref a=>match dS (H a)with
  |some [n,r]=>isName n&&dE H r
  |_=>false
 |_=>false
theorem HL{x:V}(h:Kn3 H x)(s:aQ H H'):dj H' x=dj H x:=by
 cases x with
 |ref a=>
  show(match dS (H' a)with |some [n,r]=>_|_=>_)=(match dS (H a)with |some [n,r]=>_|_=>_);cases e:H a with
  |none=>exact absurd e h.1.1.some
  |some o=>
   rw[s a o e];cases o with
   |tup xs=>
    match xs with
    | []=>rfl
    | [_]=>rfl
    | [n,r]=>have k:=(h.2 a _ rfl e).2 r (by simp);show(isName n&&dE H' r)=(isName n&&dE H r);rw[yR k.1.1 s]
    |_::_::_::_=>rfl
   |_=>rfl
 |_=>rfl
def spC:Sp:=fun vs H Q _=>∃x,vs=[x]/\Kn3 H x/\∀H',aQ H H'->Q (.bl (dj H x)) H'
theorem Dd(u:G.fn "is_name" 1=some (spN,[]))(v:G.fn "are_readings" 1=some (spR,[])):
  Sat G K spC yC yj:=by
 rintro C H Q E ⟨x,rfl,i,q⟩;unfold yC;change wpB G K _ _ _ [some x] H;walk_at "wp";refine isi i.1.1 .tuple ⟨_,rfl,?_⟩;rw[show Ty.t .tuple="tuple" from rfl];cases x with
 |ref a=>
  show if(!kN (jC (H a)) "tuple")=true then _ else _
  rw[xX];have c:∀f,aQ H f->Q (.bl (match dS (H a)with |some [n,r]=>isName n&&dE H r|_=>false)) f:=q;cases e0:dS (H a)with
  |none=>rw[e0]at c;exact c H (aQ.refl H)
  |some xs=>
   have e:=mF e0;rw[e0]at c;obtain⟨z,d⟩:=i.2 a xs rfl e;simp only[fW,gB,aW,if_false];refine Or.inl ⟨a,xs,rfl,.inr (SqT.of e),?_⟩;show iF K .NotEq (.int (xs.length:Int)) (.int 2) H _;rw[Fh];refine⟨_,rfl,?_⟩
   match xs,z,d,e,c with
   | [],_,_,_,c=>exact c H (aQ.refl H)
   | [_],_,_,_,c=>exact c H (aQ.refl H)
   |_::_::_::r,_,_,_,c=>rw[if_pos (by simp;lia)];exact c H (aQ.refl H)
   | [n,r],_,d,e,c=>
    rw[if_neg (by simp)];have j:=d n (by simp);have m:=d r (by simp);refine⟨_,_,u,.inr (.inl ⟨a,[n,r],0,n,rfl,rfl,SqT.of e,rfl,n,rfl,j.1.1,j.1.2,fun p g=>⟨_,rfl,?_⟩⟩)⟩;have h:∀f,aQ H f->Q (.bl (isName n&&dE H r)) f:=c;cases en:isName n with
    |false=>rw[en,de]at h;rw[if_neg ao];exact h p g
    |true=>
     rw[en,fz]at h;rw[if_pos rfl];have o:=m.same g;refine⟨_,_,v,.inr (.inl ⟨a,[n,r],1,r,rfl,rfl,g.tup (SqT.of e),rfl,r,rfl,o.1.1,fun b B t w=>?_,fun s A=>?_⟩)⟩;·obtain⟨l,k⟩:=o.2 b B t w;exact⟨l,fun y d=>(k y d).1⟩
     ·rw[yR m.1.1 g];exact h s (g.trans A)
 |_=>exact q H (aQ.refl H)
theorem BJ{vs:List V}{f:V->V}(c:vs.length=xs.length)(h:∀(i:Nat) v,vs[i]? =some v->v=f (xs.getD i .non)):vs=xs.map f:=by
 apply bS;·simp[c]
 ·intro i a d;have b:i<xs.length:=by lia
  have :=h i vs[i] (by simp[a]);rw[this,bH,ae,aa b];rfl
theorem yh:∀(l:List Str),(l.map (fu:Str->Key)).Nodup↔l.Nodup
 | []=>by simp
 |x::l=>by
  rw[bR,bP,bP,yh l];have e:fu x∈l.map (fu:Str->Key)↔x∈l:=by
   constructor
   ·intro h;obtain⟨y,a,e⟩:=aF.mp h;injection e with e
    rw[<-e];exact a
   ·exact fun h=>aF.mpr ⟨x,h,rfl⟩
  rw[e]
theorem lJ(h:eQ (H a)=some xs):SqL K H a xs:=by
 cases e:H a with
 |none=>rw[e]at h;cases h
 |some o=>
  rw[e]at h;cases o with
  |lst ys=>cases h;exact .inl (.inl e)
  |frz ob u=>cases u<;>first | (cases h;exact .inl (.inr ⟨ob,e⟩)) |cases h
  |_=>cases h
theorem Jm(o:Option HO):kN (jC o) "list"=(eQ o).isSome:=by
 cases o with
 |none=>rfl
 |some o=>
  cases o with
  |frz ob u=>cases u<;>rfl
  |_=>rfl
noncomputable def aU(H:Hp):V->Str
 |.ref a=>match dS (H a)with
  |some (.str z::_)=>z
  |_=>""
 |_=>""
noncomputable def cy(H:Hp):V->Nat
 |.ref a=>match dS (H a)with
  |some [_,.ref b]=>(dS (H b)).elim 0 jZ
  |_=>0
 |_=>0
theorem ix{x:V}(h:dj H x=true):∃a z b ys,x=.ref a/\H a=some (.tup [.str z,.ref b])/\H b=some (.tup ys)/\iu z=true/\ys.length<=60/\(∀y∈ys,cE y=true)/\aU H x=z/\cy H x=ys.length:=by
 cases x with
 |ref a=>
  have d:(match dS (H a)with |some [n,r]=>isName n&&dE H r|_=>false)=true:=h;split at d
  ·rename_i n r e;rw[aE]at d;obtain⟨f,g⟩:=d;cases n with
   |str z=>
    cases r with
    |ref b=>
     have c:(match dS (H b)with |some xs=>decide (xs.length<=60)&&xs.all cE|none=>false)=true:=g;split at c
     ·rename_i ys eb;rw[aE,decide_eq_true_eq,bI]at c;refine⟨a,z,b,ys,rfl,mF e,mF eb,f,c.1,c.2,?_,?_⟩;·show(match dS (H a)with |some (.str z::_)=>z|_=>"")=z;rw[e]
      ·show(match dS (H a)with |some [_,.ref b]=>(dS (H b)).elim 0 jZ|_=>0)=ys.length;rw[e];show(dS (H b)).elim 0 jZ=ys.length;rw[eb];rfl
     ·cases c
    |_=>cases g
   |_=>cases f
  ·cases d
 |_=>cases h
noncomputable def dW(H:Hp):V->Bool
 |.ref a=>match eQ (H a)with
  |some xs=>decide (xs.length<=40)&&(xs.all (dj H)&&(decide ((xs.map (aU H)).Nodup)&&decide (∀y∈xs,∀z∈xs,cy H y=cy H z)))
  |none=>false
 |_=>false
def spT:Sp:=fun vs H Q _=>∃x,vs=[x]/\Kn4 H x/\∀H',aQ H H'->Q (.bl (dW H x)) H'
theorem AU(g1:G.fn "is_copy" 1=some (spC,[]))(v1:G.val "MOST_COPIES"=some (.int 40)):
  Sat G K spT wO vT:=by
 rintro vs H Q c0 ⟨a0,rfl,W,q⟩;unfold wO;change wpB G K _ _ _ [some a0,none,none] H;walk_at "wp";refine isi W.1.1 .list ⟨_,rfl,?_⟩;rw[show Ty.t .list="list" from rfl];cases a0 with
 |ref a=>
  show if(!kN (jC (H a)) "list")=true then _ else _
  rw[Jm];have x:∀f,aQ H f->Q (.bl (match eQ (H a)with |some xs=>decide (xs.length<=40)&&(xs.all (dj H)&&(decide ((xs.map (aU H)).Nodup)&&decide (∀y∈xs,∀z∈xs,cy H y=cy H z))) |none=>false)) f:=q;cases e0:eQ (H a)with
  |none=>rw[e0]at x;exact x H (aQ.refl H)
  |some xs=>
   rw[e0]at x;obtain⟨hl,hy⟩:=W.2 a xs rfl e0;have L:xs.length<=sizeLine:=aP hl DT;simp only[fW,gB,aW,if_false];refine Or.inl ⟨a,xs,rfl,.inl (lJ e0),_,v1,?_⟩;rw[Lf];refine⟨_,rfl,?_⟩;by_cases hle:xs.length<=40
   ·rw[decide_eq_false (by lia:¬(40:Int)<xs.length),if_neg ao];have m:∀f,aQ H f->Q (.bl (xs.all (dj H)&&(decide ((xs.map (aU H)).Nodup)&&decide (∀y∈xs,∀z∈xs,cy H y=cy H z)))) f:=fun f s'=>by have z:Q (.bl (decide (xs.length<=40)&&(xs.all (dj H)&&(decide ((xs.map (aU H)).Nodup)&&decide (∀y∈xs,∀z∈xs,cy H y=cy H z))))) f:=x f s';rw[decide_eq_true hle,fz]at z;exact z
    have B:∀{r:Hp},aQ H r->SqL K r a xs:=fun n=>n.seq (lJ e0);refine dH (cT rfl (lJ e0) (eJ dZ L (fun r n=>B n) (fun i v _=>v=.bl (dj H (xs.getD i .non))) (fun _ _ _ _ _ h=>h) (fun g=>∃t,g=[t]) ⟨none,rfl⟩ ?_ ?_));·rintro i y g T R hi ⟨t,rfl⟩ e d k;have Y:=hy y (aI d);exact⟨_,_,g1,y,rfl,y,rfl,Y.same e,fun s A=>k _ _ _ ⟨_,rfl⟩ A (by rw[getD_some d,HL Y e])⟩
    intro vs S l b5 hF s2 b0;have a1:=bool_list b5 hF;subst a1;refine⟨l,_,rfl,SqL.of au,_,rfl,?_⟩;rw[rY xs .non (dj H)];have e:aQ H (upd S l (.lst (((aG xs.length).map fun i=>dj H (xs.getD i .non)).map V.bl))):=s2.trans (av b0);generalize upd S l (.lst (((aG xs.length).map fun i=>dj H (xs.getD i .non)).map V.bl))=T at e;cases ea:xs.all (dj H)with
    |false=>rw[ea,de]at m;rw[if_pos (by rfl)];exact m T e
    |true=>
     rw[ea,fz]at m;rw[if_neg (by simp)];rw[bI]at ea;have sh:∀{i:Nat}{y:V},xs[i]? =some y->∃a z b o,y=.ref a/\H a=some (.tup [.str z,.ref b])/\H b=some (.tup o)/\aU H y=z/\cy H y=o.length:=fun d=>by obtain⟨a,z,b,o,j,D,E,_,_,_,h7,h8⟩:=ix (ea _ (aI d));exact⟨a,z,b,o,j,D,E,h7,h8⟩
     refine dH (cT rfl (B e) (eJ dZ L (fun r n=>B (e.trans n)) (fun i v _=>v=.str (aU H (xs.getD i .non))) (fun _ _ _ _ _ h=>h) (fun g=>∃t u,g=[t,u]) ⟨none,none,rfl⟩ ?_ ?_));·rintro i y g s R hi ⟨t,u,rfl⟩ A d k;obtain⟨b,z,c,o,rfl,j,D,E,U⟩:=sh d;refine⟨b,_,rfl,(e.trans A).tup (SqT.of j),rfl,_,_,rfl,_,_,rfl,rfl,_,rfl,k _ _ _ ⟨_,_,rfl⟩ (aQ.refl _) ?_⟩;rw[getD_some d,E]
     intro b8 s l1 b6 a4 A b1;have e1:b8=xs.map fun y=>V.str (aU H y):=BJ b6 a4;subst e1;have p:aQ H (upd s l1 (.lst (xs.map fun y=>V.str (aU H y)))):=e.trans (A.trans (av b1));have O:SqL K (upd s l1 (.lst (xs.map fun y=>V.str (aU H y)))) l1 (xs.map fun y=>V.str (aU H y)):=SqL.of au;generalize upd s l1 (.lst (xs.map fun y=>V.str (aU H y)))=H5 at p O;refine dH (cT rfl (B p) (eJ dZ L (fun r n=>B (p.trans n)) (fun i v _=>v=.int (cy H (xs.getD i .non))) (fun _ _ _ _ _ h=>h) (fun g=>∃t u,g=[t,u]) ⟨none,none,rfl⟩ ?_ ?_));·rintro i y g C R hi ⟨t,u,rfl⟩ F d k;obtain⟨b,z,c,o,rfl,j,D,E,U⟩:=sh d;refine⟨b,_,rfl,(p.trans F).tup (SqT.of j),rfl,_,_,rfl,_,_,rfl,rfl,_,rfl,Or.inl ⟨c,o,rfl,.inr ((p.trans F).tup (SqT.of D)),k _ _ _ ⟨_,_,rfl⟩ (aQ.refl _) ?_⟩⟩;rw[getD_some d,U]
     intro b9 C l2 b7 a5 F b2;have e2:b9=xs.map fun y=>V.int (cy H y):=BJ b7 a5;subst e2;have I:aQ H5 (upd C l2 (.lst (xs.map fun y=>V.int (cy H y)))):=F.trans (av b2);have Z:SqL K (upd C l2 (.lst (xs.map fun y=>V.int (cy H y)))) l2 (xs.map fun y=>V.int (cy H y)):=SqL.of au;generalize upd C l2 (.lst (xs.map fun y=>V.int (cy H y)))=H7 at I Z;have a2:(xs.map fun y=>(fu (aU H y):Key)).map kV=xs.map fun y=>V.str (aU H y):=by rw[bD];rfl
     have a3:(xs.map fun y=>(dX (cy H y:Int):Key)).map kV=xs.map fun y=>V.int (cy H y):=by rw[bD];rfl
     refine⟨l1,xs.map fun y=>(fu (aU H y):Key),rfl,by rw[a2];exact I.seq O,by rw[ai];lia,fun w a6=>?_⟩;refine .inr (.inr ⟨w,_,rfl,au,?_⟩);have J:aQ H7 (upd H7 w (_root_.Q.A6 w (_root_.Q.met (xs.map fun y=>(fu (aU H y):Key))).length)):=av a6;generalize upd H7 w (_root_.Q.A6 w (_root_.Q.met (xs.map fun y=>(fu (aU H y):Key))).length)=H8 at J;refine Or.inl ⟨l1,_,rfl,.inl (J.seq (I.seq O)),?_⟩;show iF K .Eq (.int ((_root_.Q.met (xs.map fun y=>(fu (aU H y):Key))).length:Int)) (.int ((xs.map fun y=>V.str (aU H y)).length:Int)) H8 _;rw[kT];refine⟨_,rfl,?_⟩;have b3:decide (((_root_.Q.met (xs.map fun y=>(fu (aU H y):Key))).length:Int)=((xs.map fun y=>V.str (aU H y)).length:Int))=decide ((xs.map (aU H)).Nodup):=by
      rw[decide_eq_decide,ai];have X:(xs.map fun y=>(fu (aU H y):Key)).Nodup↔(xs.map (aU H)).Nodup:=by
       have :(xs.map fun y=>(fu (aU H y):Key))=(xs.map (aU H)).map fu:=by rw[bD];rfl
       rw[this];exact yh _
      constructor;·intro z;refine X.mp (_root_.Q.zO ?_);rw[ai];exact Int.ofNat.inj z
      ·intro z;rw[_root_.Q.Ht (X.mpr z),ai]
     rw[b3];have s9:aQ H H8:=p.trans (I.trans J);cases en:decide ((xs.map (aU H)).Nodup)with
     |false=>rw[en,de]at m;rw[if_neg ao];exact m H8 s9
     |true=>
      rw[en,fz]at m;rw[if_pos rfl];refine⟨l2,xs.map fun y=>(dX (cy H y:Int):Key),rfl,by rw[a3];exact J.seq Z,by rw[ai];lia,fun c2 a7=>?_⟩;refine .inr (.inr ⟨c2,_,rfl,au,?_⟩);show iF K .LtE (.int ((_root_.Q.met (xs.map fun y=>(dX (cy H y:Int):Key))).length:Int)) (.int 1) _ Q;rw[KR];have b4:decide (((_root_.Q.met (xs.map fun y=>(dX (cy H y:Int):Key))).length:Int)<=1)=decide (∀y∈xs,∀z∈xs,cy H y=cy H z):=by
       rw[decide_eq_decide];have j:((_root_.Q.met (xs.map fun y=>(dX (cy H y:Int):Key))).length:Int)<=1↔(_root_.Q.met (xs.map fun y=>(dX (cy H y:Int):Key))).length<=1:=by lia
       rw[j,_root_.Q.met_one];constructor;·intro z y M P N;have :=z _ (aF.mpr ⟨y,M,rfl⟩) _ (aF.mpr ⟨P,N,rfl⟩);injection this with this;lia
       ·intro z k1 a8 k2 a9;obtain⟨y,M,rfl⟩:=aF.mp a8;obtain⟨P,N,rfl⟩:=aF.mp a9;rw[z y M P N]
      rw[b4];exact m _ (s9.trans (av a7))
   ·rw[decide_eq_true (by lia:(40:Int)<xs.length),if_pos rfl];have q1:Q (.bl (decide (xs.length<=40)&&(xs.all (dj H)&&(decide ((xs.map (aU H)).Nodup)&&decide (∀y∈xs,∀z∈xs,cy H y=cy H z))))) H:=x H (aQ.refl H);rw[decide_eq_false hle,de]at q1;exact q1
 |_=>exact q H (aQ.refl H)
def y9(C:Addr):Sp:=fun vs H Q E=>∃x,vs=[x]/\Kn4 H x/\(dW H x=true->∀H',aQ H H'->Q .non H')/\(dW H x=false->False)
theorem xr(b:G.fn "is_table" 1=some (spT,[])):
  Sat G K (y9 C) rJ qT:=by
 rintro h H Q E ⟨x,rfl,c,d,f⟩;unfold rJ;change wpB G K _ _ _ [some x] H;walk_at "wp";refine⟨_,_,b,x,rfl,c,fun a g=>⟨_,rfl,?_⟩⟩;cases e:dW H x with
 |true=>rw[if_neg (by simp)];exact d e a g
 |false=>rw[if_pos (by rfl)];exact f e
noncomputable def count(H:Hp):V->Nat
 |.ref a=>match eQ (H a)with
  |some (y::_)=>cy H y
  |_=>0
 |_=>0
theorem eV{x:V}(h:dW H x=true):∃a xs,x=.ref a/\eQ (H a)=some xs/\xs.length<=40/\(∀y∈xs,dj H y=true)/\(xs.map (aU H)).Nodup/\∀y∈xs,cy H y=count H x:=by
 cases x with
 |ref a=>
  have b:(match eQ (H a)with |some xs=>decide (xs.length<=40)&&(xs.all (dj H)&&(decide ((xs.map (aU H)).Nodup)&&decide (∀y∈xs,∀z∈xs,cy H y=cy H z))) |none=>false)=true:=h;split at b
  ·rename_i xs e;rw[aE,aE,aE,decide_eq_true_eq,decide_eq_true_eq,decide_eq_true_eq,bI]at b;obtain⟨d,f,g,i⟩:=b;refine⟨a,xs,rfl,e,d,f,g,fun y c=>?_⟩;show _=(match eQ (H a)with |some (y::_)=>cy H y|_=>0);rw[e];cases xs with
   |nil=>cases c
   |cons z r=>exact i y c z (.head _)
  ·cases b
 |_=>cases h
def uM(C:Addr):Sp:=fun vs H Q E=>∃x,vs=[x]/\Kn4 H x/\(dW H x=true->∀H',aQ H H'->Q (.int (count H x)) H')/\(dW H x=false->False)
theorem vb(m:G.fn "need_table" 1=some (y9 C,[])):
  Sat G K (uM C) pL pF:=by
 rintro D H Q E ⟨x,rfl,p,i,u⟩;unfold pL;change wpB G K _ _ _ [some x] H;walk_at "wp";refine⟨_,_,m,x,rfl,p,fun e f d=>?_,u⟩;obtain⟨a,g,rfl,h,A,n,B,o⟩:=eV e;have k:SqL K f a g:=d.seq (lJ h);refine Or.inl ⟨a,g,rfl,.inl k,?_⟩;show iF K .Eq (.int (g.length:Int)) (.int 0) f _;rw[kT];refine⟨_,rfl,?_⟩;cases g with
 |nil=>
  rw[if_pos (by rfl)];have z:=i e f d;have l:count H (.ref a)=0:=by show(match eQ (H a)with |some (y::_)=>cy H y|_=>0)=0;rw[h]
  rw[l]at z;exact z
 |cons y r=>rw[if_neg (by simp;lia)];obtain⟨b,z,c,v,rfl,q,s,_,_,_,_,t⟩:=ix (n y (.head _));refine .inl ⟨a,_,0,.ref b,rfl,rfl,k,cn (j:=0) rfl,?_⟩;refine .inr (.inl ⟨b,_,1,.ref c,rfl,rfl,d.tup (SqT.of q),rfl,?_⟩);refine Or.inl ⟨c,v,rfl,.inr (d.tup (SqT.of s)),?_⟩;have w:=i e f d;rw[<-o _ (.head _),t]at w;exact w
noncomputable def isPlace(H:Hp)(x:V):V->Bool
 |.int i=>decide (0<=i/\i<count H x)
 |_=>false
noncomputable def sF(H:Hp):V->List V
 |.ref a=>match dS (H a)with
  |some [_,.ref b]=>(dS (H b)).getD []
  |_=>[]
 |_=>[]
noncomputable def at_(H:Hp)(i:Int)(y:V):V:=(sF H y).getD i.toNat .non
theorem kU{x:V}(h:dj H x=true):∃a b,x=.ref a/\H a=some (.tup [.str (aU H x),.ref b])/\H b=some (.tup (sF H x))/\(sF H x).length=cy H x/\∀y∈sF H x,cE y=true:=by
 obtain⟨a,z,b,c,rfl,d,f,_,_,g,i,j⟩:=ix h;have e:sF H (.ref a)=c:=by show(match dS (H a)with |some [_,.ref b]=>(dS (H b)).getD [] |_=>[])=c;rw[d];show(dS (H b)).getD []=c;rw[f];rfl
 refine⟨a,b,rfl,by rw[i];exact d,by rw[e];exact f,by rw[e,j],by rw[e];exact g⟩
theorem Er{x:V}{i:Int}(h:dj H y=true)(g:cy H y=count H x)(hi:isPlace H x (.int i)=true):atI (sF H y) i=some (at_ H i y)/\cE (at_ H i y)=true:=by
 have k:0<=i/\i<count H x:=of_decide_eq_true hi;obtain⟨a,b,_,_,_,f,c⟩:=kU h;have d:i.toNat<(sF H y).length:=by lia
 have e:(sF H y)[i.toNat]? =some (at_ H i y):=by unfold at_;rw[ae,aa d];rfl
 refine⟨?_,c _ (aI e)⟩;have :=cn (j:=i.toNat) e
 rwa [show((i.toNat:Nat):Int)=i by lia]at this
theorem gW{v:V}(h:cE v=true):v=.int 0\/v=.int 1:=by
 cases v with
 |int i=>
  have a:(i==0||i==1)=true:=h;rw[cf,beq_iff_eq,beq_iff_eq]at a;rcases a with rfl|rfl;·exact .inl rfl
  ·exact .inr rfl
 |_=>cases h
theorem uV{J:It}{C:Hp->Prop}{g:TG}{K:TT}{L:TE}{Q:VK}{O:L2.St}{w:Type}{ds:List w}(Z:xs.length=ds.length)(S:sZ J xs.length (fun i x _=>xs[i]? =some x) C)(hn:xs.length<=sizeLine)(W:∀H,aQ H1 H->C H)
  (t:w->Bool)(f:V->w->V)(T:L2.St->Prop)(U:T O)
  (step:∀(i:Nat) x a k h (E:L2.St->V->Hp->Prop)(D:L2.St->Hp->Prop),xs[i]? =some x->ds[i]? =some a->T k->aQ H1 h->(∀d j,T d->aQ h j->t a=true->E d (f x a) j)->(∀d j,T d->aQ h j->t a=false->D d j)->
   g x k h fun o P=>K o P fun b B=>if b=true then L o B (E o)else D o B)
  (R:∀H2 l,aQ H1 H2->H2 l=none->Q (.ref l) (upd H2 l (.lst (((xs.zip ds).filter fun p=>t p.2).map fun p=>f p.1 p.2)))):CA J g K L O H1 Q:=by
 have N:(xs.zip ds).length=xs.length:=by rw[List.length_zip];lia
 refine⟨fun i m k F H2=>m=xs.length-i/\i<=xs.length/\T k/\F=(((xs.zip ds).take i).filter fun p=>t p.2).map (fun p=>f p.1 p.2)/\aQ H1 H2,⟨xs.length,by simp,aZ _,U,by simp,aQ.refl _⟩,?_⟩;rintro i m k F H2 ⟨rfl,hi,Y,rfl,n⟩;have q:=W H2 n;by_cases hlt:i<xs.length
 ·refine .inr ⟨S.go i H2 q hlt,fun d G A=>T d/\G=(((xs.zip ds).take (i+1)).filter fun p=>t p.2).map (fun p=>f p.1 p.2)/\aQ H1 A,fun d G A ⟨a,b,c⟩=>⟨xs.length-(i+1),by lia,rfl,hlt,a,b,c⟩,fun x h y=>?_⟩;obtain⟨M,v⟩:=S.yld i H2 x h q hlt y;have I:ds[i]? =some ds[i]:=aa (by lia);have e:(xs.zip ds).take (i+1)=(xs.zip ds).take i++[(x,ds[i])]:=by rw[dM,(List.getElem?_zip_eq_some (z:=(x,ds[i]))).mpr ⟨M,I⟩];rfl
  have a0:((((xs.zip ds).take i).filter fun p=>t p.2).map (fun p=>f p.1 p.2)).length<=i:=by rw[ai];refine aP (qd _ _) ?_;rw[dw];lia
  refine step i x _ k h _ _ M I Y (n.trans v) (fun d j r s u=>⟨by lia,r,?_,(n.trans v).trans s⟩) (fun d j r s u=>⟨r,?_,(n.trans v).trans s⟩);·rw[e,lA,dQ];simp[u]
  ·rw[e,lA,dQ];simp[u]
 ·have e:i=xs.length:=by lia
  subst e;rw[<-N,hZ];exact .inl ⟨S.stop _ H2 q (by rw[N];exact az _),fun l X=>R H2 l n X⟩
theorem sV{J:It}{p:Hp->Prop}{g:TG}{u:TT}{v:TE}{Q:VK}{w:L2.St}(S:sZ J xs.length (fun i x _=>xs[i]? =some x) p)(D:xs.length<=sizeLine)(C:∀H,aQ H1 H->p H)
  (t:V->Bool)(f:V->V)(T:L2.St->Prop)(B:T w)
  (step:∀x m c (k:L2.St->V->Hp->Prop)(j:L2.St->Hp->Prop),x∈xs->T m->aQ H1 c->(∀e d,T e->aQ c d->t x=true->k e (f x) d)->(∀e d,T e->aQ c d->t x=false->j e d)->
   g x m c fun n y=>u n y fun b o=>if b=true then v n o (k n)else j n o)
  (A:∀H2 l,aQ H1 H2->H2 l=none->Q (.ref l) (upd H2 l (.lst ((xs.filter t).map f)))):CA J g u v w H1 Q:=by
 refine uV rfl S D C t (fun _ a=>f a) T B (fun i x a m c k j q r=>?_) fun H2 l s h=>?_;·rw[q]at r;cases r;exact step x m c k j (aI q)
 ·have z:=A H2 l s h;rw[<-xl (l₁:=xs) (l₂:=xs) (az _),pB,bD]at z;exact z
end Cp
namespace Lt
open PySem R
noncomputable def xF:List Str:=["_law_script","_law_k"]
noncomputable def pH:List Str:=["_law_script","_law_k"]
noncomputable def pW:CB:=
  (.cons (.iff (.cmp .Lt (.var 1) (.bfn .len (.cons (.var 0) .nil)))
  (.cons (.ret (.idx (.var 0) (.var 1)))
  .nil)
  .nil)
  (.cons (.ret (.con (.int 0)))
  .nil))
end Lt
namespace Lt
open PySem PySem.Spec PyProof.Rows L2 R Cp
theorem wC{i j:Int}(h0:0<=j)(a:j<18446744073709551616):Ex i j:=.inr ⟨by lia,by lia⟩
theorem FW{i j:Int}(h0:0<=i)(a:i<18446744073709551616):Ex i j:=.inl ⟨by lia,by lia⟩
def vq(K:ah):Sp:=fun vs H Q _=>∃(a:Addr)(ns:List Int)(k:Nat),vs=[.ref a,.int k]/\SqL K H a (ns.map V.int)/\Q (.int (ns.getD k 0)) H
theorem wp_cell:Sat G K (vq K) pW pH:=by
 rintro d H Q E ⟨a,b,k,rfl,c,q⟩;unfold pW;change wpB G K _ _ _ [some (.ref a),some (.int k)] H;walk_at "wp";refine Or.inl ⟨a,_,rfl,.inl c,?_⟩;show iF K .Lt (.int (k:Int)) (.int ((b.map V.int).length:Int)) H _;rw[Fu,ai];refine⟨_,rfl,?_⟩;by_cases hk:k<b.length;·rw[decide_eq_true (by lia:(k:Int)<(b.length:Int)),if_pos rfl];refine .inl ⟨a,_,k,_,rfl,rfl,c,cn (j:=k) (v:=.int (b.getD k 0)) ?_,q⟩;rw[aA,aa hk,ae,aa hk];rfl
 ·rw[decide_eq_false (by lia:¬(k:Int)<(b.length:Int)),if_neg ao];rw[ae,bY (by lia)]at q;exact q
theorem short(h:n<=40):n<=sizeLine:=aP h (by decide)
end Lt
namespace Q
open PySem PySem.Spec PySem.W PyProof.Rows L2
theorem Bs(nd:ks.Nodup):(ord ks).Perm (aG ks.length):=by
 unfold ord;split;·exact d9 _
 ·have P:=(fo (vd nd) (by lia)).1;have :=eU.mp P.perm;simpa using this
theorem range_getD{a:Type}(d:a)(ys:List a):(aG ys.length).map (fun i=>ys.getD i d)=ys:=by
 apply bS;·simp
 ·intro i c b;simp[b]
theorem gv{a:Type}(d:a){ys:List a}(nd:ks.Nodup)(b:ks.length=ys.length):(sortBy d ks ys).Perm ys:=by unfold sortBy;have h:=(Bs nd).map fun i=>ys.getD i d;rw[b,range_getD]at h;exact h
theorem jg(nd:ks.Nodup):(sortBy ("":Str) ks ks).Pairwise fun a b=>tlt a b=true:=by
 unfold sortBy ord;split
 ·rename_i h;rw[range_getD]
  match ks,h with
  | [],_=>exact .nil
  | [x],_=>simp
  |_::_::_,h=>simp at h;lia
 ·rename_i h;obtain⟨P,U,_⟩:=fo (vd nd) (by lia:1<=ks.length);rw[cY];intro i j hi f d;have m:i<ks.length:=by simpa[P.size]using hi
  have g:j<ks.length:=by simpa[P.size]using f
  have u:=U i j d g;rw[bH,bH];have e:∀(k:Nat)(c:k<(run (nF ks) (dG ks.length)).toList.length),(run (nF ks) (dG ks.length)).toList[k]=at' (run (nF ks) (dG ks.length)) k:=fun k c=>by
   have l:k<(run (nF ks) (dG ks.length)).size:=by simpa using c
   simp[at',l]
  rw[e,e];exact u
theorem GI{y:Str}(a:tlt x y=true)(b:tlt y x=true):False:=by have c:=xV a b;unfold tlt at c;exact List.lt_irrefl _ (of_decide_eq_true c)
theorem k6:∀{l m:List Str},l.Perm m->l.Pairwise (fun a b=>tlt a b=true)->m.Pairwise (fun a b=>tlt a b=true)->l=m
 | [],m,p,_,_=>by rw[List.nil_perm.mp p]
 |x::l,[],p,_,_=>by simpa using p.length_eq
 |x::l,y::m,p,h1,h2=>by
  rw[List.pairwise_cons]at h1 h2;have e:x=y:=by
   by_cases e:x=y;·exact e
   ·have c:x∈m:=by
     have :=p.mem_iff.mp (aL (a:=x) (l:=l));rcases aH.mp this with z|z;·exact absurd z e
     ·exact z
    have d:y∈l:=by
     have :=p.mem_iff.mpr (aL (a:=y) (l:=m));rcases aH.mp this with z|z;·exact absurd z.symm e
     ·exact z
    exact(GI (h1.1 y d) (h2.1 x c)).elim
  subst e;rw[k6 (List.perm_cons x |>.mp p) h1.2 h2.2]
theorem tH{c:Type}(d:c)(f:c->Str)(p:c->Bool){ys:List c}(nd:(ys.map f).Nodup):((sortBy d (ys.map f) ys).filter p).map f=sortBy ("":Str) ((ys.filter p).map f) ((ys.filter p).map f):=by
 have g:((ys.filter p).map f).Nodup:=nd.sublist (kL.map _);refine k6 ?_ ?_ (jg g);·exact(((gv d nd (by simp)).filter p).map f).trans (gv ("":Str) g rfl).symm
 ·have h:((sortBy d (ys.map f) ys).map f).Pairwise fun a b=>tlt a b=true:=by
   have r:=jg nd;unfold sortBy at r⊢;rw[bD];have e:(ord (ys.map f)).map (f∘fun i=>ys.getD i d)=(ord (ys.map f)).map fun i=>(ys.map f).getD i ("":Str):=by
    apply cO
    intro i hi;have j:i<ys.length:=by have :=(Bs nd).mem_iff.mp hi;simpa using this
    show f (ys.getD i d)=(ys.map f).getD i ("":Str);rw[ae,ae,aA,aa j];rfl
   rw[e];exact r
  exact h.sublist (kL.map _)
end Q
namespace Lt
open PySem PySem.Spec PyProof.Rows L2 R Cp
mutual
theorem nN:∀d:D,eqD d d=true
 |.non=>rfl
 |.bl b=>by cases b<;>rfl
 |.int i=>by show(i==i)=true;simp
 |.str x=>by show(x==x)=true;simp
 |.tup ds=>sS ds
 |.lst ds=>sS ds
theorem sS:∀ds:List D,nL ds ds=true
 | []=>rfl
 |d::ds=>by show(eqD d d&&nL ds ds)=true;rw[nN d,sS ds];rfl
end
theorem EX:∀zs:List V,(∀z∈zs,cE z=true)->∃ds,fL K H ds zs/\fX ds=0
 | [],_=>⟨[],rfl,rfl⟩
 |z::zs,h=>by
  obtain⟨ds,a,b⟩:=EX zs fun y c=>h y (.tail _ c);rcases gW (h z (.head _))with rfl|rfl;·exact⟨.int 0::ds,⟨_,_,rfl,rfl,a⟩,by show max 0 (fX ds)=0;rw[b];rfl⟩
  ·exact⟨.int 1::ds,⟨_,_,rfl,rfl,a⟩,by show max 0 (fX ds)=0;rw[b];rfl⟩
theorem tI:∀ys:List V,(∀y∈ys,dj H y=true)->∃ds,fL K H ds ys/\fX ds<=2
 | [],_=>⟨[],rfl,by decide⟩
 |y::ys,h=>by obtain⟨ds,f,l⟩:=tI ys fun z g=>h z (.tail _ g);obtain⟨a,b,rfl,i,j,_,k⟩:=kU (h y (.head _));obtain⟨c,d,e⟩:=EX (K:=K) (H:=H) _ k;refine⟨.tup [.str (aU H (.ref a)),.tup c]::ds,⟨_,_,rfl,⟨a,_,rfl,SqT.of i,_,_,rfl,rfl,_,_,rfl,⟨b,_,rfl,SqT.of j,d⟩,rfl⟩,f⟩,?_⟩;show max (max 0 (max (fX c+1) 0)+1) (fX ds)<=2;rw[e];lia
end Lt
namespace L2
open PySem PySem.Spec PyProof.Rows
section
variable {κ α:Type}[DecidableEq κ](kf:α->κ)(vf:α->V)
noncomputable def rC(acc:List (κ×V))(y:α):List (κ×V):=if(eH acc (kf y)).isSome then acc else putK acc (kf y) (vf y)
noncomputable def fnd(ys:List α):List (κ×V):=ys.foldl (rC kf vf) []
theorem Lj(a:List (κ×V))(y:α)(k:κ):eH (rC kf vf a y) k=if(eH a k).isSome then eH a k else if k=kf y then some (vf y)else none:=by
 unfold rC;cases h:eH a (kf y)with
 |some v=>
  show eH a k=_;cases hk:eH a k with
  |some u=>rfl
  |none=>rw[if_neg (by simp),if_neg];intro e;rw[e,h]at hk;cases hk
 |none=>
  rw[if_neg (by simp),IV];by_cases e:k=kf y;·rw[if_pos e,e,h];simp
  ·rw[if_neg e];cases hk:eH a k<;>simp[e]
theorem fndS_nd{a:List (κ×V)}(y:α)(h:(a.map (·.1)).Nodup):((rC kf vf a y).map (·.1)).Nodup:=by
 unfold rC;cases e:eH a (kf y)with
 |some v=>exact h
 |none=>rw[if_neg (by simp)];exact nd_putK _ h e
theorem Lk(a:List (κ×V))(y:α):(rC kf vf a y).length<=a.length+1:=by
 unfold rC;split;·lia
 ·exact tR _ _ _
theorem B1:∀(ys:List α)(acc:List (κ×V)),(ys.foldl (rC kf vf) acc).length<=acc.length+ys.length
 | [],acc=>az _
 |y::ys,acc=>by have :=B1 ys (rC kf vf acc y);have :=Lk kf vf acc y;simp only[dR,bG];lia
theorem FN:∀(ys:List α){acc:List (κ×V)},(acc.map (·.1)).Nodup->((ys.foldl (rC kf vf) acc).map (·.1)).Nodup
 | [],_,h=>h
 |y::ys,_,h=>FN ys (fndS_nd kf vf y h)
theorem B0:∀(ys:List α)(acc:List (κ×V))(k:κ),eH (ys.foldl (rC kf vf) acc) k=if(eH acc k).isSome then eH acc k else(ys.find? fun y=>decide (kf y=k)).map vf
 | [],acc,k=>by show eH acc k=_;cases eH acc k<;>rfl
 |y::ys,acc,k=>by
  rw[dR,B0 ys,Lj];cases hk:eH acc k with
  |some u=>simp
  |none=>
   simp only[IH,aW,if_false];by_cases e:k=kf y;·rw[if_pos e,iY];simp[e]
   ·have a:¬kf y=k:=fun z=>e z.symm;rw[if_neg e,iY];simp[a]
theorem z8(ys:List α)(k:κ):eH (fnd kf vf ys) k=(ys.find? fun y=>decide (kf y=k)).map vf:=by unfold fnd;rw[B0];rfl
theorem fnd_nd(ys:List α):((fnd kf vf ys).map (·.1)).Nodup:=FN kf vf ys jk
theorem fnd_len(ys:List α):(fnd kf vf ys).length<=ys.length:=by have :=B1 kf vf ys [];rw[pA,w6]at this;exact this
theorem z9{ys:List α}{k:κ}:k∈(fnd kf vf ys).map (·.1)↔∃y∈ys,kf y=k:=by
 constructor
 ·intro h;cases e:eH (fnd kf vf ys) k with
  |none=>exact absurd h (AV e)
  |some v=>rw[z8]at e;obtain⟨y,a,_⟩:=i7.mp e;exact⟨y,List.mem_of_find?_eq_some a,by have :=List.find?_some a;simpa using this⟩
 ·rintro⟨y,a,e⟩;cases h:eH (fnd kf vf ys) k with
  |some v=>exact valV_in h
  |none=>rw[z8,Option.map_eq_none_iff,ui]at h;exact absurd e (by have :=h y a;simpa using this)
theorem Kv:∀{l m:List κ},l.Nodup->(∀x∈l,x∈m)->l.length<=m.length
 | [],_,_,_=>aZ _
 |a::l,m,h,hs=>by obtain⟨d,f⟩:=bP.mp h;have b:=hs a (.head _);have :=Kv (l:=l) (m:=m.erase a) f fun x c=>(qD (fun e:x=a=>d (by rw[<-e];exact c))).mpr (hs x (.tail _ c));rw[List.length_erase_of_mem b]at this;have :=List.length_pos_of_mem b;simp only[bG];lia
theorem fnd_all{ys:List α}{ks:List κ}(b:ks.Nodup)(l:∀y∈ys,kf y∈ks):(fnd kf vf ys).length<ks.length↔∃k∈ks,∀y∈ys,kf y≠k:=by
 have m:∀k∈(fnd kf vf ys).map (·.1),k∈ks:=fun k h=>by obtain⟨y,a,e⟩:=(z9 kf vf).mp h;rw[<-e];exact l y a
 have i:=fnd_nd kf vf ys;constructor
 ·intro n;apply aN
  intro j;have d:∀k∈ks,k∈(fnd kf vf ys).map (·.1):=fun k b=>by
   apply aN
   intro c;exact j ⟨k,b,fun y a e=>c ((z9 kf vf).mpr ⟨y,a,e⟩)⟩
  have :=Kv b d;rw[ai]at this;lia
 ·rintro⟨k,g,f⟩;have c:k∉(fnd kf vf ys).map (·.1):=fun h=>by obtain⟨y,a,e⟩:=(z9 kf vf).mp h;exact f y a e
  have :(k::(fnd kf vf ys).map (·.1)).Nodup:=bP.mpr ⟨c,i⟩;have :=Kv this (fun x hx=>by
   rcases aH.mp hx with rfl|hx;·exact g
   ·exact m x hx)
  rw[bG,ai]at this;lia
end
end L2
namespace Kc
open PySem R
noncomputable def sI:List Str:=["copies","one","other"]
noncomputable def lG:List Str:=["copies","one","other","found","name","readings"]
noncomputable def l6:CB:=
  (.cons (.asg (.name 3) (.dicT))
  (.cons (.forr (.tup (.cons (.name 4) (.cons (.name 5) .nil))) (.seq (.var 0))
  (.cons (.expr (.setd (.var 3) (.tup (.cons (.idx (.var 5) (.var 1)) (.cons (.idx (.var 5) (.var 2)) .nil))) (.var 4)))
  .nil))
  (.cons (.iff (.cmp .Lt (.bfn .lend (.cons (.var 3) .nil)) (.bfn .len (.cons (.glo "KINDS") .nil)))
  (.cons (.ret (.con .none))
  .nil)
  .nil)
  (.cons (.ret (.bfn .tuple (.cons (.comp ["kind"] [3] (.name 0) (.seq (.glo "KINDS")) .no (.idxd (.var 1) (.var 0))) .nil)))
  .nil))))
end Kc
namespace Kc
open PySem PySem.Spec PyProof.Rows L2 R Cp Lt
theorem eZ{J:It}{l:Nat->V->Hp->Prop}{k:Hp->Prop}{g:TG}{tb:TS}{D:Ends}(S:sZ J n l k)(e:Nat->L2.St->Hp->Prop)(h0:e 0 σ H)(o:∀i σ H,i<=n->e i σ H->k H)
  (p:∀i x σ H H' (j:Ends),i<n->e i σ H->l i x H'->aQ H H'->(∀f H2,e (i+1) f H2->j.nx f H2)->j.rt=D.rt->g x σ H' fun f H2=>tb j f H2)(m:∀σ H,e n σ H->D.nx σ H):ForB J g tb D σ H:=
 FL S e h0 o (fun i x σ H H' a b c d=>p i x σ H H' _ a b c d (fun _ _ h=>h) rfl) m
theorem iT(h:us.length=1):∃a,us=[a]:=by
 cases us with
 |nil=>exact nomatch h
 |cons a r=>exact⟨a,by rw[aV.mp (i4 h)]⟩
theorem eF(h:us.length=2):∃a b,us=[a,b]:=by
 cases us with
 |nil=>exact nomatch h
 |cons a r=>obtain⟨b,e⟩:=iT (i4 h);exact⟨a,b,by rw[e]⟩
theorem m5(h:us.length=3):∃a b c,us=[a,b,c]:=by
 cases us with
 |nil=>exact nomatch h
 |cons a r=>obtain⟨b,c,e⟩:=eF (i4 h);exact⟨a,b,c,by rw[e]⟩
theorem dv{b:Type}{F:b->Prop}{vs:List V}(h:∃a,F a)(k:∀a,F a->vs.length=n):vs.length=n:=let⟨a,f⟩:=h;k a f
theorem fA{P:Prop}{l vs:List V}(h:vs=l/\P)(e:l.length=n):vs.length=n:=by rw[h.1];exact e
noncomputable def num(H:Hp)(i:Int)(y:V):Int:=match at_ H i y with
 |.int n=>n
 |_=>0
noncomputable def KP:List (Int×Int):=[(0,0),(0,1),(1,0),(1,1)]
noncomputable def qj(k:Int×Int):List Key:=[.inl k.1,.inl k.2]
noncomputable def kf(H:Hp)(i j:Int)(y:V):List Key:=qj (num H i y,num H j y)
noncomputable def la(H:Hp)(xs:List V)(i j:Int):Bool:=KP.all fun k=>xs.any fun y=>decide (num H i y=k.1/\num H j y=k.2)
noncomputable def firstOf(H:Hp)(xs:List V)(i j:Int)(k:Int×Int):V:=((xs.find? fun y=>decide (kf H i j y=qj k)).map fun y=>V.str (aU H y)).getD .non
def Kinds(K:ah)(kd:Addr):Prop:=∃a b c d:Addr,∀H:Hp,SqT K H kd [.ref a,.ref b,.ref c,.ref d]/\SqT K H a [.int 0,.int 0]/\SqT K H b [.int 0,.int 1]/\SqT K H c [.int 1,.int 0]/\SqT K H d [.int 1,.int 1]
theorem Kinds.at(h:Kinds K kd):∃a:List V,a.length=4/\(∀H:Hp,SqT K H kd a)/\∀(H:Hp)(i:Nat) x,a[i]? =some x->∃(b:Addr)(k:Int×Int),x=.ref b/\KP[i]? =some k/\SqT K H b ((qj k).map kV):=by
 obtain⟨c,d,f,g,h⟩:=h;refine⟨[.ref c,.ref d,.ref f,.ref g],rfl,fun H=>(h H).1,fun H i x e=>?_⟩;obtain⟨_,j,l,m,o⟩:=h H
 match i,e with
 | 0,e=>cases e;exact⟨c,_,rfl,rfl,j⟩
 | 1,e=>cases e;exact⟨d,_,rfl,rfl,l⟩
 | 2,e=>cases e;exact⟨f,_,rfl,rfl,m⟩
 | 3,e=>cases e;exact⟨g,_,rfl,rfl,o⟩
 |n+4,e=>simp at e
theorem zM{x:V}{i:Int}(h:dj H y=true)(a:cy H y=count H x)(hi:isPlace H x (.int i)=true):at_ H i y=.int (num H i y)/\(num H i y=0\/num H i y=1):=by
 have :=(Er h a hi).2;unfold num;rcases gW this with e|e;·rw[e];exact⟨rfl,.inl rfl⟩
 ·rw[e];exact⟨rfl,.inr rfl⟩
theorem K2{k l:Int×Int}(h:qj k=qj l):k=l:=by
 unfold qj at h;injection h with h1 h2
 injection h2 with h2 _;injection h1 with h1;injection h2 with h2;exact Prod.ext h1 h2
theorem KW:(KP.map qj).Nodup:=by decide+kernel
theorem kf_eq{i j:Int}{k:Int×Int}:kf H i j y=qj k↔(num H i y=k.1/\num H j y=k.2):=by
 constructor;·intro h;have :=K2 h;rw[<-this];exact⟨rfl,rfl⟩
 ·rintro⟨a,b⟩;unfold kf;rw[a,b]
theorem wm{i j:Int}(b:V->V)(d:∀y∈xs,kf H i j y∈KP.map qj):(fnd (kf H i j) b xs).length<4↔la H xs i j=false:=by
 rw[show(4:Nat)=(KP.map qj).length from rfl,fnd_all (kf H i j) b KW d];unfold la;rw[List.all_eq_false];constructor;·rintro⟨k,c,h⟩;obtain⟨p,hp,rfl⟩:=aF.mp c;refine⟨p,hp,?_⟩;intro z;obtain⟨y,a,e⟩:=cB.mp z;exact h y a (kf_eq.mpr (of_decide_eq_true e))
 ·rintro⟨p,hp,h⟩;refine⟨qj p,aF.mpr ⟨p,hp,rfl⟩,fun y a e=>h ?_⟩;exact cB.mpr ⟨y,a,decide_eq_true (kf_eq.mp e)⟩
theorem kf_in{x:V}{i j:Int}(b:∀y∈xs,dj H y=true)(c:∀y∈xs,cy H y=count H x)(hi:isPlace H x (.int i)=true)(h:isPlace H x (.int j)=true):∀y∈xs,kf H i j y∈KP.map qj:=by intro y a;have d:=(zM (b y a) (c y a) hi).2;have g:=(zM (b y a) (c y a) h).2;unfold kf;refine aF.mpr ⟨_,?_,rfl⟩;rcases d with e|e<;>rcases g with f|f<;>rw[e,f]<;>simp[KP]
def zd:Sp:=fun vs H Q _=>∃a xs i j b,vs=[.ref a,.int i,.int j]/\aQ b H/\dW b (.ref a)=true/\eQ (b a)=some xs/\isPlace b (.ref a) (.int i)=true/\isPlace b (.ref a) (.int j)=true/\
 (la b xs i j=false->∀H',aQ H H'->Q .non H')/\(la b xs i j=true->∀H' l,aQ H H'->H l=none->H' l=some (.tup (KP.map (firstOf b xs i j)))->Q (.ref l) H')
theorem IQ(v1:G.val "KINDS"=some (.ref kd))(hk:Kinds K kd):
  Sat G K zd l6 lG:=by
 rintro O H a6 a5 ⟨a,f,i,j,e,rfl,N,ht,U,hi,J,q1,q2⟩;unfold l6;change wpB G K _ _ _ [some (.ref a),some (.int i),some (.int j),none,none,none] H;walk_at "wp";intro d S;obtain⟨a',b0,ea,Q,h2,w,h4,A⟩:=eV ht;cases ea;rw[U]at Q;cases Q;obtain⟨as,I,L,a2⟩:=hk.at;have Y:∀{s:Hp},aQ e s->SqL K s a f:=fun o=>o.seq (lJ U);have X:aQ H (upd H d (.dT [])):=av S;refine fJ (cT rfl (Y (N.trans X)) (eZ dZ (fun k E F=>aQ H F/\F d=some (.dT (fnd (kf e i j) (fun y=>V.str (aU e y)) (f.take k)))/\∃u v,E=[some (.ref a),some (.int i),some (.int j),some (.ref d),u,v])
  ⟨X,au,none,none,rfl⟩ (fun k E F _ p=>Y (N.trans p.1)) ?_ ?_))
 ·rintro k y E s m D2 a9 ⟨o,q,u,v,rfl⟩ C g R _;have h:=aI C;have ei:=zM (w y h) (A y h) hi;have ej:=zM (w y h) (A y h) J;have gi:=(Er (w y h) (A y h) hi).1;have gj:=(Er (w y h) (A y h) J).1;obtain⟨b,c,rfl,k1,W,k3,k4⟩:=kU (w y h);have x:=N.trans (o.trans g);refine⟨b,_,rfl,x.tup (SqT.of k1),rfl,_,_,rfl,_,_,rfl,rfl,?_⟩;walk_at "wp";refine⟨.inr (.inr (.inl ⟨rfl,.inr ⟨_,g _ _ q⟩⟩)),?_⟩;refine .inr (.inl ⟨c,_,i,_,rfl,rfl,x.tup (SqT.of W),gi,?_⟩);refine .inr (.inl ⟨c,_,j,_,rfl,rfl,x.tup (SqT.of W),gj,short (by simp),fun p hp=>?_⟩);have D:aQ m (upd m p (.tup [at_ e i (.ref b),at_ e j (.ref b)])):=av hp;have hf:(fnd (kf e i j) (fun y=>V.str (aU e y)) (f.take k)).length<=40:=aP (fnd_len _ _ _) (by rw[dw];lia);have et:f.take (k+1)=f.take k++[V.ref b]:=by rw[dM,C];rfl
  have P:fnd (kf e i j) (fun y=>V.str (aU e y)) (f.take (k+1))=rC (kf e i j) (fun y=>V.str (aU e y)) (fnd (kf e i j) (fun y=>V.str (aU e y)) (f.take k)) (.ref b):=by unfold fnd;rw[et,List.foldl_append];rfl
  refine⟨d,p,_,kf e i j (.ref b),_,rfl,rfl,D _ _ (g _ _ q),?_,uH hf (by decide),fun z M=>?_,fun M=>?_⟩;·rw[au,ei.1,ej.1];rfl
  ·refine R _ _ ⟨o.trans (g.trans D),?_,_,_,rfl⟩;rw[P];unfold rC;rw[M];exact D _ _ (g _ _ q)
  ·refine R _ _ ⟨eX (o.trans (g.trans D)) S,?_,_,_,rfl⟩;rw[P];unfold rC;rw[M];exact au
 ·rintro E s ⟨o,q,u,v,rfl⟩;rw[hZ]at q;walk_at "wp";refine⟨d,_,rfl,q,_,v1,Or.inl ⟨kd,as,rfl,.inr (L _),?_⟩⟩;rw[I];show iF K .Lt (.int _) (.int ((4:Nat):Int)) s _;rw[Fu];refine⟨_,rfl,?_⟩;have r:=wm (fun y=>V.str (aU e y)) (kf_in w A hi J);cases hf:la e f i j with
  |false=>have :=r.mpr hf;rw[decide_eq_true (by lia),if_pos rfl];exact q1 hf s o
  |true=>
   have a8:¬(fnd (kf e i j) (fun y=>V.str (aU e y)) f).length<4:=fun z=>by rw[r.mp z]at hf;cases hf
   rw[decide_eq_false (by lia),if_neg ao];refine dH ⟨_,v1,.inr (.inl ⟨kd,rfl,⟨_,L _⟩,?_⟩)⟩;refine eJ ES (by rw[I];exact short (by decide)) (fun m _=>L m) (fun n v _=>v=firstOf e f i j (KP.getD n (0,0))) (fun _ _ _ _ _ a0=>a0) (fun Z=>∃t,Z=[t,some (.ref d)]) ⟨none,rfl⟩ ?_ ?_
   ·rintro n y Z m a7 hn ⟨t,rfl⟩ g C k;obtain⟨b,p,rfl,hp,B⟩:=a2 m n y C;walk_at "wp";have a1:f.any (fun y=>decide (num e i y=p.1/\num e j y=p.2))=true:=by unfold la at hf;exact bI.mp hf p (aI hp)
    obtain⟨y0,a4,e0⟩:=cB.mp a1;cases r:f.find? (fun y=>decide (kf e i j y=qj p))with
    |none=>rw[ui]at r;exact absurd (decide_eq_true (kf_eq.mpr (of_decide_eq_true e0))) (r y0 a4)
    |some y1=>
     refine⟨d,b,_,qj p,V.str (aU e y1),rfl,rfl,g _ _ q,B,?_,?_⟩;·rw[z8,r];rfl
     ·refine k _ _ _ ⟨_,rfl⟩ (aQ.refl _) ?_;rw[getD_some hp];unfold firstOf;rw[r];rfl
   ·intro O m l T hF g a3;have ev:O=KP.map (firstOf e f i j):=by
     rw[I]at T;apply bS;·rw[T];rfl
     ·intro n m1 m2;have :=hF n O[n] (by simp[m1]);rw[this,bH,ae,aa (by simpa using m2)];rfl
    subst ev;refine⟨l,_,rfl,.inl ⟨SqL.of au,fun b B=>?_⟩⟩;have x:aQ H (upd m l (.lst (KP.map (firstOf e f i j)))):=o.trans (g.trans (av a3));exact q2 hf _ b (x.trans (av B)) (x.free B) au
end Kc
namespace K21
open PySem PySem.Spec PyProof.Rows L2 R Cp Lt Kc
def Dr(H:Hp)(nf:Nat->Str)(n:Nat)(ys:List V):Prop:=∀(i:Nat) y,ys[i]? =some y->∃b r zs,y=.ref b/\H b=some (.tup [.str (nf i),.ref r])/\H r=some (.tup zs)/\zs.length=n/\∀z∈zs,cE z=true
theorem rE(k:∀i,iu (nf i)=true)(d:Dr H nf n ys)(t:n<=60)(e:ys[i]? =some y):dj H y=true/\aU H y=nf i/\cy H y=n/\Kn3 H y:=by
 obtain⟨b,r,m,rfl,c,h,p,j⟩:=d i y e;have o:dE H (.ref r)=true:=by show(match dS (H r)with |some g=>decide (g.length<=60)&&g.all cE|none=>false)=true;rw[h];show(decide (m.length<=60)&&m.all cE)=true;rw[decide_eq_true (by lia),fz,bI];exact j
 have q:(nf i).length<=20000:=by have :=k i;unfold iu at this;rw[aE,decide_eq_true_eq]at this;lia
 refine⟨?_,?_,?_,⟨DW c,fun z e=>nomatch e⟩,fun a g e f=>?_⟩;·show(match dS (H b)with |some [n,r]=>isName n&&dE H r|_=>false)=true;rw[c];show(iu (nf i)&&dE H (.ref r))=true;rw[k,o];rfl
 ·show(match dS (H b)with |some (.str z::_)=>z|_=>("":Str))=_;rw[c];rfl
 ·show(match dS (H b)with |some [_,.ref b]=>(dS (H b)).elim 0 jZ|_=>0)=n;rw[c];show(dS (H r)).elim 0 jZ=n;rw[h];exact p
 ·injection e with e
  subst e;rw[c]at f;cases f;refine⟨by show 2<=20000;decide,fun y l=>?_⟩;simp only[aH,cV,or_false]at l;rcases l with rfl|rfl;·exact⟨⟨kn_str,fun z e=>by injection e with e;rw[<-e];exact q⟩,fun a g e=>nomatch e⟩
  ·refine⟨⟨DW h,fun z e=>nomatch e⟩,fun a g e f=>?_⟩;injection e with e;subst e;rw[h]at f;cases f;refine⟨by lia,fun z s=>?_⟩;rcases gW (j z s)with rfl|rfl
   ·exact⟨zU,fun z e=>nomatch e⟩
   ·exact⟨zU,fun z e=>nomatch e⟩
theorem wz{t:Addr}(h:∀i,iu (nf i)=true)(q:∀i j,i<ys.length->j<ys.length->nf i=nf j->i=j)(m:H t=some (.lst ys))(d:Dr H nf n ys)(r:ys.length<=40)(g:n<=60):Kn4 H (.ref t)/\dW H (.ref t)=true/\(∀y∈ys,dj H y=true)/\∀y∈ys,cy H y=n:=by
 have at':∀y∈ys,∃i,ys[i]? =some y:=fun y c=>bX.mp c;have o:∀y∈ys,dj H y=true:=fun y c=>let⟨i,e⟩:=at' y c;(rE h d g e).1;have k:∀y∈ys,cy H y=n:=fun y c=>let⟨i,e⟩:=at' y c;(rE h d g e).2.2.1;refine⟨⟨⟨DX m,fun z e=>nomatch e⟩,fun a f e p=>?_⟩,?_,o,k⟩
 ·injection e with e
  subst e;rw[m]at p;cases p;exact⟨by lia,fun y c=>let⟨i,e⟩:=at' y c;(rE h d g e).2.2.2⟩
 ·show(match eQ (H t)with |some f=>decide (f.length<=40)&&(f.all (dj H)&&(decide ((f.map (aU H)).Nodup)&&decide (∀y∈f,∀z∈f,cy H y=cy H z))) |none=>false)=true;rw[m];show(decide (ys.length<=40)&&(ys.all (dj H)&&(decide ((ys.map (aU H)).Nodup)&&decide (∀y∈ys,∀z∈ys,cy H y=cy H z))))=true;rw[decide_eq_true r,fz,aE,aE,bI,decide_eq_true_eq,decide_eq_true_eq];refine⟨o,?_,fun y c z s=>by rw[k y c,k z s]⟩;show List.Pairwise (fun a b=>a≠b) _;rw[cY];intro i j hi l u e;rw[ai]at hi l;rw[bH,bH,(rE h d g (aa hi)).2.1,(rE h d g (aa l)).2.1]at e;have :=q i j hi l e;lia
theorem zX{vs:List V}(h:∀(i:Nat) v,vs[i]? =some v->∃m:Int,v=.int m):∃ns:List Int,vs=ns.map V.int:=by
 induction vs with
 |nil=>exact⟨[],rfl⟩
 |cons v vs ih=>obtain⟨m,rfl⟩:=h 0 v rfl;obtain⟨ns,rfl⟩:=ih fun i w e=>h (i+1) w (by simpa using e);exact⟨m::ns,rfl⟩
theorem LH(c:List Int)(lo hi:Option Int):∃b:List Int,nO (c.map V.int) lo hi=b.map V.int:=by refine zX fun i v e=>?_;have a:=aI e;unfold nO at a;obtain⟨m,_,rfl⟩:=aF.mp (List.mem_of_mem_drop (List.mem_of_mem_take a));exact⟨m,rfl⟩
end K21
namespace K22
open PySem PySem.Spec PyProof.Rows L2 R Cp Lt Kc K21
theorem BC{t p:Addr}{fs:List Int}(c:SqL K H t (fs.map V.int))(b:H p=some (.lst [])):∃d a,Rep K H d (.ref t)/\Rep K H a (.ref p)/\hgt d<=30/\eqD d a=decide (fs=[]):=by
 refine⟨.lst (fs.map D.int),.lst [],⟨t,_,rfl,c,fL.ints fs⟩,⟨p,[],rfl,SqL.of b,rfl⟩,by show fX (fs.map D.int)+1<=30;rw[oQ];decide,?_⟩;cases fs with
 |nil=>rfl
 |cons x r=>rw[decide_eq_false (by simp)];rfl
end K22
namespace Lm
open PySem PySem.Spec PySem.W PyProof.Rows L2 Q
noncomputable abbrev Kp(h h':Heap):Prop:=∀b o,h.get? b=some o->h'.get? b=some o
section
variable {prog:Program}{w:World}{A:Around}{E:Value->Shared->Prop}{s:Shared}
theorem LM{Q:Value->Shared->Prop}{u:Arguments}{k:Value}{p q t:Pos}{a:Array Value}
  (hf:s.heap.get? f=some (kla_obj "<lambda>" qual u (.Subscript (.Name x p) (.Constant (.int 0) j q) t) scope [] pm c' ctv))(C:s.heap.CodeRec (.ref c') qual)(K:A.depth<jQ)(I:s.heap.NoLimit)
  (B:∀v,qB (kla_fn "<lambda>" qual u (.Subscript (.Name x p) (.Constant (.int 0) j q) t) scope [] pm (.ref c') ctv) ⟨[v],[]⟩=pure [(x,v)])
  (m:scope.names.lookup x=some .local)(G:(x==("__debug__":Str))=false)(d:scope.kind=.function)(D:∀y∈scope.names,y.2≠.cell)(F:scope.isCoroutine=false)(H:scope.isGenerator=false)
  (L:IsTup s.heap b a)(h0:a[0]? =some k)(h:∀h' t',Kp s.heap h'->Q k {s with heap:=h',toks:=t'}):wpAny (model prog w) A (call (.ref f) [.ref b]) Q E s:=by
 refine iI (kla_callFunE K hf rfl F H rfl C ?_);rw[B];refine aj (wpAny_newFunctionEnv D (fun y M=>?_) (fun n J i=>⟨I.fresh _ i,?_⟩) d)
 ·have e:y=(x,.ref b):=by simpa using M
  rw[e];exact m
 have g:Kp s.heap n:=fun b o e=>i.extBut b o (aK (aw e)) (ag _ e);refine kla_codeExpr (Subscript_ (Il (wpAny_loadName_local d m J (v:=.ref b) (by simp) ?_) G));refine wpAny_Constant_int ?_;have l:IsTup n b a:=by obtain⟨o,e,c⟩:=L;exact⟨o,g _ _ e,c⟩
 have N:0<a.size:=by
  rcases Nat.eq_zero_or_pos a.size with z|z;·rw[Array.getElem?_eq_none (by lia)]at h0;cases h0
  ·exact z
 exact r8 (x:=k) l.typeIs slot_tuple_getitem.lookup
  (getItem_tuple (j:=0) (Q:=fun r O=>r=k/\_) l (by decide) (by decide) (by rw[CW (by decide) (by lia)];rfl) h0 ⟨rfl,h _ _ g⟩) rfl
def Keys(prog:Program)(w:World)(A:Around)(f:Value)(vs:List Value)(ks:List Str)(h0:Heap):Prop:=
 ∀(i:Nat)(v:Value)(k:Str),vs[i]? =some v->ks[i]? =some k->∀(s1:Shared)(E:Value->Shared->Prop)(a:Value->Shared->Prop),Kp h0 s1.heap->
  (∀t h' t',Kp s1.heap h'->a (.str k t) {s1 with heap:=h',toks:=t'})->wpAny (model prog w) A (call f [v]) a E s1
theorem strs_snoc{k:Str}{t:Tok}:∀{vs:List Value}{ks:List Str},AD vs ks->AD (vs++[.str k t]) (ks++[k])
 |_,_,.nil=>.cons k t .nil
 |_,_,.cons y u h=>.cons y u (strs_snoc h)
theorem EI{e f:Nat}{st:SortSt}{P:dI->Shared->Prop}(t:(arrOf st).map (·.2)=eA out)(hz:out.length<64)(p:kv.length<64)(hf:failedOf st=none)
  (n:s.heap.get? kS=some (seqObj "list" kv.toArray e))(l:s.heap.get? a=some (seqObj "list" #[] f))(r:kS≠a)
  (h:∀h' c,(∀b o,b≠a->b≠kS->s.heap.get? b=some o->h'.get? b=some o)->h'.get? a=some (seqObj "list" out.toArray c)->P (.done (.ret .none)) {s with heap:=h'}):
  wpAny (model prog w) A (ksk_tail a false f (.ref kS) st) P E s:=by
 have i:=bN s.heap kS (a8 fun _=>(#[]:Array Value));have g:(s.heap.update kS (a8 fun _=>(#[]:Array Value))).get? a=some (seqObj "list" #[] f):=(i.2 a (bA r)).trans l;have u:=bN (s.heap.update kS (a8 fun _=>(#[]:Array Value))) a (a8 fun _=>eA out);obtain⟨d,m⟩:∃d,((s.heap.update kS (a8 fun _=>(#[]:Array Value))).update a (a8 fun _=>eA out)).get? a=some (seqObj "list" (eA out) d):=⟨_,sj g fun _=>eA out⟩;unfold ksk_tail;try dsimp only
 rw[t];refine af (fS n rfl ?_ (by rw[aB];exact fY p) (aZ _));refine af (oY ?_);refine af (uF g rfl ?_);refine af (fS g rfl ?_ (aZ _) (by simpa using EO hz));rw[hf];simp only[bne_self_eq_false,aW,if_false];exact aj (h _ d (fun b o j k q=>(u.2 b j).trans ((i.2 b k).trans q)) m)
theorem end_ok{e f:Nat}{P:dI->Shared->Prop}(nd:ks.Nodup)(r:AD kv ks)(y:ks.length=vs.length)(m:vs.length<64)
  (x:s.heap.get? kS=some (seqObj "list" kv.toArray e))(v:s.heap.get? a=some (seqObj "list" #[] f))(B:kS≠a)
  (h:∀h' c,(∀b o,b≠a->b≠kS->s.heap.get? b=some o->h'.get? b=some o)->h'.get? a=some (seqObj "list" (gK (nF ks) vs).toArray c)->P (.done (.ret .none)) {s with heap:=h'}):
  wpAny (model prog w) A (ksk_end a false vs.toArray f (.ref kS) (eA kv)) P E s:=by
 have g:vs.toArray.size=vs.length:=by simp
 have O:=vi r;have n:kv.length=vs.length:=O.trans y;unfold ksk_end;simp only[aW,if_false];by_cases hn:vs.length<2;·have l:gK (nF ks) vs=vs:=if_pos hn;rw[l]at h;rw[if_pos (by rw[g];exact hn),if_pos (by rw[g];exact hn)];refine af (aj (af ?_));rw[StateT.run_pure];refine aj (EI (out:=vs) ?_ m (by lia) rfl x v B h);show(kv.toArray.zip vs.toArray).map (·.2)=vs.toArray;apply Mn;simp[xl,n]
 ·have I:2<=vs.length:=by lia
  have l:gK (nF ks) vs=(run (nF ks) (dG vs.length)).toList.map fun i=>vs.getD i .none:=if_neg hn;rw[l]at h;rw[if_neg (by rw[g];exact hn),if_neg (by rw[g];exact hn)];obtain⟨κ,M,N⟩:=Ig (prog:=prog) (w:=w) (A:=A) (h0:=s.heap) r (by lia) s (fun _ _ q=>q);have T:Tot (nF ks) vs.length:=by rw[<-y];exact vd nd
  obtain⟨F,R,D⟩:=fo T (by lia:1<=vs.length);refine af (M _ _ (af ?_));have key:=kat_run (prog:=prog) (w:=w) (A:=A) (E:=E) (κ:=κ) (ks:=kv) (vs:=vs) (s:=s)
   (Q:=fun k d=>d=s/\arrOf k=(run (nF ks) (dG vs.length)).map (kas_item (kv.toArray.zip vs.toArray))/\failedOf k=none)
   (G:=fun p d=>d=s/\p=run (nF ks) (dG vs.length)) n I m
   (fun p k d _ f H u=>⟨u.1,by rw[f,u.2],H⟩)
   (wp_run (S:=fun d=>d=s) (fun i j C d hi U L t J=>by subst t;exact N i j C (by lia) (by lia) L (J _ rfl)) _ _ D rfl fun d t=>⟨t,rfl⟩)
  refine cX key ?_ fun _ _ z=>z;rintro⟨⟨⟩,k⟩ d ⟨rfl,K,hf⟩;exact EI (kat_snds n K) (by rw[ai,cu,F.size];exact m) (by lia) hf x v B h
theorem Jv{f:Value}{P:dI->Shared->Prop}(nd:ks.Nodup)(U:ks.length=vs.length)(u:s.heap.get? a=some (seqObj "list" vs.toArray n))
  (k0:∀b o,h0.get? b=some o->s.heap.get? b=some o/\b≠a)(F:vs.length<64)(W:Keys prog w A f vs ks h0)
  (h:∀h' t' c,(∀b o,b≠a->s.heap.get? b=some o->h'.get? b=some o)->h'.get? a=some (seqObj "list" (gK (nF ks) vs).toArray c)->P (.done (.ret .none)) {s with heap:=h',toks:=t'}):
  wpAny (model prog w) A (ksk_tree a f false) P E s:=by
 have V:vs.toArray.size=vs.length:=by simp
 have S:a<s.heap.objs.size:=aw u;have X:=bN s.heap a (a8 fun _=>(#[]:Array Value));obtain⟨m,M⟩:∃m,(s.heap.update a (a8 fun _=>(#[]:Array Value))).get? a=some (seqObj "list" #[] m):=⟨_,sj u fun _=> #[]⟩;unfold ksk_tree;refine af (listItems_at u rfl ?_);refine af (fS u rfl ?_ (by rw[V];exact fY F) (aZ _));refine af (uF M rfl ?_);refine af (wpAny_newTuple ?_ (show vs.length<=_ from fY F));refine af (pv ?_ (aZ _));refine bQ ?_;have J:((s.heap.update a (a8 fun _=>(#[]:Array Value))).push (seqObj "tuple" vs.toArray 0)).get? a=some (seqObj "list" #[] m):=ag _ M;have O:∀b o,b≠a->s.heap.get? b=some o->((s.heap.update a (a8 fun _=>(#[]:Array Value))).push (seqObj "tuple" vs.toArray 0)).get? b=some o:=fun b o g q=>ag _ ((X.2 b g).trans q);have v:s.heap.objs.size<((s.heap.update a (a8 fun _=>(#[]:Array Value))).push (seqObj "tuple" vs.toArray 0)).objs.size:=by rw[Io,m4];lia
 show wpAny _ _ (ksk_rest a f false vs.toArray m (.ref ((s.heap.update a (a8 fun _=>(#[]:Array Value))).push (seqObj "tuple" vs.toArray 0)).objs.size)) _ _
  {s with heap:=((s.heap.update a (a8 fun _=>(#[]:Array Value))).push (seqObj "tuple" vs.toArray 0)).push (seqObj "list" #[] 0)}
 generalize(s.heap.update a (a8 fun _=>(#[]:Array Value))).push (seqObj "tuple" vs.toArray 0)=h1 at J O v⊢;have L:h1.objs.size≠a:=eP (gf S v);unfold ksk_rest;refine af (iH ?_)
 first
  |rw[List.forIn_toArray]
  | (rw[<-Ml];simp only[Mf])
  |rw[<-Ml]
 refine af (ksk_fold (fun i H=>∃l C d e,H={s with heap:=l,toks:=C}/\AD d (ks.take i)/\l.get? h1.objs.size=some (seqObj "list" (eA d) e)/\l.get? a=some (seqObj "list" #[] m)/\∀b o,b≠a->s.heap.get? b=some o->l.get? b=some o)
  vs 0 _ ⟨_,s.toks,[],0,rfl,by rw[List.take_zero];exact .nil,ay _ rfl,ag _ J,fun b o g q=>ag _ (O b o g q)⟩ ?_ ?_)
 ·rintro j x H N ⟨l,C,d,e,rfl,r,p,G,B⟩;rw[w6]at r;have Y:j<vs.length:=(aC.mp N).1;have K:ks[j]? =some (ks[j]'(by lia)):=aa (by lia);have Z:d.length=j:=by rw[vi r,dw];lia
  refine af (gT (W j x _ N K _ _ _ (fun b o q=>B b o (k0 b o q).2 (k0 b o q).1) fun t I t3 y=>?_));have Q:=bN I h1.objs.size (a8 (·.push (iZ (ks[j]'(by lia)) t)));have R:(eA d).push (iZ (ks[j]'(by lia)) t)=eA (d++[iZ (ks[j]'(by lia)) t]):=by simp
  obtain⟨D,T⟩:∃D,(I.update h1.objs.size (a8 (·.push (iZ (ks[j]'(by lia)) t)))).get? h1.objs.size=some (seqObj "list" (eA (d++[iZ (ks[j]'(by lia)) t])) D):=⟨_,by rw[<-R];exact sj (y _ _ p) (·.push _)⟩;try dsimp only
  refine af (fS (y _ _ p) rfl ?_ (by rw[aB];exact fY (by lia)) (aP (IC (Array.size_push ..)) (by rw[aB];exact EO (by lia))));refine aj ⟨rfl,_,t3,d++[iZ (ks[j]'(by lia)) t],D,rfl,?_,T,(Q.2 a (bA L)).trans (y _ _ G),fun b o g q=>(Q.2 b (aK (gf (aw q) v))).trans (y _ _ (B b o g q))⟩;rw[w6,dM,K];exact strs_snoc r
 ·rintro H ⟨l,C,d,e,rfl,r,p,G,B⟩;rw[w6,eK (by lia)]at r;try dsimp only
  refine af (listItems_at p rfl ?_);exact end_ok nd r U F p G L fun h' c k q=>h h' C c (fun b o g z=>k b o g (aK (gf (aw z) v)) (B b o g z)) q
theorem Dt{q:Addr}{Q:Value->Shared->Prop}(nd:ks.Nodup)(n:ks.length=vs.length)(j:s.heap.IsList l vs.toArray)(a:vs.length<64)(r:Keys prog w A.in1.in1 (.ref q) vs ks s.heap)
  (h:∀h' t' c,Kp s.heap h'->h'.get? (s.heap.objs.size+1)=some (seqObj "list" (gK (nF ks) vs).toArray c)->Q (.ref (s.heap.objs.size+1)) {s with heap:=h',toks:=t'}):
  wpAny (model prog w) A (call (.builtin "sorted") [.ref l] [(bf "key",.ref q)]) Q E s:=by
 refine call_function_entry_kw kind_sorted plain_sorted entry_sorted (ksk_s1 _ _) ?_;unfold Builtin.«sorted»;refine af (m:=checkCount "sorted" 1 1 _) (aj ?_);refine af (collect_list j ?_ (by simpa using fY a));refine af (pv ?_ (show vs.length<=_ from fY a));have g:((s.heap.push (seqObj "list" #[] 0)).update s.heap.objs.size (a8 (·++vs.toArray))).objs.size=s.heap.objs.size+1:=by rw[m4,Io]
 have p:Kp s.heap ((s.heap.push (seqObj "list" #[] 0)).update s.heap.objs.size (a8 (·++vs.toArray))):=fun b o e=>by have i:=aw e;rw[aR _ _ (eP i)];exact ag _ e
 have d:(((s.heap.push (seqObj "list" #[] 0)).update s.heap.objs.size (a8 (·++vs.toArray))).push (seqObj "list" vs.toArray 0)).get? (s.heap.objs.size+1)=some (seqObj "list" vs.toArray 0):=by rw[<-g];exact ay _ rfl
 show wpAny _ _ _ _ _ {s with heap:=((s.heap.push (seqObj "list" #[] 0)).update s.heap.objs.size (a8 (·++vs.toArray))).push (seqObj "list" vs.toArray 0)};rw[g];have f:Kp s.heap (((s.heap.push (seqObj "list" #[] 0)).update s.heap.objs.size (a8 (·++vs.toArray))).push (seqObj "list" vs.toArray 0)):=fun b o e=>ag _ (p b o e);generalize((s.heap.push (seqObj "list" #[] 0)).update s.heap.objs.size (a8 (·++vs.toArray))).push (seqObj "list" vs.toArray 0)=h1 at d f⊢;refine af (bQ (wpAny_call_entry_kw Im ⟨_,d,rfl⟩ EA ?_ (ksk_l1 _ _)));show wpAny (model prog w) A.in1.in1 (Builtin.«list.sort» ⟨[.ref (s.heap.objs.size+1)],[(bf "key",.ref q)]⟩) _ _ _;rw[ksk_t1];exact Jv (s:={s with heap:=h1}) nd n d (fun b o e=>⟨f b o e,aK (bL (aw e))⟩) a r fun h' t' c k z=>⟨_,rfl,aj ⟨_,rfl,h h' t' c (fun b o e=>k b o (aK (bL (aw e))) (f b o e)) z⟩⟩
end
structure Tb where
 P:Addr
 pos:Pos
 q:Str
def Tab(T:Tb)(H:Hp):Prop:=H T.P=some (.tbl #[])\/∃c' oc u vs t,H T.P=some (.tbl #[rawInt T.pos.line,rawInt T.pos.col,.ref c'])/\H c'=some (.frz oc u)/\oc.data=.fields vs/\vs[1]? =some (.str T.q t)
structure Gr(T:Tb)(H H':Hp):Prop where
 keep:∀b o,b≠T.P->H b=some o->H' b=some o
 tab:Tab T H->Tab T H'
theorem Gr.refl(T:Tb)(H:Hp):Gr T H H:=⟨fun _ _ _ e=>e,fun t=>t⟩
theorem Gr.trans{T:Tb}{d:Hp}(a:Gr T H H1)(b:Gr T H1 d):Gr T H d:=⟨fun c o n e=>b.keep c o n (a.keep c o n e),fun t=>b.tab (a.tab t)⟩
theorem Gr.of{T:Tb}(e:aQ H H'):Gr T H H':=
 ⟨fun b o _ q=>e b o q,fun t=>by
  rcases t with t|⟨a,h,u,i,tk,c,d,f,g⟩;·exact .inl (e _ _ t)
  ·exact .inr ⟨a,h,u,i,tk,e _ _ c,e _ _ d,f,g⟩⟩
theorem Tab.ne{T:Tb}(t:Tab T H){o:HO}(e:H b=some o)(n:∀ps,o≠.tbl ps):b≠T.P:=by
 intro z;subst z;rcases t with t|⟨c,h,u,i,tk,a,d,f,g⟩;·rw[t]at e;exact n _ (bj e).symm
 ·rw[a]at e;exact n _ (bj e).symm
section
variable {K:ah}{T:Tb}{H H':Hp}{a:Addr}{xs:List V}
theorem Gr.at(g:Gr T H H')(t:Tab T H){o:HO}(e:H a=some o)(n:∀ps,o≠.tbl ps):H' a=some o:=g.keep a o (t.ne e n) e
theorem Gr.lst(g:Gr T H H')(t:Tab T H)(e:H a=some (.lst xs)):H' a=some (.lst xs):=g.at t e fun _ z=>by cases z
theorem Gr.ur(g:Gr T H H')(t:Tab T H)(e:H a=some (.tup xs)):H' a=some (.tup xs):=g.at t e fun _ z=>by cases z
theorem Gr.frz(g:Gr T H H')(t:Tab T H){o:Obj}{u:HO}(e:H a=some (.frz o u)):H' a=some (.frz o u):=g.at t e fun _ z=>by cases z
theorem Gr.seq(g:Gr T H H')(t:Tab T H)(h:SqL K H a xs):SqL K H' a xs:=by
 rcases h with(h|⟨o,h⟩) |h;·exact .inl (.inl (g.lst t h))
 ·exact .inl (.inr ⟨o,g.frz t h⟩)
 ·exact .inr h
theorem Gr.tup(g:Gr T H H')(t:Tab T H)(h:SqT K H a xs):SqT K H' a xs:=by
 rcases h with(h|⟨o,h⟩) |h;·exact .inl (.inl (g.ur t h))
 ·exact .inl (.inr ⟨o,g.frz t h⟩)
 ·exact .inr h
end
theorem un_tab{fs:List Addr}{p:Addr}{i:Obj}{ps more:Array Value}(m:HOk P w H h)(g:∀b o,b≠p->h.get? b=some o->h'.get? b=some o)(c:H p=some (.tbl ps))(k:h.objs.size<=c')
  (r:h'.get? p=some (tabObj (ps++more)))(j:h'.get? c'=some i):
  Un fs [] H (upd (upd H c' (.frz i (.ext fun _=>True))) p (.tbl (ps++more))) h h'/\HOk P w (upd (upd H c' (.frz i (.ext fun _=>True))) p (.tbl (ps++more))) h':=by
 have l:H c'=none:=m.fresh k;have ne:c'≠p:=bA (a9 c l);have f:∀{b:Addr}{o:HO},H b=some o->b≠p->upd (upd H c' (.frz i (.ext fun _=>True))) p (.tbl (ps++more)) b=some o:=fun{b o} e n=>by rw[aS n,aS (a9 e l)];exact e
 have nt:∀{b:Addr}{o:HO},H b=some o->(∀s,o≠.tbl s)->b≠p:=fun{b o} e n z=>by subst z;rw[c]at e;exact n _ (bj e).symm
 refine⟨⟨fun b o e n _ _=>g b o (fun z=>by rw[z,c]at n;cases n) e,fun b o e n _ _=>⟨o.slots,g b o (fun z=>by rw[z,c]at n;cases n) e⟩,fun b o e n _=>?_,fun b o e _=>?_,fun b x e=>f e (nt e fun _ z=>by cases z),
  fun b o u e=>f e (nt e fun _ z=>by cases z),fun b s e=>?_⟩,fun b o e=>?_⟩
 ·have a:b≠p:=fun z=>by rw[z,c]at n;cases n
  rw[aS a,aS (aK (aT (aw e) k))];exact n
 ·by_cases a:b=p;·exact⟨_,by rw[a];exact r⟩
  ·exact⟨o,g b o a e⟩
 ·by_cases a:b=p;·subst a;rw[c]at e;cases e;exact⟨more,au⟩
  ·exact⟨#[],by rw[f e a];simp⟩
 ·by_cases a:b=p;·subst a;rw[au]at e;cases e;exact r
  ·rw[aS a]at e;by_cases hc2:b=c';·subst hc2;rw[au]at e;cases e;exact⟨j,trivial,⟨_,j⟩,fun _ _ _ _=>trivial⟩
   ·rw[aS hc2]at e;refine(m b o e).lE (fun d v t q=>g d v ?_ q) (fun d q=>f q (nt q fun _ z=>by cases z)) fun d x q=>f q (nt q fun _ z=>by cases z);rcases t with z|z;·rw[z];exact a
    ·exact nt z fun _ y=>by cases y
def BM(mg:Str->Option Value)(h:Heap):Prop:=∃bm a,mg "__builtins__"=some (.ref bm)/\bm≠m3/\bm≠bF/\h.get? bm=some a/\a.cls=.type "module"/\a.dict=some m3/\a.data=.plain
def rSortK(K:ah)(T:Tb):List V->Hp->VK->Prop:=fun xs H Q=>∃a ys ks,xs=[V.ref a]/\SqL K H a ys/\ks.length<64/\ks.Nodup/\oR H ys ks/\Tab T H/\
 ∀H2 l,Gr T H H2->H2 l=none->Q (.ref l) (upd H2 l (.lst (sortBy .non ks ys)))
def vg(K:ah)(T:Tb)(te:TE):TE:=fun σ H Q=>lD te uu σ H fun xs H1=>rSortK K T xs H1 Q
structure LY(env:Env)(params:Arguments)(x:Str)(body:Expr)(scope:Scope):Prop where
 cl:Iz scope env=pure []
 df:defaultsOf params env=([],[])
 bd:∀(qual:Str)(pm ctv v:Value)(c':Addr),qB (kla_fn "<lambda>" qual params body scope [] pm (.ref c') ctv) ⟨[v],[]⟩=pure [(x,v)]
 lk:scope.names.lookup x=some .local
 dbg:(x==("__debug__":Str))=false
 kd:scope.kind=.function
 nc:∀y∈scope.names,y.2≠.cell
 co:scope.isCoroutine=false
 gn:scope.isGenerator=false
section
variable {X:Cx}{e:Expr}{te:TE}{T:Tb}{c:Addr}{p kp pos p1 p2 p3:Pos}{x:Str}{j:Nat}{params:Arguments}{scope:Scope}
theorem uT(O:LY X.env params x (.Subscript (.Name x p1) (.Constant (.int 0) j p2) p3) scope)(ok:HOk X.prog X.w H s.heap)
  (hf:s.heap.get? f=some (kla_obj "<lambda>" qual params (.Subscript (.Name x p1) (.Constant (.int 0) j p2) p3) scope [] pm c' ctv))(e:s.heap.CodeRec (.ref c') qual)(h:A.depth<jQ)(g:s.heap.NoLimit):
  ∀{ys:List V}{ks:List Str}{vs:List Value},oR H ys ks->bM ys vs->Keys prog w A (.ref f) vs ks s.heap
 |_,_,_,.nil,.nil=>fun i v k c=>by simp at c
 |_,_,_,.cons y t,.cons r q=>by
  intro i v k c d G E l b hq;cases i with
  |zero=>
   obtain⟨a,K,rfl,p⟩:=y;cases r;have m:v=bB a:=by simpa using c.symm
   subst m;obtain⟨_,J,F,o,u,z,n,B⟩:=ok a _ p;cases F with
   |cons r0 _=>obtain⟨tk,rfl⟩:=r0;obtain rfl:=bj d;exact LM (b _ _ hf) (e.keeps b) h (g.keeps b) (fun v=>O.bd _ _ _ v _) O.lk O.dbg O.kd O.nc O.co O.gn ⟨o,b _ _ u,z,n,B⟩ (by simp) fun C I D=>hq tk C I D
  |succ i=>exact uT O ok hf e h g t q i v k (by simpa using c) (by simpa using d) G E l b hq
theorem x6{Q:VK}(O:LY X.env params x (.Subscript (.Name x p1) (.Constant (.int 0) j p2) p3) scope)(I:Inv X pins σ H s)
  (hf:s.heap.get? f=some (kla_obj "<lambda>" T.q params (.Subscript (.Name x p1) (.Constant (.int 0) j p2) p3) scope [] pm c' ctv))(e:s.heap.CodeRec (.ref c') T.q)(i:X.A.depth<jQ)
  (hq:SqL X.K H a ys)(t:ks.length<64)(nd:ks.Nodup)(c:oR H ys ks)(q:∀l,H l=none->Q (.ref l) (upd H l (.lst (sortBy .non ks ys)))):
  wpAny (model X.prog X.w) X.A (call (.builtin "sorted") [.ref a] [(bf "key",.ref f)]) (EP X pins σ Q) X.xe s:=by
 obtain⟨o,b,p,v⟩:=I.list hq;have h:ks.length=ys.length:=tG c;have u:=b.length;have m:ks.length=o.length:=by lia
 refine Dt nd m p.isList (by lia) (uT (A:=X.A.in1.in1) O I.hok hf e i I.nolimit c b) fun r t' d k g=>?_;have n:(sortBy V.non ks ys).length<=sizeLine:=by unfold sortBy;rw[ai,ord_len ks nd];lia
 exact⟨.ref (s.heap.objs.size+1),_,I.laid (t':=t') k (dy _) (show dU X.prog X.w _ _ _ (.lst (sortBy .non ks ys))from⟨n,_,d,Km nd h b,g⟩),rfl,q _ (I.hok.fresh (dy _))⟩
theorem Ka(he:PE X e te)(s:bz [e] X.env=(false,eval e X.env)::bz [] X.env)(hg:Gl X "sorted")(hm:X.mg "sorted"=none)(C:X.env.code=.ref c)(B:CodeHd X.base c T.P)(hq:X.env.qual++"<lambda>"=T.q)(hb:BM X.mg X.base)
  (O:LY X.env params x (.Subscript (.Name x p1) (.Constant (.int 0) j p2) p3) scope)(K:X.A.depth<jQ):
  PE X (.Call (.Name "sorted" p) [e] [⟨some (bf "key"),.Lambda params (.Subscript (.Name x p1) (.Constant (.int 0) j p2) p3) scope T.pos,kp⟩] pos) (vg X.K T te):=by
 intro b7 c0 σ H c1 I a0;refine gF (k9 (u:=.builtin "sorted") I hg hm (by decide+kernel) ?_);refine callWith_kw (thn (gZ he k7 s pos b7 c0 σ H _ I a0) fun us f ⟨i,g,a,b8,c3,ys,ks,ev,M,y,nd,G,tb,q⟩=>?_) (by rw[s];rfl) (by rw[s];rfl);subst ev;obtain⟨u,rfl,rx⟩:=vals1 b8;cases rx;obtain⟨w,ob,R,S,Q,v,U,V,W⟩:=hb;have F:f.heap.Ns bF X.mg:=a.mod.glob.keeps a.bk;have a1:w≠T.P:=fun z=>by have n:=(a.bs _ _ v).2;rw[z]at n;rcases tb with t|⟨_,_,_,_,_,t,_⟩<;>(rw[t]at n;cases n)
 have a3:bF≠T.P:=fun z=>by obtain⟨o,es,ep,g1,g2,_⟩:=a.mod.glob;have n:=(a.bs _ _ g1).2;rw[z]at n;rcases tb with t|⟨_,_,_,_,_,t,_⟩<;>(rw[t]at n;cases n)
 have A:f.heap.BuiltinsAt X.mg T.P:=⟨w,ob,R,S,Q,a1,a.bk _ _ v,U,V,W⟩;refine kws_cons (kla_eval O.df ?_);rw[hq];rcases tb with t|⟨d,h,u,i,tk,t,a2,k,a6⟩
 ·refine kla_makeFunction (mg:=X.mg) O.cl a.ok.glob F C (B.keeps a.bk) (ps:= #[]) (a.hok _ _ t) True.intro rfl a3 A fun d m h' tk hx E c4 a4 a5=>kws_nil ?_;obtain⟨c2,h,i,N,ec,k,D,L⟩:=a4;cases ec;have a7:∀b o,b≠T.P->f.heap.get? b=some o->(h'.push (kla_obj "<lambda>" T.q params (.Subscript (.Name x p1) (.Constant (.int 0) j p2) p3) scope [] ((X.mg "__name__").getD .none) d m)).get? b=some o:=fun b o n e=>ag _ (hx b o n e);obtain⟨un,ok⟩:=un_tab (fs:=frs X.stack) a.hok a7 t E (ag _ a5) (ag _ k);have l:=a.call (g':=f.gens) (t':=tk) (d':=f.drawn) un ok a.bare (fun b z=>absurd z (by simp));have P:Tab T g:=.inl t;have gr:Gr T g (upd (upd g d (.frz h (.ext fun _=>True))) T.P (.tbl (#[]++ #[rawInt T.pos.line,rawInt T.pos.col,bB d]))):=by
   have J:g d=none:=a.hok.fresh E;refine⟨fun b o n e=>by rw[aS n,aS (a9 e J)];exact e,fun _=>.inr ⟨d,h,.ext fun _=>True,i,N,?_,?_,D,L⟩⟩;·rw[au];simp
   ·rw[aS (bA (a9 t J)),au]
  exact x6 O l (ay _ rfl) ⟨d,h,i,N,rfl,ag _ k,D,L⟩ K (gr.seq P M) y nd (Paired.jM G fun c7 c6 ⟨b,b9,Y,Z⟩=>⟨b,b9,Y,gr.ur P Z⟩) (q _ · gr)
 ·refine kla_makeFunctionHit (mg:=X.mg) O.cl a.ok.glob F C (B.keeps a.bk) (a.hok _ _ t) (by simp[TriplesOk,rawInt]) (cv:=.ref d) (by simp[codeAmong,rawInt]) A fun m h' tk r c5=>kws_nil ?_;have l:=a.call (H':=g) (h':=h'.push (kla_obj "<lambda>" T.q params (.Subscript (.Name x p1) (.Constant (.int 0) j p2) p3) scope [] ((X.mg "__name__").getD .none) d m)) (g':=f.gens) (t':=tk) (d':=f.drawn) (ch:=[])
   (Un.kept fun b o e=>ag _ (r b o e)) (a.hok.kept fun b o e=>ag _ (r b o e)) a.bare (fun b z=>absurd z (by simp))
  exact x6 O l (ay _ rfl) ⟨d,h,i,_,rfl,ag _ (r _ _ (a.hok _ _ a2).1),k,a6⟩ K M y nd G fun a8 hl=>q g a8 (Gr.refl _ _) hl
end
end Lm
namespace Lm
open PySem PySem.Spec PySem.W PyProof.Rows L2 Q R
noncomputable def rq(lx:Str)(p:Pos):Arguments:={posonlyargs:=[],args:=[⟨lx,none,p⟩],vararg:=none,kwonlyargs:=[],kw_defaults:=[],kwarg:=none,defaults:=[]}
noncomputable def isArg(lx:Str):List Arg->Bool
 |x::r=>r.isEmpty&&(x.annotation.isNone&&x.arg==lx)
 | []=>false
noncomputable def yr(lx:Str)(a:Arguments):Bool:=a.posonlyargs.isEmpty&&(a.vararg.isNone&&(a.kwonlyargs.isEmpty&&(a.kw_defaults.isEmpty&&(a.kwarg.isNone&&(a.defaults.isEmpty&&isArg lx a.args)))))
theorem jF{a b:Bool}(h:(a&&b)=true):a=true/\b=true:=by rwa [aE]at h
theorem emp{a:Type}{l:List a}(h:l.isEmpty=true):l=[]:=List.isEmpty_iff.mp h
theorem non{a:Type}{l:Option a}(h:l.isNone=true):l=none:=gY.mp h
theorem DV{a:Arguments}(h:yr lx a=true):∃p,a=rq lx p:=by
 obtain⟨s,b,t,o,n,q,m⟩:=a;obtain⟨c,h⟩:=jF h;obtain⟨d,h⟩:=jF h;obtain⟨e,h⟩:=jF h;obtain⟨f,h⟩:=jF h;obtain⟨g,h⟩:=jF h;obtain⟨i,h⟩:=jF h;cases b with
 |nil=>exact(ao h).elim
 |cons x r=>obtain⟨j,h⟩:=jF h;obtain⟨k,l⟩:=jF h;obtain⟨y,an,p⟩:=x;exact⟨p,by rw[(emp c:s=[]),(non d:t=none),(emp e:o=[]),(emp f:n=[]),(non g:q=none),(emp i:m=[]),(emp j:r=[]),(non k:an=none),(eq_of_beq l:y=lx)];rfl⟩
noncomputable def ql(lx:Str)(sc:Scope):Bool:=decide (sc.names=[(lx,.local)])&&(decide (sc.kind=.function)&&(decide (sc.isCoroutine=false)&&(decide (sc.isGenerator=false)&&(lx==("__debug__":Str))==false)))
noncomputable def isNm(lx:Str):Expr->Bool
 |.Name x _=>x==lx
 |_=>false
theorem FD(h:isNm lx e=true):∃p,e=.Name lx p:=by
 cases e with
 |Name x p=>cases eq_of_beq h;exact⟨p,rfl⟩
 |_=>exact(ao h).elim
noncomputable def isZero:Expr->Bool
 |.Constant c _ _=>decide (c=.int 0)
 |_=>false
theorem HA(h:isZero e=true):∃j p,e=.Constant (.int 0) j p:=by
 cases e with
 |Constant c j p=>cases of_decide_eq_true h;exact⟨j,p,rfl⟩
 |_=>exact(ao h).elim
noncomputable def FE(lx:Str):Expr->Bool
 |.Subscript a b _=>isNm lx a&&isZero b
 |_=>false
theorem D1(h:FE lx e=true):∃p1 j p2 p3,e=.Subscript (.Name lx p1) (.Constant (.int 0) j p2) p3:=by
 cases e with
 |Subscript a b p=>obtain⟨c,d⟩:=jF h;obtain⟨p1,rfl⟩:=FD c;obtain⟨j,p2,rfl⟩:=HA d;exact⟨_,_,_,_,rfl⟩
 |_=>exact(ao h).elim
noncomputable def Ej(lx:Str)(pos:Pos):Expr->Bool
 |.Lambda params body scope lp=>decide (lp=pos)&&(yr lx params&&(ql lx scope&&FE lx body))
 |_=>false
theorem HN(h:Ej lx pos e=true):∃a scope p1 j p2 p3,e=.Lambda (rq lx a) (.Subscript (.Name lx p1) (.Constant (.int 0) j p2) p3) scope pos/\ql lx scope=true:=by
 cases e with
 |Lambda params body scope lp=>obtain⟨b,h⟩:=jF h;obtain⟨c,h⟩:=jF h;obtain⟨d,f⟩:=jF h;cases of_decide_eq_true b;obtain⟨a,rfl⟩:=DV c;obtain⟨p1,j,p2,p3,rfl⟩:=D1 f;exact⟨_,_,_,_,_,_,rfl,d⟩
 |_=>exact(ao h).elim
noncomputable def LL(lx:Str)(pos:Pos):List Keyword->Bool
 |k::r=>r.isEmpty&&(decide (k.arg=some (bf "key"))&&Ej lx pos k.value)
 | []=>false
noncomputable def wJ(sc:Scope)(N:List Str)(a:CE)(lx:Str)(pos:Pos):Expr->Bool
 |.Call f es ks _=>isNm "sorted" f&&(kC sc "sorted"&&(mG sc N (.cons a .nil) es&&LL lx pos ks))
 |_=>false
noncomputable def LJ(sc:Scope)(N:List Str)(i:Nat):List Expr->Bool
 |g::r=>r.isEmpty&&wI sc N true (.name i) g
 | []=>false
noncomputable def Ek(sc:Scope)(N:List Str)(i:Nat)(a:CE)(lx:Str)(pos:Pos):Stmt->Bool
 |.Assign ts v _=>LJ sc N i ts&&wJ sc N a lx pos v
 |_=>false
theorem asg_of{a:CE}{s:Stmt}(h:Ek sc N i a lx pos s=true):∃ts v p,s=.Assign ts v p/\LJ sc N i ts=true/\wJ sc N a lx pos v=true:=by
 cases s<;>first |exact cW h|skip
 obtain⟨b,c⟩:=jF h;exact⟨_,_,_,rfl,b,c⟩
theorem tg_of{a:List Expr}(h:LJ sc N i a=true):∃g,a=[g]/\wI sc N true (.name i) g=true:=by
 cases a with
 |nil=>exact cW h
 |cons g r=>obtain⟨b,c⟩:=jF h;cases emp b;exact⟨g,rfl,c⟩
theorem LO{b:CE}{v:Expr}(h:wJ sc N b lx pos v=true):∃f es ks c,v=.Call f es ks c/\isNm "sorted" f=true/\kC sc "sorted"=true/\mG sc N (.cons b .nil) es=true/\LL lx pos ks=true:=by
 cases v<;>first |exact cW h|skip
 obtain⟨d,a⟩:=jF h;obtain⟨e,a⟩:=jF a;obtain⟨g,i⟩:=jF a;exact⟨_,_,_,_,rfl,d,e,g,i⟩
theorem kw_of{ks:List Keyword}(h:LL lx pos ks=true):∃kv kp,ks=[⟨some (bf "key"),kv,kp⟩]/\Ej lx pos kv=true:=by
 cases ks with
 |nil=>exact cW h
 |cons k ks=>obtain⟨a,b⟩:=jF h;obtain⟨c,d⟩:=jF b;cases emp a;obtain⟨e,kv,kp⟩:=k;cases of_decide_eq_true c;exact⟨_,_,rfl,d⟩
def CAO(sc:Scope)(N:List Str)(i:Nat)(a:CE)(lx:Str)(pos:Pos)(s:Stmt):Prop:=∃g e c scope p1 j p2 p3 p kp b sp,s=.Assign [g] (.Call (.Name "sorted" p) [e] [⟨some (bf "key"),.Lambda (rq lx c) (.Subscript (.Name lx p1) (.Constant (.int 0) j p2) p3) scope pos,kp⟩] b) sp/\
  wI sc N true (.name i) g=true/\kC sc "sorted"=true/\dA sc N a e=true/\ql lx scope=true
theorem HP{a:CE}{s:Stmt}(h:Ek sc N i a lx pos s=true):CAO sc N i a lx pos s:=by
 obtain⟨C,v,sp,rfl,k,o⟩:=asg_of h;obtain⟨g,rfl,q⟩:=tg_of k;obtain⟨f,y,z,b,rfl,r,t,u,w⟩:=LO o;obtain⟨p,rfl⟩:=FD r;obtain⟨e,B,rfl,x,l⟩:=jX u;cases lM l;obtain⟨A,kp,rfl,m⟩:=kw_of w;obtain⟨c,scope,p1,j,p2,p3,d,n⟩:=HN m;cases d;exact⟨_,_,_,_,_,_,_,_,_,_,_,_,rfl,q,t,x,n⟩
noncomputable def chkK(sc:Scope)(N:List Str)(a:CS)(i:Nat)(c:CE)(lx:Str)(pos:Pos)(b:CB):List Stmt->Bool
 |s1::r=>chkS sc N a s1&&rst r
 | []=>false
where rst:List Stmt->Bool
 |s2::rest=>Ek sc N i c lx pos s2&&qw sc N b rest
 | []=>false
section
variable {P:Program}{w:World}{K:ah}{mg:Str->Option Value}{base:Heap}
theorem Ll{st:Stmt}{q:fh}{sp:Sp}{l:CS}{n:CE}{m:CB}{T:Tb}(F:Fun K x qual st f q)(Y:pD N ps (aO st)=true)
  (b:chkK (aO st) N l i n lx T.pos m (aX st)=true)(W:q.code=.ref c)(O:CodeHd base c T.P)(hq:qual++".<locals>."++"<lambda>"=T.q)(U:BM mg base)
  (V:∀(p:Pos)(j:Expr)(scope:Scope)(qual:Str)(pm ctv v:Value)(c':Addr),qB (kla_fn "<lambda>" qual (rq lx p) j scope [] pm (.ref c') ctv) ⟨[v],[]⟩=pure [(lx,v)])
  (g:GOk P w K mg base (CXx P w) k G)(len:∀vs H Q E,sp vs H Q E->vs.length=ps.length)
  (h:∀vs H Q E,sp vs H Q E->xx (wpS G K (fun _=>E) l) (xx (yZ (vg K T (wpE G K (fun _=>E) n)) (nH i)) (wpB G K (fun _=>E) m)) {nx:=fun _ H'=>Q .non H',rt:=Q} (start N vs) H):ju P w K mg base (CXx P w) (k+1) f q ps sp:=by
 have S:=Bv Y;obtain⟨oc,od,kV,a1,pm,an,C,ct,a3,rfl,lk,X⟩:=F.ex;have D:C=.ref c:=W;subst D;refine fn_of lk X S len fun a0 outer a4 H vs Q E u Z=>?_;have o:=Kq (outer:=outer) (E:=E) (H:=H) S g u;refine⟨_,?_,h vs H Q E Z⟩;generalize hB:aX st=j at b;cases j with
 |nil=>exact(ao b).elim
 |cons s1 r=>
  obtain⟨I,b⟩:=jF b;cases r with
  |nil=>exact(ao b).elim
  |cons s2 rest=>
  obtain⟨J,L⟩:=jF b;obtain⟨g',e,pa,scope,p1,a2,p2,p3,p,kp,cp,a5,rfl,s,M,t,a⟩:=HP J;obtain⟨d,a⟩:=jF a;obtain⟨y,a⟩:=jF a;obtain⟨A,a⟩:=jF a;obtain⟨B,n5⟩:=jF a;rw[decide_eq_true_eq]at d y A B;have R:=sD (CX:=CXx P w) (fun _ _ _ _ _ z=>HJ z) (.name i) _ o s;refine qN (Js (fun _ _ _ _ _ z=>HJ z) l s1 o (fun _ _ _ _ _=>S.kind) I) (qN ?_ (m9 (fun _ _ _ _ _ z=>HJ z) m rest o (fun _ _ _ _ _=>S.kind) L));refine DB (Ka (c:=c) (T:=T) (bJ (fun _ _ _ _ _ z=>HJ z) n e o t) (cD t [] _) (o.gl M) (g.blt _ (by decide+kernel)) rfl O hq U ?_ ?_) R (BA rfl _ _ _) (vO s (fP _) _) (by rw[qQ s];rfl)
  ·refine⟨?_,rfl,fun qual pm ctv v c'=>V pa _ _ qual pm ctv v c',by rw[d];simp,by simpa using n5,y,?_,A,B⟩;·unfold Iz;rw[d];rfl
   ·rw[d];intro z hz;have :z=(lx,eD.local):=by simpa using hz
    rw[this];exact fun z=>by cases z
  ·exact u.depth
end
noncomputable def kh(K:ah)(tabs:List Addr)(a:Addr)(vs:List Value)(ns:List Int):Hp:=fun b=>
 if b∈tabs then some (.tbl #[])else if b=a/\K.lookup a=none then some (.frz {cls:=.type "list",data:=.seq vs.toArray} (.lst (ns.map V.int)))else none
theorem Hw{CX:CXT}{D:fh}{sp:Sp}{c:Shared}(B:K.In c.heap)
  (J:c.heap.Ns bF mg)(f:c.heap.Ns m3 mb)(a0:∀x:Str,x≠"__name__"->mb x=fM x)(a2:c.heap.NoLimit)(hg:c.gens= #[])(j:c.heap.get? a=some {cls:=.type "list",data:=.seq vs.toArray})
  (hi:bZ vs ns) (I:ns.length<=sizeLine) (hr:jf k Gf) (t:∀p∈tabs,c.heap.get? p=some (tabObj #[])/\isCodeTable c.heap p/\K.lookup p=none)
  (F:∀base:Heap,K.In base->base.Ns bF mg->(∀b o,c.heap.get? b=some o->o.cls≠.none->o.cls≠.type "list"->base.get? b=some o)->ju P w K mg base CX k fa D [x] sp)
  (a1:∀(s:Shared)(u:Value),BindsTo s D ⟨[u],[]⟩ [(x,u)])
  (a4:∀H:Hp,(∀p∈tabs,H p=some (.tbl #[]))->SqL K H a (ns.map V.int)->sp [.ref a] H (fun v _=>v=.bl true) fun _ _ _=>False) (W:∀H e s',CX [] H c (fun _ _ _=>False) e s'->False):
  gH (model P w) Gf (.call (.ref fa) ⟨[.ref a],[]⟩) (fun r s'=>r=.ok (.ret (.bool true))/\OldK c.heap s'.heap/\s'.os=c.os/\ph s'.gens) c:=by
 have M:=sx hi;have a5:=hi.length;have y:∀b,(b∈tabs/\kh K tabs a vs ns b=some (.tbl #[]))\/(b=a/\K.lookup a=none/\kh K tabs a vs ns b=some (.frz {cls:=.type "list",data:=.seq vs.toArray} (.lst (ns.map V.int))))\/kh K tabs a vs ns b=none:=fun b=>by
  unfold kh;by_cases i:b∈tabs;·exact .inl ⟨i,if_pos i⟩
  ·rw[if_neg i];by_cases g:b=a/\K.lookup a=none;·exact .inr (.inl ⟨g.1,g.2,if_pos g⟩)
   ·exact .inr (.inr (if_neg g))
 have N:∀p∈tabs,kh K tabs a vs ns p=some (.tbl #[]):=fun p hp=>if_pos hp;have Z:a∉tabs:=fun z=>by have :=(t a z).1;rw[j]at this;cases this
 --what is neither a table nor a list is not tracked
 have O:∀{b:Addr}{o:Obj},c.heap.get? b=some o->o.cls≠.none\/(∃n l,o.data=.dict n l)->o.cls≠.type "list"\/(∃n l,o.data=.dict n l)->kh K tabs a vs ns b=none:=fun{b o} e i g=>by
  rcases y b with⟨q,_⟩ |⟨rfl,_⟩ |q
  ·have :=(t b q).1;rw[e]at this;cases this;rcases i with z|⟨_,_,z⟩;·exact absurd rfl z
   ·cases z
  ·rw[j]at e;cases e;rcases g with z|⟨_,_,z⟩;·exact absurd rfl z
   ·cases z
  ·exact q
 have A:∀{b:Addr}{m:Str->Option Value},c.heap.Ns b m->(BW c.heap (kh K tabs a vs ns)).Ns b m:=fun{b m} ⟨o,n,l,e,d,r⟩=>⟨o,n,l,wc e (O e (.inr ⟨_,_,d⟩) (.inr ⟨_,_,d⟩)),d,r⟩;have G:K.In (BW c.heap (kh K tabs a vs ns)):=fun b o e=>wc (B b o e) (by
  rcases y b with⟨q,_⟩ |⟨rfl,z,_⟩ |q;·rw[(t b q).2.2]at e;cases e
  ·rw[z]at e;cases e
  ·exact q)
 have a3:HOk P w (kh K tabs a vs ns) c.heap:=fun b o e=>by
  rcases y b with⟨q,z⟩ |⟨rfl,_,z⟩ |z;·rw[z]at e;cases e;exact(t b q).1
  ·rw[z]at e;cases e;exact⟨j,by rw[ai];exact I,vs,_,M,j⟩
  ·rw[z]at e;cases e
 have Y:SqL K (kh K tabs a vs ns) a (ns.map V.int):=by
  cases hk:K.lookup a with
  |none=>refine .inl (.inr ⟨{cls:=.type "list",data:=.seq vs.toArray},?_⟩);unfold kh;rw[if_neg Z,if_pos ⟨rfl,hk⟩]
  |some o=>have e:=B a o hk;rw[j]at e;cases e;exact .inr ⟨_,vs.toArray,_,hk,rfl,rfl,rfl,by rw[aB,a5];exact I,by simpa using M⟩
 have X:Mod K mg (BW c.heap (kh K tabs a vs ns)):=⟨G,A J,⟨mb,A f,a0⟩,let⟨mc,i,g⟩:=a2;⟨mc,A i,g⟩⟩;have S:Ew P w K mg (BW c.heap (kh K tabs a vs ns)) Gf [] c (kh K tabs a vs ns):=⟨rfl,X,fun b o e=>of_hidT e,IC (HF _ _),trivial,fun b f=>absurd (show b∈([]:List Addr)from f) (by simp),a3,.of_eq hg⟩;have U:=F _ G (A J) fun b o e i g=>wc e (O e (.inl i) (.inl g));refine jT (U.run Gf [] c (kh K tabs a vs ns) ⟨[.ref a],[]⟩ [.ref a] [.ref a] _ _ hr S (a1 c (.ref a)) (.cons rfl .nil) (a4 _ N Y)) fun r s' h=>?_;cases r with
 |error e=>exact(W _ e s' h).elim
 |ok fl=>
  cases fl with
  |next =>exact gS h
  |brk=>exact gS h
  |cont=>exact gS h
  |ret u=>
   obtain⟨v,H',os,Q,un,L,r',q⟩:=h;have q':v=.bl true:=q;subst q';obtain rfl:u=AB true:=r';have kept:∀b o,c.heap.get? b=some o->b∉tabs->s'.heap.get? b=some o:=fun b o e nt=>by
    rcases y b with⟨z,_⟩ |⟨rfl,_,z⟩ |z;·exact absurd z nt
    ·have z2:=un.frzs b _ _ z;obtain⟨T,_⟩:=L b _ z2;rw[j]at e;cases e;exact T
    ·exact un.keep b o e z (by intro z;exact absurd (show b∈([]:List Addr)from z) (by simp)) (by simp)
   have E:∀b∈tabs,∃more,s'.heap.get? b=some (tabObj (#[]++more)):=fun b f=>by obtain⟨more,z⟩:=un.tbls b _ (N b f);exact⟨more,L b _ z⟩
   refine⟨rfl,⟨fun b o e=>?_,fun b o e=>?_⟩,os,Q⟩
   ·by_cases f:b∈tabs;·obtain⟨C,R,_⟩:=t b f;rw[e]at C;cases C;obtain⟨more,z⟩:=E b f;exact .inr (.inl ⟨R,rfl,#[],more,rfl,z⟩)
    ·exact .inl (kept b o e f)
   ·by_cases f:b∈tabs;·obtain⟨more,z⟩:=E b f;exact⟨_,z⟩
    ·exact⟨o,kept b o e f⟩
theorem bm_of(l:h.Ns bF mg)(j:∃bm a,mg "__builtins__"=some (.ref bm)/\bm≠m3/\h.get? bm=some a/\a.cls=.type "module"/\a.dict=some m3/\a.data=.plain):BM mg h:=by obtain⟨bm,a,d,f,b,g,i,c⟩:=j;refine⟨bm,a,d,f,fun q=>?_,b,g,i,c⟩;obtain⟨o,n,m,e,k,_⟩:=l;rw[q,e]at b;cases b;rw[k]at c;cases c
theorem IU{l:PySem.W.OpenLaw}{q:Program}{XP:(Str->Option Value)->Heap->Prop}{YP:World->Heap->Prop}{d:DefRec}{K:Params->ah}{CX:CXT}{sp:ah->Sp}
  (Q:l.most=some n)(R:n<=sizeLine)(M:d.params.defaults=[])(U:jf k Gf)(I:∀(w:World)(h:Heap),YP w h->(K w.params).In h)
  (E:∀(w:World)(c:Shared)(mg mb:Str->Option Value)(h:Heap),Ground q loose [] XP w c mg mb h->YP w h->∀p∈tabs,h.get? p=some (tabObj #[])/\isCodeTable h p/\(K w.params).lookup p=none)
  (F:∀(w:World)(mg:Str->Option Value)(fa:Addr)(h:Heap),(K w.params).In h->h.Ns bF mg->mg d.name=some (.ref fa)->
   ∃fd:fh,(∀(s:Shared)(u:Value),BindsTo s fd ⟨[u],[]⟩ [(x,u)])/\
    ∀base:Heap,(K w.params).In base->base.Ns bF mg->BM mg base->ju l.prog w (K w.params) mg base CX k fa fd [x] (sp (K w.params)))
  (W:∀(K:ah)(H:Hp)(a:Addr)(ns:List Int),ns.length<=n->(∀p∈tabs,H p=some (.tbl #[]))->SqL K H a (ns.map V.int)->sp K [.ref a] H (fun v _=>v=.bl true) fun _ _ _=>False)
  (C:∀(H:Hp)(s:Shared)(e:Value)(s':Shared),CX [] H s (fun _ _ _=>False) e s'->False):
  PySem.W.WalkO q loose XP YP l.row.toRowW d [] (fun f vs=>PySem.call f vs):=by
 refine Att.Cu Q M fun w c a0 mg mb fa a3 pm cd a1 a vs ns G Y ho hd a2 P T O j N=>?_;have g:=I w _ Y;obtain⟨fd,J,D⟩:=F w mg fa _ g G.T.g P;have L:=bm_of G.T.g G.T.bmain;refine Hw g G.T.g G.T.b G.T.builtins G.T.nolimit N T O (aP j R) U (E w c mg mb _ G Y) (fun base X Z k3=>D base X Z ?_) J (fun H t S=>W _ H a ns j t S) fun H e s'=>C H a0 e s';obtain⟨i,m,r,y,o,z,b,A,B⟩:=L;exact⟨i,m,r,y,o,k3 i m z (by rw[b];nofun) (by rw[b];decide),b,A,B⟩
end Lm
namespace Cp
open PySem PySem.Spec PyProof.Rows L2 R Lm
noncomputable def qO:List Str:=["table"]
noncomputable def jL:List Str:=["table","ordered"]
noncomputable def lq:CS:=.expr (.call "need_table" (.cons (.var 0) .nil))
noncomputable def ll:CB:=.cons (.ret (.comp ["name","readings"] [] (.tup (.cons (.name 0) (.cons (.name 1) .nil))) (.seq (.var 1)) .no (.tup (.cons (.var 0) (.cons (.bfn .tuple (.cons (.bfn .list (.cons (.var 1) .nil)) .nil)) .nil))))) .nil
theorem _root_.Lm.Gr.free{T:Tb}(g:Gr T H H')(t:Tab T H)(h:H' l=none):H l=none:=by
 cases e:H l with
 |none=>rfl
 |some o=>
  by_cases n:l=T.P
  ·rcases g.tab t with z|⟨_,_,_,_,_,z,_⟩;·rw[n,z]at h;cases h
   ·rw[n,z]at h;cases h
  ·rw[g.keep l o n e]at h;cases h
noncomputable def srt(H:Hp):V->List V
 |.ref a=>match eQ (H a)with
  |some ys=>_root_.Q.sortBy .non (ys.map (aU H)) ys
  |none=>[]
 |_=>[]
def Copied(H H':Hp)(us zs:List V):Prop:=zs.length=us.length/\∀(i:Nat) z,zs[i]? =some z->∃b r,z=.ref b/\H' b=some (.tup [.str (aU H (us.getD i .non)),.ref r])/\H' r=some (.tup (sF H (us.getD i .non)))
def za(C:Addr)(T:Tb):Sp:=fun vs H Q E=>∃x,vs=[x]/\Kn4 H x/\Tab T H/\(dW H x=true->∀H' l zs,Gr T H H'->H l=none->H' l=some (.lst zs)->Copied H H' (srt H x) zs->Q (.ref l) H')/\(dW H x=false->False)
theorem tk_of(s:aQ H H'):∀{xs:List V},(∀y∈xs,dj H y=true)->_root_.Q.oR H' xs (xs.map (aU H))
 | [],_=>.nil
 |y::xs,h=>by obtain⟨a,b,e,c,_⟩:=kU (h y (.head _));exact .cons ⟨a,_,e,s _ _ c⟩ (tk_of s fun z d=>h z (.tail _ d))
theorem xq{T:Tb}(P:G.fn "need_table" 1=some (y9 C,[])):
  ∀vs H Q E,za C T vs H Q E->xx (R.wpS G K (fun _=>E) lq) (xx (yZ (vg K T (wpE G K (fun _=>E) (.var 0))) (nH 1)) (wpB G K (fun _=>E) ll)) {nx:=fun _ H'=>Q .non H',rt:=Q} (L2.start jL vs) H:=by
 rintro vs H Q E ⟨x,rfl,W,tb,q1,q2⟩;unfold lq ll;change xx _ _ _ [some x,none] H;unfold vg;walk_at "wp";refine⟨_,_,P,x,rfl,W,fun e L k=>?_,q2⟩;obtain⟨a,d,rfl,A,S,B,D,h5⟩:=eV e;have a4:Tab T L:=(Gr.of k).tab tb;refine⟨a,d,d.map (aU H),rfl,k.seq (lJ A),by rw[ai];lia,D,tk_of k B,a4,fun m l gr X=>?_⟩;have M:srt H (.ref a)=_root_.Q.sortBy V.non (d.map (aU H)) d:=by show(match eQ (H a)with |some d=>_root_.Q.sortBy V.non (d.map (aU H)) d|none=>[])=_;rw[A]
 have w:(_root_.Q.sortBy V.non (d.map (aU H)) d).Perm d:=_root_.Q.gv V.non D (by simp);have o:=q1 e;rw[M]at o;generalize _root_.Q.sortBy V.non (d.map (aU H)) d=us at w o⊢;have j:Gr T H (upd m l (.lst us)):=(Gr.of k).trans (gr.trans (Gr.of (av X)));have n:upd m l (.lst us) l=some (.lst us):=au;generalize upd m l (.lst us)=H3 at j n⊢;have a0:us.length<=40:=by rw[w.length_eq];exact S
 refine dH (cT rfl (SqL.of n) (eJ dZ (aP a0 (by decide)) (fun f g=>SqL.of (g _ _ n)) (fun i v H'=>∃b r,v=V.ref b/\H' b=some (.tup [.str (aU H (us.getD i .non)),.ref r])/\H' r=some (.tup (sF H (us.getD i .non))))
  (fun i v f H5 h ⟨b,r,p,q,s⟩=>⟨b,r,p,h _ _ q,h _ _ s⟩) (fun J=>∃t u,J=[t,u]) ⟨none,none,rfl⟩ ?_ ?_))
 ·rintro a6 y J f R hi ⟨t,u,rfl⟩ g I a2;have Z:y∈d:=w.mem_iff.mp (aI I);obtain⟨b,c,rfl,k1,k2,k3,k4⟩:=kU (B y Z);have N:=g _ _ (j.ur tb k1);have O:=g _ _ (j.ur tb k2);refine⟨b,_,rfl,SqT.of N,rfl,_,_,rfl,_,_,rfl,rfl,?_⟩;walk_at "wp";refine⟨c,_,rfl,.inr (SqT.of O),fun l1 Y=>⟨l1,_,rfl,.inl ⟨SqL.of au,fun r hr=>⟨aP (by simp :_<=2) (by decide),fun a3 hp=>a2 _ _ _ ⟨_,_,rfl⟩ ((av Y).trans ((av hr).trans (av hp))) ?_⟩⟩⟩⟩;rw[getD_some I];exact⟨a3,r,rfl,au,by rw[aS (a9 au hp)];exact au⟩
 ·intro vs f l2 a1 U g F;have z:Gr T H f:=j.trans (Gr.of g);have h:aQ f (upd f l2 (.lst vs)):=av F;refine o _ l2 vs (z.trans (Gr.of h)) (z.free tb F) au ⟨a1,fun i a5 hz=>?_⟩;obtain⟨b,r,p,q,s⟩:=U i a5 hz;exact⟨b,r,p,h _ _ q,h _ _ s⟩
end Cp
namespace K22
open PySem R
noncomputable def p_clash:List Str:=["table"]
noncomputable def Fo:List Str:=["table","copies","count","one","other","names"]
noncomputable def yI:CB:=
  (.cons (.ret (.con .none))
  .nil)
noncomputable def yJ:CB:=
  (.cons (.forr (.name 3) (.range1 (.var 2))
  (.cons (.forr (.name 4) (.range2 (.bin .Add (.var 3) (.con (.int 1))) (.var 2))
  (.cons (.asg (.name 5) (.call "first_of_kinds" (.cons (.var 1) (.cons (.var 3) (.cons (.var 4) .nil)))))
  (.cons (.iff (.cmp .IsNot (.var 5) (.con .none))
  (.cons (.ret (.tup (.cons (.var 3) (.cons (.var 4) (.cons (.var 5) .nil)))))
  .nil)
  .nil)
  .nil)))
  .nil))
  yI)
noncomputable def yK:CB:=
  (.cons (.asg (.name 2) (.call "place_count" (.cons (.var 1) .nil)))
  yJ)
noncomputable def F8:CB:=
  (.cons (.asg (.name 1) (.call "table_list" (.cons (.var 0) .nil)))
  yK)
end K22
namespace K22
open PySem PySem.Spec PyProof.Rows L2 R Cp Lt Kc K21 Lm
noncomputable def cd(H:Hp)(y:V):Str×List V:=(aU H y,sF H y)
noncomputable def Hj(i:Int)(p:Str×List V):Int:=match p.2.getD i.toNat .non with
 |.int n=>n
 |_=>0
noncomputable def isK(i j:Int)(k:Int×Int)(p:Str×List V):Bool:=decide (Hj i p=k.1/\Hj j p=k.2)
noncomputable def rB(rows:List (Str×List V))(i j:Int):Bool:=KP.all fun k=>rows.any (isK i j k)
noncomputable def Fl(rows:List (Str×List V))(i j:Int)(k:Int×Int):Str:=((rows.find? (isK i j k)).map (·.1)).getD ""
theorem FK{i j:Int}:la H xs i j=rB (xs.map (cd H)) i j:=by unfold la rB;congr 1;funext k;rw[Gs];rfl
theorem Kw{i j:Int}(h:la H xs i j=true):KP.map (firstOf H xs i j)=(KP.map (Fl (xs.map (cd H)) i j)).map V.str:=by
 rw[bD];refine cO fun k d=>?_;have c:xs.any (fun y=>decide (num H i y=k.1/\num H j y=k.2))=true:=by unfold la at h;exact bI.mp h k d
 have b:(fun y=>decide (kf H i j y=qj k))=(isK i j k)∘(cd H):=by
  funext y
  exact decide_eq_decide.mpr kf_eq
 show firstOf H xs i j k=V.str (Fl (xs.map (cd H)) i j k);unfold firstOf Fl;rw[b,List.find?_map];obtain⟨f,e,a⟩:=cB.mp c;cases hf:xs.find? ((isK i j k)∘(cd H))with
 |none=>rw[ui]at hf;exact absurd a (hf f e)
 |some y=>rfl
structure First(rows:List (Str×List V))(n i j:Nat):Prop where
 ij:i<j
 jn:j<n
 four:rB rows i j=true
 no:∀a b:Nat,a<b->b<n->(a<i\/a=i/\b<j)->rB rows a b=false
def NoC(rows:List (Str×List V))(n:Nat):Prop:=∀a b:Nat,a<b->b<n->rB rows a b=false
def Res(H:Hp)(rows:List (Str×List V))(n:Nat)(v:V):Prop:=(v=.non/\NoC rows n)\/∃(i j:Nat)(a l:Addr),v=.ref a/\First rows n i j/\H a=some (.tup [.int i,.int j,.ref l])/\H l=some (.tup ((KP.map (Fl rows i j)).map V.str))
noncomputable def rowsOf(H:Hp)(x:V):List (Str×List V):=(srt H x).map (cd H)
theorem Dx{r:Addr}(a:H b=some (.tup [.str z,.ref r]))(e:H r=some (.tup zs)):cd H (.ref b)=(z,zs):=by
 have c:aU H (.ref b)=z:=by show(match dS (H b)with |some (.str z::_)=>z|_=>("":Str))=_;rw[a];rfl
 have d:sF H (.ref b)=zs:=by show(match dS (H b)with |some [_,.ref b]=>(dS (H b)).getD [] |_=>[])=zs;rw[a];show(dS (H r)).getD []=zs;rw[e];rfl
 unfold cd;rw[c,d]
theorem uL{t:Addr}(h:eQ (H t)=some ys):srt H (.ref t)=_root_.Q.sortBy .non (ys.map (aU H)) ys:=by show(match eQ (H t)with |some ys=>_root_.Q.sortBy V.non (ys.map (aU H)) ys|none=>[])=_;rw[h]
theorem Ho{x:V}(h:dj H x=true):iu (aU H x)=true:=by obtain⟨_,_,_,_,_,_,_,a,_,_,b,_⟩:=ix h;rw[b];exact a
theorem wB{x:V}(e:dW H x=true)(h:H' l=some (.lst zs))(c:Copied H H' (srt H x) zs):
  Kn4 H' (.ref l)/\dW H' (.ref l)=true/\count H' (.ref l)=count H x/\zs.map (cd H')=rowsOf H x:=by
 obtain⟨a,n,rfl,s,T,E,F,G⟩:=eV e;have Q:=uL s;have d:(srt H (.ref a)).Perm n:=by rw[Q];exact _root_.Q.gv V.non F (by simp)
 unfold rowsOf;generalize srt H (.ref a)=us at c d⊢;have Z:us.length<=40:=by rw[d.length_eq];exact T
 have K:∀u∈us,dj H u=true/\cy H u=count H (.ref a):=fun u I=>⟨E u (d.mem_iff.mp I),G u (d.mem_iff.mp I)⟩;have nd:(us.map (aU H)).Nodup:=(d.map (aU H)).nodup_iff.mpr F;have get:∀{i:Nat}{z:V},zs[i]? =some z->us[i]? =some (us.getD i .non)/\us.getD i .non∈us:=fun{i z} f=>by
  have hi:i<us.length:=by have :=(aC.mp f).1;rw[<-c.1];exact this
  have e:us[i]? =some (us.getD i .non):=by rw[ae,aa hi];rfl
  exact⟨e,aI e⟩
 let nf:Nat->Str:=fun i=>if i<us.length then aU H (us.getD i .non)else "a"
 have J:∀i,iu (nf i)=true:=fun i=>by
  show iu (if i<us.length then aU H (us.getD i .non)else "a")=true;split
  ·rename_i hi;have e:us[i]? =some (us.getD i .non):=by rw[ae,aa hi];rfl
   exact Ho (K _ (aI e)).1
  ·decide+kernel
 have dr:Dr H' nf (count H (.ref a)) zs:=fun i z f=>by obtain⟨b,r,X,t,v⟩:=c.2 i z f;obtain⟨R,S⟩:=get f;have hi:i<us.length:=(aC.mp R).1;obtain⟨N,O⟩:=K _ S;obtain⟨_,_,_,_,_,k3,k4⟩:=kU N;refine⟨b,r,_,X,?_,v,by rw[k3,O],k4⟩;show H' b=some (.tup [.str (if i<us.length then aU H (us.getD i .non)else "a"),.ref r]);rw[if_pos hi];exact t
 have hn60:n=[]\/count H (.ref a)<=60:=by
  cases n with
  |nil=>exact .inl rfl
  |cons y r=>
   right
   rw[<-G y (.head _)];obtain⟨_,_,_,_,_,_,_,_,U,_,_,W⟩:=ix (E y (.head _));rw[W];exact U
 have Y:∀i j,i<zs.length->j<zs.length->nf i=nf j->i=j:=fun i j hi w e=>by
  rw[c.1]at hi w;have o:(if i<us.length then aU H (us.getD i .non)else "a")=(if j<us.length then aU H (us.getD j .non)else "a"):=e;rw[if_pos hi,if_pos w]at o;have g:∀k (A:k<us.length),(us.map (aU H))[k]'(by simpa using A)=aU H (us.getD k .non):=fun k A=>by rw[bH,ae,aa A];rfl
  rw[<-g i hi,<-g j w]at o;exact(eR nd).mp o
 have L:zs=[]↔us=[]:=by rw[<-aV,c.1,aV]
 have M:zs.map (cd H')=us.map (cd H):=by
  apply jo
  intro i;rw[aA,aA];cases f:zs[i]? with
  |none=>
   have :us.length<=i:=by have :=List.getElem?_eq_none_iff.mp f;rw[c.1]at this;exact this
   rw[bY this];rfl
  |some z=>obtain⟨b,r,rfl,t,v⟩:=c.2 i z f;rw[(get f).1];show some (cd H' (.ref b))=some (cd H (us.getD i .non));rw[Dx t v];rfl
 rcases hn60 with m|hn60
 ·have B:us=[]:=by rw[m]at d;exact List.perm_nil.mp d
  have a0:=L.mpr B;subst a0;have P:Dr H' nf 0 []:=fun i y e=>by simp at e
  obtain⟨C,D,_,_⟩:=wz J (fun i j hi=>absurd hi (by simp)) h P (by simp) (by decide);refine⟨C,D,?_,M⟩;have p:count H' (.ref l)=0:=by show(match eQ (H' l)with |some (y::_)=>cy H' y|_=>0)=0;rw[h];rfl
  have q:count H (.ref a)=0:=by show(match eQ (H a)with |some (y::_)=>cy H y|_=>0)=0;rw[s,m]
  rw[p,q]
 ·obtain⟨C,D,_,t4⟩:=wz J Y h dr (by rw[c.1];exact Z) hn60;refine⟨C,D,?_,M⟩;cases zs with
  |nil=>
   have B:=L.mp rfl;have m:n=[]:=by rw[B]at d;exact List.nil_perm.mp d
   have p:count H' (.ref l)=0:=by show(match eQ (H' l)with |some (y::_)=>cy H' y|_=>0)=0;rw[h];rfl
   have q:count H (.ref a)=0:=by show(match eQ (H a)with |some (y::_)=>cy H y|_=>0)=0;rw[s,m]
   rw[p,q]
  |cons z r=>show(match eQ (H' l)with |some (y::_)=>cy H' y|_=>0)=_;rw[h];exact t4 z (.head _)
def ze(C:Addr)(T:Tb):Sp:=fun vs H Q E=>∃x,vs=[x]/\Kn4 H x/\Tab T H/\(dW H x=true->∀H' v,Gr T H H'->Res H' (rowsOf H x) (count H x) v->Q v H')/\(dW H x=false->False)
theorem IS{T:Tb}(g1:G.fn "table_list" 1=some (za C T,[]))(g2:G.fn "place_count" 1=some (uM C,[]))(g3:G.fn "first_of_kinds" 3=some (zd,[])):
  Sat G K (ze C T) F8 Fo:=by
 rintro vs H a9 a8 ⟨x,rfl,hk,tb,q1,q2⟩;unfold F8 yK;change wpB G K _ _ _ [some x,none,none,none,none,none] H;walk_at "wp";refine⟨_,_,g1,x,rfl,hk,tb,fun e d l O gr hl E a0=>?_,q2⟩;obtain⟨kn,N,D,A⟩:=wB e E a0;have t:=q1 e;generalize rowsOf H x=rw0 at A t;generalize hn:count H x=n at D t;refine⟨_,_,g2,.ref l,rfl,kn,fun _ H2 s2=>?_,fun z=>by rw[N]at z;cases z⟩;rw[D];have U:eQ (d l)=some O:=by rw[E];rfl
 have W:∀z:Nat,z<n->isPlace d (.ref l) (.int z)=true:=fun z hz=>decide_eq_true ⟨by lia,by lia⟩;have b0:n<=60:=by
  obtain⟨Q,b1,ea,S,f2,f3,f4,f5⟩:=eV N;cases ea;rw[U]at S;cases S;rw[<-D];cases O with
  |nil=>show(match eQ (d l)with |some (y::_)=>cy d y|_=>0)<=60;rw[E];exact aZ _
  |cons y r=>rw[<-f5 y (.head _)];obtain⟨_,_,_,_,_,_,_,_,a2,_,_,h8⟩:=ix (f3 y (.head _));rw[h8];exact a2
 unfold yJ;walk_at "wp";refine fJ ?_;walk_at "wp";refine⟨(n:Int),rfl,by lia,by lia,?_⟩;refine eZ cR (fun i h B=>aQ d B/\(∀a b:Nat,a<i->a<b->b<n->rB rw0 a b=false)/\∃u v w,h=[some x,some (.ref l),some (.int n),u,v,w])
  ⟨s2,fun a b a1=>absurd a1 (by lia),none,none,none,rfl⟩ (fun _ _ _ _ _=>trivial) ?_ ?_
 ·rintro i y h P H4 D2 hi ⟨I,s,u,v,w,rfl⟩ rfl s4 a3 a6;have a5:i<n:=by lia
  walk_at "wp";simp only[eE];refine fJ ?_;walk_at "wp";refine⟨_,_,rfl,⟨by lia,by lia,by lia,by lia⟩,?_⟩;refine eZ cR (fun m h B=>aQ d B/\(∀b:Nat,i<b->b<i+1+m->rB rw0 i b=false)/\∃v w,h=[some x,some (.ref l),some (.int n),some (.int i),v,w])
   ⟨I.trans s4,fun b g c=>absurd c (by lia),_,_,rfl⟩ (fun _ _ _ _ _=>trivial) ?_ ?_
  ·rintro m y h X Y D3 hm ⟨J,o,v,w,rfl⟩ rfl s6 a4 a7;have F:i+1+m<n:=by lia
   have ej:(i:Int)+1+(m:Int)=((i+1+m:Nat):Int):=by lia
   walk_at "wp";rw[ej];generalize hjj:i+1+m=j at F o⊢;have L:aQ d Y:=J.trans s6;refine⟨_,_,g3,l,O,i,j,d,rfl,L,N,U,W i a5,W j F,fun f Z M=>?_,fun f Z p M hp ep=>?_⟩
   ·show if(!decide (V.non=V.non))=true then _ else _
    rw[if_neg (by simp)];refine a4 _ _ ⟨L.trans M,fun b g c=>?_,_,_,rfl⟩;by_cases hb:b=j;·rw[hb,<-A,<-FK];exact f
    ·exact o b g (by lia)
   ·show if(!decide (V.ref p=V.non))=true then _ else _
    rw[if_pos (by simp)];refine⟨short (by simp),fun a q=>?_⟩;rw[a7,a6];refine t _ _ (gr.trans (Gr.of (L.trans (M.trans (av q))))) (.inr ⟨i,j,a,p,rfl,⟨by lia,F,by rw[<-A,<-FK];exact f,fun Q R g c k=>?_⟩,au,?_⟩)
    ·rcases k with k|⟨rfl,k⟩;·exact s Q R k g c
     ·exact o R g (by lia)
    ·rw[av q _ _ ep,Kw f,A]
  ·rintro h X ⟨J,o,v,w,rfl⟩;refine a3 _ _ ⟨J,fun a b g c k=>?_,_,_,_,rfl⟩;by_cases q:a=i;·subst q;exact o b c (by lia)
   ·exact s a b (by lia) c k
 ·rintro h P ⟨I,s,u,v,w,rfl⟩;unfold yI;walk_at "wp";exact t P .non (gr.trans (Gr.of I)) (.inl ⟨rfl,fun a b g c=>s a b (by simp;lia) g c⟩)
theorem vV{d g:Type}{f:d->g}{ys:List d}(hf:∀a∈ys,∀b∈ys,f a=f b->a=b):∀{l m:List d},(∀a∈l,a∈ys)->(∀a∈m,a∈ys)->l.map f=m.map f->l=m
 | [],[],_,_,_=>rfl
 | [],_::_,_,_,e=>by simp at e
 |_::_,[],_,_,e=>by simp at e
 |a::l,b::m,h1,h2,e=>by
  rw[bR,bR]at e;injection e with e1 e2
  rw[hf a (h1 a (.head _)) b (h2 b (.head _)) e1,vV hf (fun x c=>h1 x (.tail _ c)) (fun x c=>h2 x (.tail _ c)) e2]
theorem Hl{c l:Type}{f:c->l}{ys:List c}(nd:(ys.map f).Nodup):∀a∈ys,∀b∈ys,f a=f b->a=b:=fun a g b h e=>by
 obtain⟨i,hi,rfl⟩:=cH.mp g;obtain⟨j,k,rfl⟩:=cH.mp h;have d:(ys.map f)[i]'(by simpa using hi)=(ys.map f)[j]'(by simpa using k):=by rw[bH,bH];exact e
 have :=(eR nd).mp d;subst this;rfl
end K22
namespace Q
open PySem PySem.Spec PySem.W PyProof.Rows L2
theorem yf(nd:ns.Nodup):(DJ ns).Perm (aG ns.length):=by
 unfold DJ;split;·exact d9 _
 ·have P:=(fo (totI nd) (by lia)).1;have :=eU.mp P.perm;simpa using this
end Q
namespace M3
open PySem
theorem and_nat(m n:Nat):i6 (m:Int) (n:Int)=((m&&& n:Nat):Int):=by unfold i6;simp
theorem xor_bit{a b:Int}(c:a=0\/a=1)(d:b=0\/b=1):kM a b=if a=b then 0 else 1:=by rcases c with rfl|rfl<;>rcases d with rfl|rfl<;>decide
noncomputable def num:List Bool->Nat->Nat
 | [],n=>n
 |b::bs,n=>num bs (n*2+b.toNat)
theorem vL:∀(bs:List Bool)(b:Bool)(n:Nat),num (bs++[b]) n=num bs n*2+b.toNat
 | [],_,_=>rfl
 |c::bs,b,n=>vL bs b _
theorem Ff:∀(bs:List Bool)(i:Nat),(num bs.reverse 0).testBit i=(bs[i]?).getD false
 | [],i=>by simp[num]
 |b::bs,i=>by
  rw[u6,vL];cases i with
  |zero=>rw[Nat.testBit_zero];cases b<;>simp <;>lia
  |succ i=>
   rw[Nat.testBit_succ];have e:(num bs.reverse 0*2+b.toNat)/2=num bs.reverse 0:=by
    have a:b.toNat<=1:=by cases b<;>decide
    lia
   rw[e,Ff bs i];simp
theorem and_sub:m&&& n=n↔∀i,n.testBit i=true->m.testBit i=true:=by
 constructor;·intro h i hi;rw[<-h,Nat.testBit_and]at hi;exact(aE _ _▸hi).1
 ·intro h;apply se
  intro i;rw[Nat.testBit_and];cases hn:n.testBit i with
  |true=>rw[h i hn];rfl
  |false=>simp
end M3
namespace M4
open Q
noncomputable def bl(f:Nat->Int)(n:Nat)(P:Nat->Bool):List Int:=(aG n).map fun p=>if P p=true then 1-f p else f p
theorem iz(f:Nat->Int)(n:Nat)(P:Nat->Bool):(bl f n P).length=n:=by simp[bl]
theorem iD{f:Nat->Int}{P Q:Nat->Bool}(h:bl f n P=bl f n Q)(hf:∀p,p<n->f p=0\/f p=1)(hp:p<n):P p=Q p:=by
 have e:(bl f n P)[p]? =(bl f n Q)[p]? :=by rw[h]
 simp[bl,hp]at e;rcases hf p hp with z|z<;>cases hP:P p<;>cases hQ:Q p<;>simp[hP,hQ,z]at e⊢
noncomputable def sub(grp:Nat->Nat)(g p:Nat):Bool:=decide (grp p&&& g=g)
noncomputable def above(grp:Nat->Nat)(g p:Nat):Bool:=decide (grp p&&& g=g/\grp p≠g)
variable {f:Nat->Int}{n:Nat}{grp:Nat->Nat}(hf:∀p,p<n->f p=0\/f p=1)
include hf
theorem Ct(hp:p<n):bl f n (sub grp (grp p))≠bl f n fun _=>false:=fun h=>by have :=iD h hf hp;simp[sub]at this
theorem Cs(hp:p<n)(hq:q<n)(c:grp p≠grp q):bl f n (sub grp (grp p))≠bl f n (sub grp (grp q)):=fun h=>by have a:=iD h hf hp;have b:=iD h hf hq;simp[sub]at a b;exact c (by rw[<-b,Nat.and_comm,a])
theorem LI(hp:p<n)(hq:q<n)(c:bl f n (sub grp (grp p))=bl f n (above grp (grp q)))(d:bl f n (sub grp (grp q))=bl f n (above grp (grp p))):False:=by have a:=iD c hf hp;have b:=iD d hf hq;simp[sub,above]at a b;exact a.2 (by rw[<-b.1,Nat.and_comm,a.1])
theorem ER(hp:p<n):bl f n (above grp (grp p))≠bl f n (sub grp (grp p)):=fun h=>by have :=iD h hf hp;simp[sub,above]at this
noncomputable def lo(a b:List Int):List Int:=if llt b a=true then b else a
noncomputable def hi(a b:List Int):List Int:=if llt a b=true then b else a
omit hf in
theorem lohi{a b c d:List Int}(e:lo a b=lo c d)(f:hi a b=hi c d)(g:a≠b)(h:c≠d):(a=c/\b=d)\/(a=d/\b=c):=by
 have i:=kP (bA g);have j:=kP (bA h);unfold lo at e;unfold hi at f;rw[i,j]at e;cases x:llt a b<;>cases y:llt c d<;>rw[x,y]at e f<;>simp only[Bool.not_false,gB,if_true,aW,if_false]at e f
 ·exact .inl ⟨f,e⟩
 ·exact .inr ⟨f,e⟩
 ·exact .inr ⟨e,f⟩
 ·exact .inl ⟨e,f⟩
theorem yL(hp:p<n)(hq:q<n)(c:grp p≠grp q):
  lo (bl f n (above grp (grp p))) (bl f n (sub grp (grp p)))++hi (bl f n (above grp (grp p))) (bl f n (sub grp (grp p)))≠
  lo (bl f n (above grp (grp q))) (bl f n (sub grp (grp q)))++hi (bl f n (above grp (grp q))) (bl f n (sub grp (grp q))):=fun h=>by
 have len:∀P Q:Nat->Bool,(lo (bl f n P) (bl f n Q)).length=n:=fun P Q=>by unfold lo;split <;>exact iz _ _ _
 obtain⟨a,b⟩:=List.append_inj h ((len _ _).trans (len _ _).symm);rcases lohi a b (ER hf hp) (ER hf hq)with⟨_,z⟩ |⟨d,e⟩;·exact Cs hf hp hq c z
 ·exact LI hf hp hq e d.symm
end M4
namespace Q
open L2
theorem GQ(nd:ns.Nodup):∃qs:List Int,sortI ns=qs.map V.int/\qs.Perm ns:=by
 refine⟨(DJ ns).map fun i=>ns.getD i 0,?_,?_⟩;·unfold sortI;rw[bD];refine cO fun i hi=>?_;have a:i<ns.length:=aY.mp ((yf nd).mem_iff.mp hi);show(ns.map V.int).getD i .non=V.int (ns.getD i 0);rw[ae,ae,aA,aa a];rfl
 ·have h:=(yf nd).map fun i=>ns.getD i 0;rw[range_getD]at h;exact h
end Q
namespace M5
open M3 M4 Q L2
noncomputable def plc(n:Nat)(P:Nat->Bool):List Int:=((aG n).filter P).map fun p:Nat=>(p:Int)
theorem ri{P:Nat->Bool}(h:i<n):(i:Int)∈plc n P↔P i=true:=by
 unfold plc;rw[aF];constructor
 ·rintro⟨p,hp,e⟩;have :p=i:=by lia
  rw[<-this];exact(dO.mp hp).2
 ·intro e;exact⟨i,dO.mpr ⟨aY.mpr h,e⟩,rfl⟩
noncomputable def trn(zs:List Int)(a:List Int):List Int:=(aG zs.length).map fun i:Nat=>if(i:Int)∈a then 1-zs.getD i 0 else zs.getD i 0
theorem GG{zs:List Int}{P:Nat->Bool}:trn zs (plc zs.length P)=bl (fun p=>zs.getD p 0) zs.length P:=by
 unfold trn bl;refine cO fun i hi=>?_;have hi:=aY.mp hi;by_cases h:P i=true;·rw[if_pos ((ri hi).mpr h),if_pos h]
 ·rw[if_neg (fun z=>h ((ri hi).mp z)),if_neg h]
theorem Ga{f:Nat->Int}{P:Nat->Bool}(h:i<n):(bl f n P).getD i 0=if P i=true then 1-f i else f i:=by unfold bl;rw[ae,aA,b9 h];rfl
theorem trn_bl{f:Nat->Int}{S E:Nat->Bool}(h:∀p,E p=true->S p=true):trn (bl f n S) (plc n E)=bl f n fun p=>S p&& !E p:=by
 unfold trn;rw[iz];refine cO fun i hi=>?_;have hi:=aY.mp hi;rw[Ga hi];show _=if(S i&& !E i)=true then 1-f i else f i
 cases hE:E i with
 |true=>
  rw[if_pos ((ri hi).mpr hE),h i hE,if_pos rfl];show 1-(1-f i)=if(true&& !true)=true then _ else f i
  rw[if_neg (by simp)];lia
 |false=>rw[if_neg (fun z=>by rw[(ri hi).mp z]at hE;cases hE)];cases S i<;>rfl
theorem Ln(zs:List Int):bl (fun p=>zs.getD p 0) zs.length (fun _=>false)=zs:=by
 unfold bl;apply bS;·simp
 ·intro i b a;simp[a]
noncomputable def own(grp:Nat->Nat)(g p:Nat):Bool:=decide (grp p=g)
theorem own_sub{grp:Nat->Nat}{g:Nat}(h:own grp g p=true):sub grp g p=true:=by have :grp p=g:=of_decide_eq_true h;refine decide_eq_true ?_;rw[this];exact ID g
theorem LV(grp:Nat->Nat)(g:Nat):(fun p=>sub grp g p&& !own grp g p)=above grp g:=by
 funext p
 unfold sub own above;by_cases h1:grp p&&& g=g<;>by_cases h2:grp p=g<;>simp[h1,h2]
noncomputable def nB(f:Nat->Int)(n:Nat)(grp:Nat->Nat)(q:Int):List Int:=bl f n (sub grp q.toNat)
noncomputable def nA(f:Nat->Int)(n:Nat)(grp:Nat->Nat)(q:Int):List Int:=bl f n (above grp q.toNat)
noncomputable def fE(f:Nat->Int)(n:Nat)(grp:Nat->Nat)(qs:List Int):List (List Int):=bl f n (fun _=>false)::qs.map (nB f n grp)
noncomputable def brK(f:Nat->Int)(n:Nat)(grp:Nat->Nat)(qs:List Int):List (List Int×List Int):=qs.map fun q=>(lo (nA f n grp q) (nB f n grp q),hi (nA f n grp q) (nB f n grp q))
def Grs(n:Nat)(grp:Nat->Nat)(qs:List Int):Prop:=qs.Nodup/\∀q∈qs,∃p,p<n/\q=(grp p:Int)
section
variable {f:Nat->Int}{n:Nat}{grp:Nat->Nat}{qs:List Int}(hf:∀p,p<n->f p=0\/f p=1)(hq:Grs n grp qs)
include hf hq
theorem KH{j:Type}{F:Int->j}(h:∀p q,p<n->q<n->grp p≠grp q->F (grp p:Int)≠F (grp q:Int)):(qs.map F).Nodup:=by refine cZ.mpr ?_;have p:List.Pairwise (fun a b=>a≠b) qs:=hq.1;refine(mn.mp p).imp ?_;rintro a b ⟨c,d,f⟩;obtain⟨x,g,rfl⟩:=hq.2 a c;obtain⟨y,i,rfl⟩:=hq.2 b d;exact h x y g i (fun e=>f (by rw[e]))
theorem vN:(fE f n grp qs).Nodup:=by
 unfold fE;refine bP.mpr ⟨fun z=>?_,KH hf hq fun p q hp a b=>?_⟩;·obtain⟨q,a,e⟩:=aF.mp z;obtain⟨p,hp,rfl⟩:=hq.2 q a;exact Ct hf hp (by unfold nB at e;rw[aM]at e;exact e)
 ·unfold nB;rw[aM,aM];exact Cs hf hp a b
theorem Em:((brK f n grp qs).map kD).Nodup:=by unfold brK;rw[bD];refine KH hf hq fun p q hp b a=>?_;show lo (nA f n grp (grp p:Int)) (nB f n grp (grp p:Int))++hi (nA f n grp (grp p:Int)) (nB f n grp (grp p:Int))≠lo (nA f n grp (grp q:Int)) (nB f n grp (grp q:Int))++hi (nA f n grp (grp q:Int)) (nB f n grp (grp q:Int));unfold nA nB;rw[aM,aM];exact yL hf hp b a
end
theorem Hm{f:Nat->Int}{grp:Nat->Nat}:∀k∈fE f n grp qs,k.length=n:=fun k hk=>by
 rcases aH.mp hk with rfl|hk;·exact iz _ _ _
 ·obtain⟨q,_,rfl⟩:=aF.mp hk;exact iz _ _ _
theorem lo_len{a b:List Int}(c:a.length=n)(d:b.length=n):(lo a b).length=n:=by unfold lo;split <;>assumption
theorem hi_len{a b:List Int}(c:a.length=n)(d:b.length=n):(hi a b).length=n:=by unfold hi;split <;>assumption
theorem brK_len{f:Nat->Int}{grp:Nat->Nat}:∀k∈brK f n grp qs,k.1.length=n/\k.2.length=n:=fun k a=>by obtain⟨q,_,rfl⟩:=aF.mp a;exact⟨lo_len (iz _ _ _) (iz _ _ _),hi_len (iz _ _ _) (iz _ _ _)⟩
theorem z6{grp:Nat->Nat}(h:Grs n grp qs):qs.length<=n:=by
 have e:qs.length<=((aG n).map fun p:Nat=>(grp p:Int)).length:=by refine List.Nodup.length_le_of_subset h.1 fun q hq=>?_;obtain⟨p,hp,rfl⟩:=h.2 q hq;exact aF.mpr ⟨p,aY.mpr hp,rfl⟩
 simpa using e
end M5
namespace K32
open PySem R
noncomputable def DI:List Str:=["copies","place"]
noncomputable def vU:List Str:=["copies","place","first","group","name","readings"]
noncomputable def rS:CB:=
  (.cons (.ret (.var 3))
  .nil)
noncomputable def rT:CB:=
  (.cons (.forr (.tup (.cons (.name 4) (.cons (.name 5) .nil))) (.seq (.var 0))
  (.cons (.asg (.name 3) (.bin .Add (.bin .Mult (.var 3) (.con (.int 2))) (.bin .BitXor (.idx (.var 5) (.var 1)) (.var 2))))
  .nil))
  rS)
noncomputable def rU:CB:=
  (.cons (.asg (.name 3) (.con (.int 0)))
  rT)
noncomputable def wQ:CB:=
  (.cons (.asg (.name 2) (.idx (.idx (.idx (.var 0) (.con (.int 0))) (.con (.int 1))) (.var 1)))
  rU)
noncomputable def Kk:List Str:=["readings","places"]
noncomputable def BD:List Str:=["readings","places"]
noncomputable def Ci:CB:=
  (.cons (.ret (.bfn .tuple (.cons (.comp ["place","reading"] [1] (.tup (.cons (.name 0) (.cons (.name 1) .nil))) (.enumt (.var 0)) .no (.ite (.cmp .In (.var 0) (.var 2)) (.bin .Sub (.con (.int 1)) (.var 1)) (.var 1))) .nil)))
  .nil)
noncomputable def p_grown:List Str:=["copies"]
noncomputable def Fn:List Str:=["copies","first","groups","nodes","branches","group","places","around","below","above"]
noncomputable def yD:CB:=
  (.cons (.ret (.tup (.cons (.bfn .sortl (.cons (.var 3) .nil)) (.cons (.bfn .sortt (.cons (.var 4) .nil)) .nil))))
  .nil)
noncomputable def oq:CB:=
  (.cons (.expr (.meth1 .append (.var 4) (.tup (.cons (.bfn .minl (.cons (.var 9) (.cons (.var 8) .nil))) (.cons (.bfn .maxl (.cons (.var 9) (.cons (.var 8) .nil))) (.cons (.bfn .tuple (.cons (.var 6) .nil)) .nil))))))
  .nil)
noncomputable def ot:CB:=
  (.cons (.expr (.meth1 .append (.var 3) (.var 8)))
  oq)
noncomputable def t8:CB:=
  (.cons (.asg (.name 9) (.call "turned" (.cons (.var 8) (.cons (.var 6) .nil))))
  ot)
noncomputable def ou:CB:=
  (.cons (.asg (.name 8) (.call "turned" (.cons (.var 1) (.cons (.var 7) .nil))))
  t8)
noncomputable def t9:CB:=
  (.cons (.asgc 7 (.comp ["place"] [5,2] (.name 0) (.range1 (.bfn .len (.cons (.var 1) .nil))) (.yes (.cmp .Eq (.bin .BitAnd (.idx (.var 2) (.var 0)) (.var 1)) (.var 1))) (.var 0)))
  ou)
noncomputable def oy:CB:=
  (.cons (.asgc 6 (.comp ["place"] [5,2] (.name 0) (.range1 (.bfn .len (.cons (.var 1) .nil))) (.yes (.cmp .Eq (.idx (.var 2) (.var 0)) (.var 1))) (.var 0)))
  t9)
noncomputable def yE:CB:=
  (.cons (.forr (.name 5) (.lseq (.sortset (.var 2)))
  (.cons (.iff (.cmp .Eq (.var 5) (.con (.int 0)))
  (.cons (.cont)
  .nil)
  .nil)
  oy))
  yD)
noncomputable def yF:CB:=
  (.cons (.asg (.name 4) (.lst .nil))
  yE)
noncomputable def yG:CB:=
  (.cons (.asg (.name 3) (.lst (.cons (.var 1) .nil)))
  yF)
noncomputable def yH:CB:=
  (.cons (.asgc 2 (.comp ["place"] [0] (.name 0) (.range1 (.bfn .len (.cons (.var 1) .nil))) .no (.call "group_at" (.cons (.var 1) (.cons (.var 0) .nil)))))
  yG)
noncomputable def F7:CB:=
  (.cons (.asg (.name 1) (.idx (.idx (.var 0) (.con (.int 0))) (.con (.int 1))))
  yH)
end K32
namespace K32
open PySem PySem.Spec PyProof.Rows L2 R Cp Lt Kc K21 K22 Lm M3 M4 M5
theorem eW(h:n<=63):n<=sizeLine:=aP h (by decide)
theorem uw(h:n<=63):n<sizeLine:=uH h (by decide)
theorem xor_ii{i j:Int}{Q:VK}:qM K .BitXor (.int i) (.int j) H Q↔Q (.int (kM i j)) H:=by show rI0 _ _ _ _ _↔_;simp[rI0]
theorem and_ii{i j:Int}{Q:VK}:qM K .BitAnd (.int i) (.int j) H Q↔Q (.int (i6 i j)) H:=by show rI0 _ _ _ _ _↔_;simp[rI0]
theorem in_ints(a:Int)(l:List Int):inV (V.int a) (l.map V.int)=decide (a∈l):=by
 unfold inV;rw[Gs,cz,cB,decide_eq_true_eq];constructor;·rintro⟨x,b,e⟩;have :x=a:=beq_iff_eq.mp e;rw[<-this];exact b
 ·intro h;exact⟨a,h,beq_self_eq_true a⟩
theorem HH(b:List Int):(b.map V.int).all pI=true:=by rw[bI];intro v a;obtain⟨m,_,rfl⟩:=aF.mp a;rfl
theorem GX:sZ (Itet K a) xs.length (fun i x H=>∃p v,x=.ref p/\H p=some (.tup [.int i,v])/\xs[i]? =some v) (fun H=>SqT K H a xs) where
 go:=fun i H h hi=>⟨xs,xs[i],h,by simp[hi]⟩
 stop:=fun i H h hi=>⟨xs,h,hi⟩
 yld:=fun i H x c h hi y=>by obtain⟨p,v,hp,e,b,y⟩:=y;subst e b;exact⟨⟨p,v,rfl,au,y xs h⟩,av hp⟩
theorem iV{zs:List Int}(h:i<zs.length):(zs.map V.int)[i]? =some (.int (zs.getD i 0)):=by rw[aA,aa h,ae,aa h];rfl
structure Cps(H:Hp)(c:Addr)(ys:List V)(n:Nat)(rows:List (List Int)):Prop where
 ec:H c=some (.lst ys)
 len:ys.length<=40
 rl:rows.length=ys.length
 n60:n<=60
 at_:∀(i:Nat) y,ys[i]? =some y->∃b z r,y=.ref b/\H b=some (.tup [.str z,.ref r])/\H r=some (.tup ((rows.getD i []).map V.int))
 rd:∀zs∈rows,zs.length=n/\∀x∈zs,x=0\/x=1
theorem Cps.same(d:Cps H c ys n rows)(s:aQ H H'):Cps H' c ys n rows:=
 {d with ec:=s _ _ d.ec,at_:=fun i y e=>let⟨b,z,r,h1,h2,h3⟩:=d.at_ i y e;⟨b,z,r,h1,s _ _ h2,s _ _ h3⟩}
theorem Cps.row(d:Cps H c ys n rows)(hi:i<ys.length):(rows.getD i []).length=n/\∀p,p<n->(rows.getD i []).getD p 0=0\/(rows.getD i []).getD p 0=1:=by
 have a:i<rows.length:=by rw[d.rl];exact hi
 have e:rows.getD i []=rows[i]:=by rw[ae,aa a];rfl
 obtain⟨b,f⟩:=d.rd rows[i] (bo a);rw[e];refine⟨b,fun p hp=>f _ ?_⟩;rw[ae,aa (by lia)];exact bo _
noncomputable def fr(rows:List (List Int))(p:Nat):Int:=(rows.getD 0 []).getD p 0
noncomputable def bt(rows:List (List Int))(p:Nat)(r:List Int):Bool:= !decide (r.getD p 0=fr rows p)
noncomputable def grp(rows:List (List Int))(p:Nat):Nat:=M3.num (rows.map (bt rows p)) 0
def zc:Sp:=fun vs H Q _=>∃(c:Addr)(p:Nat)(ys:List V)(n:Nat)(rows:List (List Int)),vs=[.ref c,.int p]/\Cps H c ys n rows/\ys≠[]/\p<n/\∀H',aQ H H'->Q (.int (grp rows p)) H'
theorem IP:Sat G K zc wQ vU:=by
 rintro Z H Q E ⟨c,p,e,n,a,rfl,d,O,hp,q⟩;unfold wQ;change wpB G K _ _ _ [some (.ref c),some (.int p),none,none,none,none] H;walk_at "wp";have g:0<e.length:=iE.mpr O;obtain⟨b,z,r,x,A,B⟩:=d.at_ 0 e[0] (aa g);obtain⟨X,S⟩:=d.row g;have L:e[0]? =some (.ref b):=by rw[aa g,x]
 refine .inl ⟨c,e,0,_,rfl,rfl,SqL.of d.ec,cn (j:=0) L,?_⟩;refine .inr (.inl ⟨b,_,1,_,rfl,rfl,SqT.of A,rfl,?_⟩);refine .inr (.inl ⟨r,_,p,_,rfl,rfl,SqT.of B,cn (iV (by lia)),?_⟩);unfold rU;walk_at "wp";unfold rT;walk_at "wp";refine fJ (cT rfl (SqL.of d.ec) (eZ dZ (fun k f m=>aQ H m/\∃u v,f=[some (.ref c),some (.int p),some (.int (fr a p)),some (.int (M3.num ((a.take k).map (bt a p)) 0:Nat)),u,v])
  ⟨aQ.refl _,none,none,rfl⟩ (fun k f m _ s=>s.1.seq (SqL.of d.ec)) ?_ ?_))
 ·rintro k y f o W V t ⟨i,u,v,rfl⟩ P T M _;obtain⟨w,z',R,rfl,I,J⟩:=d.at_ k y P;have l:=i.trans T;obtain⟨Y,U⟩:=d.row t;have N:k<a.length:=by rw[d.rl];exact t
  refine⟨w,_,rfl,SqT.of (l _ _ I),rfl,_,_,rfl,_,_,rfl,rfl,?_⟩;walk_at "wp";refine⟨wC (by decide) (by decide),.inr (.inl ⟨R,_,p,_,rfl,rfl,SqT.of (l _ _ J),cn (iV (by lia)),?_⟩)⟩;refine xor_ii.mpr (wU.mpr ?_);rw[show kM ((a.getD k []).getD p 0) (fr a p)=if(a.getD k []).getD p 0=(a.getD 0 []).getD p 0 then 0 else 1 from xor_bit (U p hp) (S p hp)];have F:a.take (k+1)=a.take k++[a.getD k []]:=by rw[dM,ae,aa N];rfl
  have D:(if(a.getD k []).getD p 0=(a.getD 0 []).getD p 0 then(0:Int)else 1)=((bt a p (a.getD k [])).toNat:Int):=by
   unfold bt fr;by_cases h:(a.getD k []).getD p 0=(a.getD 0 []).getD p 0;·rw[if_pos h,decide_eq_true h];rfl
   ·rw[if_neg h,decide_eq_false h];rfl
  have C:((M3.num ((a.take k).map (bt a p)) 0:Nat):Int)*2+((bt a p (a.getD k [])).toNat:Int)=((M3.num ((a.take (k+1)).map (bt a p)) 0:Nat):Int):=by rw[F,dQ,bR,o8,vL];push_cast;rfl
  rw[D,C];exact M _ _ ⟨l,_,_,rfl⟩
 ·rintro f o ⟨i,u,v,rfl⟩;unfold rS;walk_at "wp";rw[<-d.rl,hZ];exact q o i
def m8(K:ah):Sp:=fun vs H Q _=>∃(r b:Addr)(zs a:List Int),vs=[.ref r,.ref b]/\SqT K H r (zs.map V.int)/\SqL K H b (a.map V.int)/\zs.length<=60/\
 ∀(H':Hp)(p:Addr),aQ H H'->H p=none->H' p=some (.tup ((trn zs a).map V.int))->Q (.ref p) H'
theorem Gy:Sat G K (m8 K) Ci BD:=by
 rintro d H Q E ⟨r,b,f,a,rfl,j,w,A,q⟩;unfold Ci;change wpB G K _ _ _ [some (.ref r),some (.ref b)] H;walk_at "wp";refine dH ⟨_,rfl,r,rfl,⟨_,j⟩,?_⟩;refine eJ GX (eW (by rw[ai];lia)) (fun s c=>c.tup j) (fun i v _=>v=.int (if(i:Int)∈a then 1-f.getD i 0 else f.getD i 0)) (fun _ _ _ _ _ h=>h) (fun o=>∃u v,o=[u,v,some (.ref b)]) ⟨none,none,rfl⟩ ?_ ?_
 ·rintro i x o s R hi ⟨u,v,rfl⟩ c ⟨p,v,rfl,hp,m⟩ k;rw[ai]at hi;rw[iV hi]at m;cases m;refine⟨p,_,rfl,SqT.of hp,rfl,_,_,rfl,_,_,rfl,rfl,?_⟩;walk_at "wp";refine .inr ⟨b,_,rfl,.inl (c.seq w),rfl,HH a,_,rfl,?_⟩;show if inV (V.int (i:Int)) (a.map V.int)=true then _ else _
  rw[in_ints];by_cases h:(i:Int)∈a;·rw[decide_eq_true h,if_pos rfl];exact k _ _ _ ⟨_,_,rfl⟩ (aQ.refl _) (by rw[if_pos h])
  ·rw[decide_eq_false h,if_neg ao];exact k _ _ _ ⟨_,_,rfl⟩ (aQ.refl _) (by rw[if_neg h])
 ·intro d z l y t n g;rw[ai]at y;have e:d=(trn f a).map V.int:=by
   unfold trn;apply jo;intro i;rw[aA,aA];by_cases hi:i<d.length;·rw[aa hi,b9 (by lia),t i _ (aa hi)];rfl
   ·rw[bY (by lia),bY (by rw[ba];lia)];rfl
  rw[e];exact⟨l,_,rfl,.inl ⟨SqL.of au,fun p hp=>q _ p (n.trans ((av g).trans (av hp))) ((n.trans (av g)).free hp) au⟩⟩
end K32
namespace M6
def Ok(n:Nat)(v:List Int):Prop:=v.length=n/\∀x∈v,x=0\/x=1
theorem Ok.at{v:List Int}(h:Ok n v)(i:Nat):v.getD i 0=0\/v.getD i 0=1:=by
 rw[ae];cases e:v[i]? with
 |none=>exact .inl rfl
 |some x=>exact h.2 x (aI e)
def Mis(vs:List (List Int))(i j:Nat):Prop:=∃a b:Int,(a=0\/a=1)/\(b=0\/b=1)/\∀v∈vs,¬(v.getD i 0=a/\v.getD j 0=b)
theorem Mis.sub{vs c:List (List Int)}(h:Mis vs i j)(s:∀w∈c,w∈vs):Mis c i j:=let⟨a,b,ha,hb,k⟩:=h;⟨a,b,ha,hb,fun w d=>k w (s w d)⟩
theorem Mis.flip{vs:List (List Int)}(h:Mis vs i j):Mis vs j i:=let⟨a,b,ha,hb,k⟩:=h;⟨b,a,hb,ha,fun w c ⟨x,y⟩=>k w c ⟨y,x⟩⟩
end M6
namespace M7
open K32
def Fits(rows:List (List Int))(n:Nat)(v:List Int):Prop:=M6.Ok n v/\∀i j,i<n->j<n->∃r∈rows,r.getD i 0=v.getD i 0/\r.getD j 0=v.getD j 0
theorem Fits.sub{a:List (List Int)}{v:List Int}(h:Fits rows n v)(s:∀r∈rows,r∈a):Fits a n v:=⟨h.1,fun i j hi b=>let⟨r,hr,e⟩:=h.2 i j hi b;⟨r,s r hr,e⟩⟩
section
variable {rows:List (List Int)}{n:Nat}
theorem lr:bt rows p r=true↔r.getD p 0≠fr rows p:=by unfold bt;simp
theorem oB(p i:Nat):(grp rows p).testBit i=((rows.reverse[i]?).map (bt rows p)).getD false:=by unfold grp;have :=M3.Ff (rows.map (bt rows p)).reverse i;rw[List.reverse_reverse]at this;rw[this,<-List.map_reverse,aA]
theorem gsub:grp rows p&&& grp rows q=grp rows q↔∀r∈rows,bt rows q r=true->bt rows p r=true:=by
 rw[M3.and_sub];constructor;·intro h r a hq;obtain⟨i,hi⟩:=bX.mp (jJ.mpr a);have :=h i;rw[oB,oB,hi]at this;exact this hq
 ·intro h i;rw[oB,oB];cases e:rows.reverse[i]? with
  |none=>exact id
  |some r=>exact h r (jJ.mp (aI e))
theorem geq:grp rows p=grp rows q↔∀r∈rows,bt rows p r=bt rows q r:=by
 constructor;·intro h r c;have a:=gsub.mp (show grp rows p&&& grp rows q=grp rows q by rw[h,ID]) r c;have b:=gsub.mp (show grp rows q&&& grp rows p=grp rows p by rw[h,ID]) r c;exact cz.mpr ⟨b,a⟩
 ·intro h;apply se
  intro i;rw[oB,oB];cases e:rows.reverse[i]? with
  |none=>rfl
  |some r=>exact h r (jJ.mp (aI e))
theorem gnz:grp rows p≠0↔∃r∈rows,bt rows p r=true:=by
 constructor
 ·intro h;apply aN
  intro a;apply h;apply se;intro i;rw[oB,Nat.zero_testBit];cases e:rows.reverse[i]? with
  |none=>rfl
  |some r=>
   cases b:bt rows p r with
   |false=>exact b
   |true=>exact absurd ⟨r,jJ.mp (aI e),b⟩ a
 ·rintro⟨r,c,h⟩ z;obtain⟨i,hi⟩:=bX.mp (jJ.mpr c);have :=oB (rows:=rows) p i;rw[hi,z,Nat.zero_testBit]at this;rw[show((some r).map (bt rows p)).getD false=bt rows p r from rfl,h]at this;cases this
end
theorem Ca{b:Type}{p q:b->Bool}:∀{l:List b},(∀r∈l,q r=true->p r=true)->∀{x:b},x∈l->p x=true->q x=false->l.countP q<l.countP p
 |a::l,h,x,hx,hp,hq=>by
  rw[List.countP_cons,List.countP_cons];have d:=h a aL;have c:∀r∈l,q r=true->p r=true:=fun r f=>h r (aJ _ f);rcases aH.mp hx with rfl|hx;·have :=List.countP_mono_left c;rw[hp,hq,if_pos rfl,if_neg (by decide)];lia
  ·have :=Ca c hx hp hq;cases e:q a with
   |true=>rw[d e];lia
   |false=>rw[if_neg (by decide)];lia
structure Tbl(rows:List (List Int))(n:Nat):Prop where
 ok:∀r∈rows,M6.Ok n r
 ne:rows≠[]
 mis:∀i j,i<j->j<n->M6.Mis rows i j
section
variable {rows:List (List Int)}{n:Nat}
theorem Tbl.first(t:Tbl rows n):rows.getD 0 []∈rows:=by
 cases rows with
 |nil=>exact absurd rfl t.ne
 |cons a r=>exact aL
theorem Tbl.f01(t:Tbl rows n)(p:Nat):fr rows p=0\/fr rows p=1:=(t.ok _ t.first).at p
theorem Tbl.mis'(t:Tbl rows n)(h:i≠j)(hi:i<n)(a:j<n):M6.Mis rows i j:=by
 rcases Nat.lt_or_gt_of_ne h with h|h;·exact t.mis i j h a
 ·exact(t.mis j i h hi).flip
theorem neq{x f:Int}(a:x=0\/x=1)(hf:f=0\/f=1):x≠f↔x=1-f:=by rcases a with rfl|rfl<;>rcases hf with rfl|rfl<;>decide
theorem Tbl.turn(t:Tbl rows n)(a:r∈rows):bt rows p r=true↔r.getD p 0=1-fr rows p:=by rw[lr];exact neq ((t.ok r a).at p) (t.f01 p)
theorem Tbl.lE(t:Tbl rows n):bt rows p r=false↔r.getD p 0=fr rows p:=by unfold bt;simp
theorem two{x y z:Int}(a:x=0\/x=1)(b:y=0\/y=1)(hz:z=0\/z=1)(h:x≠y):x=z\/y=z:=by rcases a with rfl|rfl<;>rcases b with rfl|rfl<;>rcases hz with rfl|rfl<;>first |exact absurd rfl h|decide
theorem two1{x z:Int}(a:x=0\/x=1)(hz:z=0\/z=1):x=z\/1-x=z:=by rcases a with rfl|rfl<;>rcases hz with rfl|rfl<;>decide
theorem eqb{x y f:Int}(a:x=0\/x=1)(b:y=0\/y=1)(hf:f=0\/f=1):x=y↔(x≠f↔y≠f):=by rcases a with rfl|rfl<;>rcases b with rfl|rfl<;>rcases hf with rfl|rfl<;>decide
theorem Tbl.nest(t:Tbl rows n)(hp:p<n)(hq:q<n)(f:r∈rows)(o:bt rows p r=true)(s:bt rows q r=true):(∀r∈rows,bt rows p r=true->bt rows q r=true)\/∀r∈rows,bt rows q r=true->bt rows p r=true:=by
 by_cases hpq:p=q;·exact .inl fun r _ h=>hpq▸h
 apply aN
 intro h;rw[not_or]at h;obtain⟨g,d⟩:=gA.mp h.1;obtain⟨i,e⟩:=gA.mp h.2;have d:g∈rows/\bt rows p g=true/\¬bt rows q g=true:=by apply aN;intro z;apply d;intro a b;apply aN;intro c;exact z ⟨a,b,c⟩
 have e:i∈rows/\bt rows q i=true/\¬bt rows p i=true:=by apply aN;intro z;apply e;intro a b;apply aN;intro c;exact z ⟨a,b,c⟩
 obtain⟨a,b,A,B,k⟩:=t.mis' hpq hp hq;have v:=t.f01 p;have w:=t.f01 q;have u:=k _ t.first;have m:=k _ f;have j:=k _ d.1;have l:=k _ e.1;rw[(t.turn f).mp o,(t.turn f).mp s]at m;rw[(t.turn d.1).mp d.2.1,t.lE.mp (gJ.mpr d.2.2)]at j;rw[(t.turn e.1).mp e.2.1,t.lE.mp (gJ.mpr e.2.2)]at l;rcases two1 v A with x|x<;>rcases two1 w B with y|y;·exact u ⟨x,y⟩
 ·exact l ⟨x,y⟩
 ·exact j ⟨x,y⟩
 ·exact m ⟨x,y⟩
theorem iD{f:Nat->Int}{P:Nat->Bool}(h:i<n):(M4.bl f n P).getD i 0=if P i=true then 1-f i else f i:=M5.Ga h
theorem FQ{u v:List Int}(c:u.length=n)(d:v.length=n)(h:∀i,i<n->u.getD i 0=v.getD i 0):u=v:=by
 apply bS (c.trans d.symm)
 intro i a b;have :=h i (by lia)
 rwa [ae,ae,aa a,aa b]at this
theorem F9(t:Tbl rows n)(P:Nat->Bool):M6.Ok n (M4.bl (fr rows) n P):=⟨M4.iz _ _ _,fun x a=>by obtain⟨i,_,rfl⟩:=aF.mp a;have :=t.f01 i;split <;>lia⟩
noncomputable def below(rows:List (List Int))(n p:Nat):List Int:=M4.bl (fr rows) n (M4.sub (grp rows) (grp rows p))
theorem iQ:M4.sub (grp rows) (grp rows p) q=true↔∀r∈rows,bt rows p r=true->bt rows q r=true:=by unfold M4.sub;rw[decide_eq_true_eq];exact gsub
theorem Ea(t:Tbl rows n)(hz:grp rows p≠0):Fits rows n (below rows n p):=by
 refine⟨F9 t _,fun i j hi g=>?_⟩;unfold below;rw[iD hi,iD g];have pick:∀{i j:Nat},M4.sub (grp rows) (grp rows p) i=true->M4.sub (grp rows) (grp rows p) j=false->∃r∈rows,r.getD i 0=1-fr rows i/\r.getD j 0=fr rows j:=fun{i j} a b=>by
  have b:¬∀r∈rows,bt rows p r=true->bt rows j r=true:=fun z=>by rw[iQ.mpr z]at b;cases b
  obtain⟨r,h⟩:=gA.mp b;have h:r∈rows/\bt rows p r=true/\¬bt rows j r=true:=by apply aN;intro z;apply h;intro a b;apply aN;intro c;exact z ⟨a,b,c⟩
  exact⟨r,h.1,(t.turn h.1).mp (iQ.mp a r h.1 h.2.1),t.lE.mp (gJ.mpr h.2.2)⟩
 cases a:M4.sub (grp rows) (grp rows p) i with
 |true=>
  cases b:M4.sub (grp rows) (grp rows p) j with
  |true=>obtain⟨r,d,h⟩:=gnz.mp hz;exact⟨r,d,(t.turn d).mp (iQ.mp a r d h),(t.turn d).mp (iQ.mp b r d h)⟩
  |false=>exact pick a b
 |false=>
  cases b:M4.sub (grp rows) (grp rows p) j with
  |true=>obtain⟨r,d,e,f⟩:=pick b a;exact⟨r,d,f,e⟩
  |false=>exact⟨_,t.first,rfl,rfl⟩
theorem wq(t:Tbl rows n):Fits rows n (M4.bl (fr rows) n fun _=>false):=by refine⟨F9 t _,fun i j hi a=>⟨_,t.first,?_⟩⟩;rw[iD hi,iD a];exact⟨rfl,rfl⟩
theorem Fc(t:Tbl rows n){v:List Int}(h:Fits rows n v):v=M4.bl (fr rows) n (fun _=>false)\/∃p,p<n/\grp rows p≠0/\v=below rows n p:=by
 by_cases hS:∀p,p<n->v.getD p 0=fr rows p
 ·left
  exact FQ h.1.1 (M4.iz _ _ _) fun i hi=>by rw[iD hi];exact hS i hi
 ·right
  have s:∃m p,p<n/\v.getD p 0≠fr rows p/\rows.countP (bt rows p)=m:=by obtain⟨p,hp⟩:=gA.mp hS;obtain⟨hp,c⟩:=sf.mp hp;exact⟨_,p,hp,c,rfl⟩
  obtain⟨m,⟨p,hp,c,l⟩,x⟩:∃m,(∃p,p<n/\v.getD p 0≠fr rows p/\rows.countP (bt rows p)=m)/\∀k,k<m->¬∃p,p<n/\v.getD p 0≠fr rows p/\rows.countP (bt rows p)=k:=by
   obtain⟨m,l⟩:=s
   induction m using kK with
   |_ m ih=>
    by_cases d:∃k,k<m/\∃p,p<n/\v.getD p 0≠fr rows p/\rows.countP (bt rows p)=k;·obtain⟨k,d,h⟩:=d;exact ih k d h
    ·exact⟨m,l,fun k w u=>d ⟨k,w,u⟩⟩
  have B:=fun i=>h.1.at i;have f:∀{r:List Int}{i:Nat},r∈rows->r.getD i 0=v.getD i 0->v.getD i 0≠fr rows i->bt rows i r=true:=fun a e y=>lr.mpr (by rw[e];exact y);refine⟨p,hp,gnz.mpr ?_,?_⟩;·obtain⟨r,a,e,_⟩:=h.2 p p hp hp;exact⟨r,a,f a e c⟩
  ·refine FQ h.1.1 (M4.iz _ _ _) fun q hq=>?_;unfold below;rw[iD hq];by_cases hqv:v.getD q 0=fr rows q;·rw[if_neg,hqv];rw[iQ];intro hs;obtain⟨r,a,g,j⟩:=h.2 p q hp hq;exact lr.mp (hs r a (f a g c)) (j.trans hqv)
   ·rw[if_pos,(neq (B q) (t.f01 q)).mp hqv];rw[iQ];obtain⟨r,a,g,j⟩:=h.2 p q hp hq;rcases t.nest hp hq a (f a g c) (f a j hqv)with hs|hs;·exact hs
    ·intro A z o;cases b:bt rows q A with
     |true=>rfl
     |false=>
      exfalso
      refine x _ ?_ ⟨q,hq,hqv,rfl⟩;rw[<-l];exact Ca hs z o b
def Cls(rows:List (List Int))(p q:Nat):Prop:=∀r∈rows,∀s∈rows,r.getD p 0=s.getD p 0↔r.getD q 0=s.getD q 0
theorem Tbl.cls(t:Tbl rows n):grp rows p=grp rows q↔Cls rows p q:=by
 rw[geq];constructor;·intro h r c s d;have a:=h r c;have b:=h s d;rw[cz,lr,lr]at a b;rw[eqb ((t.ok r c).at p) ((t.ok s d).at p) (t.f01 p),eqb ((t.ok r c).at q) ((t.ok s d).at q) (t.f01 q),a,b]
 ·intro h r c;rw[cz,lr,lr];exact not_congr (h r c _ t.first)
structure End(rows:List (List Int))(n p:Nat)(v:List Int):Prop where
 ok:M6.Ok n v
 own:∀q,q<n->Cls rows p q->∃r∈rows,r.getD p 0=v.getD p 0/\r.getD q 0=v.getD q 0
 off:∀q,q<n->¬Cls rows p q->∃r∈rows,∃s∈rows,r.getD p 0≠s.getD p 0/\r.getD q 0=v.getD q 0/\s.getD q 0=v.getD q 0
theorem End.one(t:Tbl rows n)(hp:p<n){v w:List Int}(a:End rows n p v)(b:End rows n p w)(e:v.getD p 0=w.getD p 0):v=w:=by
 refine FQ a.ok.1 b.ok.1 fun q hq=>?_;by_cases c:Cls rows p q;·obtain⟨r,d,g,i⟩:=a.own q hq c;obtain⟨s,f,j,O⟩:=b.own q hq c;rw[<-i,<-O];exact(c r d s f).mp (by rw[g,j,e])
 ·apply aN
  intro R;have S:p≠q:=fun z=>c (by rw[z];exact fun _ _ _ _=>Iff.rfl);obtain⟨r,d,s,f,g,i,j⟩:=a.off q hq c;obtain⟨D,l,E,m,L,M,N⟩:=b.off q hq c;obtain⟨x,y,o,T,k⟩:=t.mis' S hp hq;have u:=k r d;have A:=k s f;have B:=k D l;have C:=k E m;have F:=(t.ok r d).at p;have G:=(t.ok s f).at p;have H:=(t.ok D l).at p;have I:=(t.ok E m).at p;have J:=a.ok.at q;have K:=b.ok.at q;rw[i]at u;rw[j]at A;rw[M]at B;rw[N]at C;have P:=two F G o g;have Q:=two H I o L;have h3:=two J K T R;rcases h3 with h3|h3
  ·rcases P with h|h;·exact u ⟨h,h3⟩
   ·exact A ⟨h,h3⟩
  ·rcases Q with h|h;·exact B ⟨h,h3⟩
   ·exact C ⟨h,h3⟩
noncomputable def js(rows:List (List Int))(n p:Nat):List Int:=M4.bl (fr rows) n (M4.above (grp rows) (grp rows p))
theorem sY:M4.above (grp rows) (grp rows p) q=true↔M4.sub (grp rows) (grp rows p) q=true/\grp rows q≠grp rows p:=by unfold M4.above M4.sub;rw[decide_eq_true_eq,decide_eq_true_eq]
theorem sub_self:M4.sub (grp rows) (grp rows p) p=true:=iQ.mpr fun _ _ h=>h
theorem Aq(hp:p<n):(below rows n p).getD p 0=1-fr rows p:=by unfold below;rw[iD hp,if_pos sub_self]
theorem Et(hp:p<n):(js rows n p).getD p 0=fr rows p:=by unfold js;rw[iD hp,if_neg fun h=>(sY.mp h).2 rfl]
theorem B7(t:Tbl rows n)(hz:grp rows p≠0)(c:¬Cls rows p q):∃r∈rows,∃s∈rows,r.getD p 0≠s.getD p 0/\(r.getD q 0=if M4.sub (grp rows) (grp rows p) q=true then 1-fr rows q else fr rows q)/\s.getD q 0=if M4.sub (grp rows) (grp rows p) q=true then 1-fr rows q else fr rows q:=by
 have i:∀{a b:Nat},(¬∀r∈rows,bt rows a r=true->bt rows b r=true)->∃r∈rows,bt rows a r=true/\bt rows b r=false:=fun{a b} h=>by obtain⟨r,h⟩:=gA.mp h;obtain⟨e,h⟩:=sf.mp h;obtain⟨f,h⟩:=sf.mp h;exact⟨r,e,f,gJ.mpr h⟩
 have f01:=t.f01 p;cases a:M4.sub (grp rows) (grp rows p) q with
 |true=>obtain⟨r,d,h⟩:=gnz.mp hz;have g:¬∀r∈rows,bt rows q r=true->bt rows p r=true:=fun z=>c (t.cls.mp (geq.mpr fun r d=>cz.mpr ⟨iQ.mp a r d,z r d⟩));obtain⟨s,g,e,f⟩:=i g;rw[if_pos rfl];exact⟨r,d,s,g,by rw[(t.turn d).mp h,t.lE.mp f];lia,(t.turn d).mp (iQ.mp a r d h),(t.turn g).mp e⟩
 |false=>
  obtain⟨r,d,e,f⟩:=i fun z=>by rw[iQ.mpr z]at a;cases a
  rw[if_neg (by decide)];exact⟨r,d,_,t.first,by rw[(t.turn d).mp e];show _≠fr rows p;lia,t.lE.mp f,rfl⟩
theorem sU(t:Tbl rows n)(hp:p<n)(hz:grp rows p≠0):End rows n p (below rows n p):=by
 refine⟨F9 t _,fun q hq c=>?_,fun q hq c=>?_⟩
 ·obtain⟨r,a,h⟩:=gnz.mp hz;have e:=geq.mp (t.cls.mpr c);refine⟨r,a,?_,?_⟩;·rw[Aq hp];exact(t.turn a).mp h
  ·unfold below;rw[iD hq,if_pos (iQ.mpr fun s d b=>by rw[<-e s d];exact b)];exact(t.turn a).mp (by rw[<-e r a];exact h)
 ·have :=B7 t hz c;unfold below;rw[iD hq];exact this
theorem B8(t:Tbl rows n)(hp:p<n)(hz:grp rows p≠0):End rows n p (js rows n p):=by
 refine⟨F9 t _,fun q hq c=>⟨_,t.first,?_,?_⟩,fun q hq c=>?_⟩;·rw[Et hp];rfl
 ·unfold js;rw[iD hq,if_neg fun h=>(sY.mp h).2 (t.cls.mpr c).symm];rfl
 ·have :=B7 t hz c;unfold js;rw[iD hq];have e:(M4.above (grp rows) (grp rows p) q=true)↔(M4.sub (grp rows) (grp rows p) q=true):=by rw[sY];exact⟨fun h=>h.1,fun h=>⟨h,fun z=>c (t.cls.mp z.symm)⟩⟩
  simp only[e];exact this
theorem Ad(t:Tbl rows n)(hp:p<n):js rows n p≠below rows n p:=fun h=>by have a:=Et (rows:=rows) hp;have b:=Aq (rows:=rows) hp;have :=t.f01 p;rw[h,b]at a;lia
theorem Fv{a b:List Int}(h:a≠b):M4.lo a b=M4.lo b a:=by unfold M4.lo;rw[Q.kP h];cases Q.llt b a<;>rfl
theorem FG{a b:List Int}(h:a≠b):M4.hi a b=M4.hi b a:=by unfold M4.hi;rw[Q.kP h];cases Q.llt b a<;>rfl
theorem Ls(t:Tbl rows n)(hp:p<n)(hz:grp rows p≠0){u v:List Int}(c:End rows n p u)(d:End rows n p v)(k:u≠v):M4.lo (js rows n p) (below rows n p)=M4.lo u v/\M4.hi (js rows n p) (below rows n p)=M4.hi u v:=by
 have a:=B8 t hp hz;have b:=sU t hp hz;have g:=Et (rows:=rows) hp;have h:=Aq (rows:=rows) hp;have f:=t.f01 p;have u1:=c.ok.at p;have j:=d.ok.at p;have i:u.getD p 0≠v.getD p 0:=fun z=>k (c.one t hp d z);by_cases e:u.getD p 0=fr rows p;·have x:=c.one t hp a (by rw[g];exact e);have y:=d.one t hp b (by rw[h];exact(neq j f).mp fun z=>i (e.trans z.symm));rw[x,y];exact⟨rfl,rfl⟩
 ·have x:=c.one t hp b (by rw[h];exact(neq u1 f).mp e);have y:=d.one t hp a (by rw[g];exact(two u1 j f i).resolve_left e);rw[x,y];exact⟨Fv (Ad t hp),FG (Ad t hp)⟩
end
end M7
namespace K32
open PySem PySem.Spec PyProof.Rows L2 R Cp Lt Kc K21 K22 Lm M3 M4 M5
theorem BZ{J:It}{l:Nat->V->Hp->Prop}{k:Hp->Prop}{g:TG}{tb:TS}{D:Ends}(S:sZ J n l k)(e:Nat->L2.St->Hp->Prop)(h0:e 0 σ H)(o:∀i σ H,i<=n->e i σ H->k H)
  (p:∀i x σ H H' (j:Ends),i<n->e i σ H->l i x H'->aQ H H'->(∀f H2,e (i+1) f H2->j.nx f H2)->(∀f H2,e (i+1) f H2->j.ct f H2)->g x σ H' fun f H2=>tb j f H2)(m:∀σ H,e n σ H->D.nx σ H):ForB J g tb D σ H:=
 FL S e h0 o (fun i x σ H H' a b c d=>p i x σ H H' _ a b c d (fun _ _ h=>h) (fun _ _ h=>h)) m
theorem A7:sZ (Itr 0 n) (nats n).length (fun i x _=>(nats n)[i]? =some x) (fun _=>True) where
 go:=fun i H h hi=>cR.go i H h (by simpa[nats]using hi)
 stop:=fun i H h hi=>cR.stop i H h (by simpa[nats]using hi)
 yld:=fun i H x b h hi y=>by
  have a:i<n:=by simpa[nats]using hi
  obtain⟨e,s⟩:=cR.yld i H x b h a y;refine⟨?_,s⟩;subst e;unfold nats;rw[aA,b9 a,eE];rfl
theorem Hn{t:V->Bool}{P:Nat->Bool}(h:∀p,p<n->t (.int p)=P p):((nats n).filter t).map id=(plc n P).map V.int:=by unfold nats plc;rw[dP,pB,bD];rw[show(aG n).filter (t∘fun i:Nat=>V.int (i:Int))=(aG n).filter P from u7 fun p hp=>h p (aY.mp hp)];rfl
theorem Paired.snoc{c d:Type}{F:c->d->Prop}{a:c}{b:d}(h:F a b){l:List c}{m:List d}(p:Paired F l m):Paired F (l++[a]) (m++[b]):=by
 induction p with
 |nil=>exact .cons h .nil
 |cons x r ih=>exact .cons x ih
def Tk(H H':Hp):Prop:=∀a xs,H a=some (.tup xs)->H' a=some (.tup xs)
theorem Tk.of(s:aQ H H'):Tk H H':=fun a _ e=>s a _ e
theorem sA(h:H a=some (.lst xs)):Tk H (upd H a (.lst ys)):=fun b _ e=>by rw[aS (fun z=>by rw[z,h]at e;cases e)];exact e
theorem eB(t:Tk H H'){ps:List (List Int)}(h:_root_.Q.IntKeys H ys ps):_root_.Q.IntKeys H' ys ps:=Paired.jM h fun v k z=>by obtain⟨a,e,f⟩:=z;exact⟨a,e,t _ _ f⟩
def BrOf(f:Nat->Int)(n:Nat)(g:Nat->Nat)(H:Hp)(v:V)(q:Int):Prop:=∃a x y z,v=V.ref a/\H a=some (.tup [.ref x,.ref y,.ref z])/\H x=some (.tup ((lo (nA f n g q) (nB f n g q)).map V.int))/\H y=some (.tup ((hi (nA f n g q) (nB f n g q)).map V.int))/\H z=some (.tup ((plc n (own g q.toNat)).map V.int))
def mH(f:Nat->Int)(n:Nat)(g:Nat->Nat)(H:Hp)(bs:List V)(qs:List Int):Prop:=Paired (BrOf f n g H) bs qs
theorem mH.tk{f:Nat->Int}{g:Nat->Nat}(t:Tk H H'){bs:List V}(h:mH f n g H bs qs):mH f n g H' bs qs:=Paired.jM h fun v k w=>by obtain⟨a,x,y,z,e,b,c,d,i⟩:=w;exact⟨a,x,y,z,e,t _ _ b,t _ _ c,t _ _ d,t _ _ i⟩
theorem mH.two{f:Nat->Int}{g:Nat->Nat}{bs:List V}(h:mH f n g H bs qs):_root_.Q.jt H bs (brK f n g qs):=by
 unfold mH at h
 induction h with
 |nil=>exact .nil
 |cons x r ih=>obtain⟨a,x,y,z,e,b,c,d,_⟩:=x;exact .cons ⟨a,x,y,_,e,b,c,d⟩ ih
theorem fg{a b:Type}{F:a->b->Prop}{l:List a}{m:List b}(h:Paired F l m):m.length=l.length:=by
 induction h with
 |nil=>rfl
 |cons _ _ ih=>simp[ih]
noncomputable def gsI(rows:List (List Int))(n:Nat):List Int:=(aG n).map fun p:Nat=>(grp rows p:Int)
theorem zZ:(gsI rows n).length=n:=by simp[gsI]
theorem Lg(h:p<n):(gsI rows n).getD p 0=(grp rows p:Int):=by unfold gsI;rw[ae,aA,b9 h];rfl
noncomputable def dn(qs:List Int)(k:Nat):List Int:=(qs.take k).filter fun q=> !decide (q=0)
theorem dn_zero(h:qs[k]? =some 0):dn qs (k+1)=dn qs k:=by unfold dn;rw[dM,h,lA];simp
theorem FV{q:Int}(h:qs[k]? =some q)(a:q≠0):dn qs (k+1)=dn qs k++[q]:=by unfold dn;rw[dM,h,lA];simp[a]
theorem Lx{g:Nat->Nat}(h:Grs n g qs):Grs n g (dn qs k):=by have s:(dn qs k).Sublist qs:=kL.trans (u5 k qs);exact⟨h.1.sublist s,fun q hq=>h.2 q (s.subset hq)⟩
theorem Lw{g:Nat->Nat}(h:Grs n g qs):(dn qs k).length<=n:=z6 (Lx h)
structure Fx(H:Hp)(gl nd br so:Addr):Prop where
 fnd:H nd=none
 fbr:H br=none
 n1:nd≠br
 n2:nd≠gl
 n3:nd≠so
 n4:br≠gl
 n5:br≠so
structure Gx(rows:List (List Int))(n:Nat)(qs:List Int)(H:Hp)(gl nd br so:Addr)(ds:List Int)(ks bs:List V)(H':Hp):Prop where
 s:aQ H H'
 eg:H' gl=some (.lst ((gsI rows n).map V.int))
 eo:H' so=some (.lst (qs.map V.int))
 en:H' nd=some (.lst ks)
 eb:H' br=some (.lst bs)
 nk:_root_.Q.IntKeys H' ks (fE (fr rows) n (grp rows) ds)
 bk:mH (fr rows) n (grp rows) H' bs ds
section
variable {rows:List (List Int)}{n:Nat}{qs:List Int}{H:Hp}{gl nd br so c r0:Addr}{ds:List Int}{ks bs:List V}{H':Hp}{G:Gam}{K:ah}{E:XS}{D:Ends}
theorem Gx.same{a:Hp}(g:Gx rows n qs H gl nd br so ds ks bs H')(s:aQ H' a):Gx rows n qs H gl nd br so ds ks bs a:=
 ⟨g.s.trans s,s _ _ g.eg,s _ _ g.eo,s _ _ g.en,s _ _ g.eb,eB (Tk.of s) g.nk,g.bk.tk (Tk.of s)⟩
theorem Gx.ksl(g:Gx rows n qs H gl nd br so ds ks bs H'):ks.length=ds.length+1:=by have :=fg g.nk;simpa[fE]using this.symm
theorem Gx.bsl(g:Gx rows n qs H gl nd br so ds ks bs H'):bs.length=ds.length:=(fg g.bk).symm
def Gv(rows:List (List Int))(n:Nat)(qs:List Int)(H:Hp)(c r0 gl nd br so:Addr)(k:Nat)(σ:L2.St)(H':Hp):Prop:=
 (∃ks bs,Gx rows n qs H gl nd br so (dn qs k) ks bs H')/\∃u v w x y,σ=[some (.ref c),some (.ref r0),some (.ref gl),some (.ref nd),some (.ref br),u,v,w,x,y]
theorem DL{f:Nat->Int}{g:Nat->Nat}{q:Int}:fE f n g (ds++[q])=fE f n g ds++[nB f n g q]:=by simp[fE]
theorem pick{p:Prop}[Decidable p]{x y:Addr}{A B:List Int}(a:H x=some (.tup (A.map V.int)))(b:H y=some (.tup (B.map V.int))):∃z,(if p then V.ref y else V.ref x)=V.ref z/\H z=some (.tup ((if p then B else A).map V.int)):=by
 split;·exact⟨y,rfl,b⟩
 ·exact⟨x,rfl,a⟩
theorem yU(F:Fx H gl nd br so)(T:n<=60)(hq:Grs n (grp rows) qs){q:Int}(L:qs[k]? =some q)(h0:q≠0)(J:∀u H2,Gv rows n qs H c r0 gl nd br so (k+1) u H2->D.nx u H2)
  (s:aQ H H')(v:H' gl=some (.lst ((gsI rows n).map V.int)))(A:H' so=some (.lst (qs.map V.int)))(w:H' nd=some (.lst ks))(m:H' br=some (.lst bs))(P:_root_.Q.IntKeys H' ks (fE (fr rows) n (grp rows) (dn qs (k+1))))(bk:mH (fr rows) n (grp rows) H' bs (dn qs k))
  (B:H' pl=some (.lst ((plc n (own (grp rows) q.toNat)).map V.int)))(g:H' be=some (.tup ((nB (fr rows) n (grp rows) q).map V.int)))(f:H' ab=some (.tup ((nA (fr rows) n (grp rows) q).map V.int))):
  wpB G K E oq D [some (.ref c),some (.ref r0),some (.ref gl),some (.ref nd),some (.ref br),some (.int q),some (.ref pl),some (.ref ar),some (.ref be),some (.ref ab)] H':=by
 have S:(dn qs k).length<=n:=Lw hq;have R:=fg bk;unfold oq;walk_at "wp";have t:(nA (fr rows) n (grp rows) q).length=(nB (fr rows) n (grp rows) q).length:=(iz _ _ _).trans (iz _ _ _).symm;obtain⟨x,C,M⟩:=pick (p:=_root_.Q.llt (nB (fr rows) n (grp rows) q) (nA (fr rows) n (grp rows) q)=true) f g;obtain⟨y,I,N⟩:=pick (p:=_root_.Q.llt (nA (fr rows) n (grp rows) q) (nB (fr rows) n (grp rows) q)=true) f g;refine⟨.inl ⟨rfl,_,SqL.of m⟩,ab,be,_,_,rfl,SqT.of f,SqT.of g,t,ab,be,_,_,rfl,SqT.of f,SqT.of g,t,?_⟩;rw[C,I];refine⟨pl,_,rfl,.inl ⟨SqL.of B,fun z O=>⟨short (by simp),fun a r=>?_⟩⟩⟩;have d:aQ H' (upd (upd H' z (.tup ((plc n (own (grp rows) q.toNat)).map V.int))) a (.tup [.ref x,.ref y,.ref z])):=(av O).trans (av r);have j:upd (upd H' z (.tup ((plc n (own (grp rows) q.toNat)).map V.int))) a (.tup [.ref x,.ref y,.ref z]) a=some (.tup [.ref x,.ref y,.ref z]):=au;have l:upd (upd H' z (.tup ((plc n (own (grp rows) q.toNat)).map V.int))) a (.tup [.ref x,.ref y,.ref z]) z=some (.tup ((plc n (own (grp rows) q.toNat)).map V.int)):=av r _ _ au;generalize upd (upd H' z (.tup ((plc n (own (grp rows) q.toNat)).map V.int))) a (.tup [.ref x,.ref y,.ref z])=H1 at d j l⊢;have o:=d _ _ m;refine⟨br,bs,_,rfl,rfl,o,uw (by lia),J _ _ ⟨⟨ks,bs++[.ref a],?_⟩,_,_,_,_,_,rfl⟩⟩;have i:Tk H1 (upd H1 br (.lst (bs++[V.ref a]))):=sA o;have h:Tk H' (upd H1 br (.lst (bs++[V.ref a]))):=fun b Q e=>i b Q (d _ _ e);refine⟨eX (s.trans d) F.fbr,?_,?_,?_,au,eB h P,?_⟩;·rw[aS (bA F.n4)];exact d _ _ v
 ·rw[aS (bA F.n5)];exact d _ _ A
 ·rw[aS F.n1];exact d _ _ w
 ·rw[FV L h0];exact Paired.snoc ⟨a,x,y,z,rfl,i _ _ j,h _ _ M,h _ _ N,i _ _ l⟩ (bk.tk h)
theorem yV(F:Fx H gl nd br so)(j:n<=60)(hq:Grs n (grp rows) qs){q:Int}(d:qs[k]? =some q)(h0:q≠0)(i:∀e H2,Gv rows n qs H c r0 gl nd br so (k+1) e H2->D.nx e H2)
  (g:Gx rows n qs H gl nd br so (dn qs k) ks bs H')(l:pl≠nd)(h:H' pl=some (.lst ((plc n (own (grp rows) q.toNat)).map V.int)))(b:H' be=some (.tup ((nB (fr rows) n (grp rows) q).map V.int)))(f:H' ab=some (.tup ((nA (fr rows) n (grp rows) q).map V.int))):
  wpB G K E ot D [some (.ref c),some (.ref r0),some (.ref gl),some (.ref nd),some (.ref br),some (.int q),some (.ref pl),some (.ref ar),some (.ref be),some (.ref ab)] H':=by
 have m:(dn qs k).length<=n:=Lw hq;have o:=g.ksl;unfold ot;walk_at "wp";refine⟨.inl ⟨rfl,_,SqL.of g.en⟩,nd,ks,_,rfl,rfl,g.en,uw (by lia),?_⟩;have a:Tk H' (upd H' nd (.lst (ks++[V.ref be]))):=sA g.en;refine yU F j hq d h0 i (eX g.s F.fnd) ?_ ?_ au ?_ ?_ (g.bk.tk a) ?_ (a _ _ b) (a _ _ f);·rw[aS (bA F.n2)];exact g.eg
 ·rw[aS (bA F.n3)];exact g.eo
 ·rw[aS (bA F.n1)];exact g.eb
 ·rw[FV d h0,DL];exact Paired.snoc ⟨be,rfl,a _ _ b⟩ (eB a g.nk)
 ·rw[aS l];exact h
theorem A9{P:Nat->Bool}{Q:VK}{c:TT}{τs:List (Option V)}(r:n<=60)
  (step:∀(p:Nat)(u:Option V)(a:Hp)(R:Bool->Hp->Prop),p<n->aQ H1 a->R (P p) a->c (some (.int p)::τs) a R)
  (f:∀H2 l,aQ H1 H2->H2 l=none->Q (.ref l) (upd H2 l (.lst ((plc n P).map V.int)))):
  CA (Itr 0 n) (nH 0) c (xw 0) (none::τs) H1 Q:=by
 refine sV (xs:=nats n) A7 (eW (by unfold nats;simp;lia)) (fun _ _=>trivial) (fun v=>match v with |.int i=>P i.toNat|_=>false) id (fun d=>∃u,d=u::τs) ⟨none,rfl⟩ ?_ ?_
 ·rintro x d a q o b ⟨u,rfl⟩ m j kf;unfold nats at b;obtain⟨p,hp,rfl⟩:=aF.mp b;have hp:=aY.mp hp;refine step p u a _ hp m ?_;have e:P ((p:Int)).toNat=P p:=by rw[aM]
  cases h:P p with
  |true=>rw[if_pos rfl];exact⟨_,rfl,j _ _ ⟨_,rfl⟩ (aQ.refl _) (e.trans h)⟩
  |false=>rw[if_neg ao];exact kf _ _ ⟨_,rfl⟩ (aQ.refl _) (e.trans h)
 ·intro H2 l k g;rw[Hn (P:=P) fun p hp=>by show P ((p:Int)).toNat=P p;rw[aM]];exact f H2 l k g
theorem yW(h:G.fn "turned" 2=some (m8 K,[]))(F:Fx H gl nd br so)(i:n<=60)(u:(rows.getD 0 []).length=n)(v:H r0=some (.tup ((rows.getD 0 []).map V.int)))(hq:Grs n (grp rows) qs){q:Int}(t:qs[k]? =some q)(h0:q≠0)(s:∀j H2,Gv rows n qs H c r0 gl nd br so (k+1) j H2->D.nx j H2){x y:Option V}
  (g:Gx rows n qs H gl nd br so (dn qs k) ks bs H')(w:pl≠nd)(f:H' pl=some (.lst ((plc n (own (grp rows) q.toNat)).map V.int)))(r:H' ar=some (.lst ((plc n (M4.sub (grp rows) q.toNat)).map V.int))):
  wpB G K E ou D [some (.ref c),some (.ref r0),some (.ref gl),some (.ref nd),some (.ref br),some (.int q),some (.ref pl),some (.ref ar),x,y] H':=by
 unfold ou;walk_at "wp";refine⟨_,_,h,r0,ar,_,_,rfl,SqT.of (g.s _ _ v),SqL.of r,by lia,fun z l b _ a=>?_⟩;have m:trn (rows.getD 0 []) (plc n (M4.sub (grp rows) q.toNat))=nB (fr rows) n (grp rows) q:=by rw[<-u];exact GG
 rw[m]at a;unfold t8;walk_at "wp";refine⟨_,_,h,l,pl,_,_,rfl,SqT.of a,SqL.of (b _ _ f),by unfold nB;rw[iz];exact i,fun H2 A d _ e=>?_⟩;have o:trn (nB (fr rows) n (grp rows) q) (plc n (own (grp rows) q.toNat))=nA (fr rows) n (grp rows) q:=by unfold nB nA;rw[trn_bl fun p=>own_sub,LV]
 rw[o]at e;exact yV F i hq t h0 s (g.same (b.trans d)) w (d _ _ (b _ _ f)) (d _ _ a) e
theorem yX(J:G.fn "turned" 2=some (m8 K,[]))(F:Fx H gl nd br so)(h:n<=60)(s:(rows.getD 0 []).length=n)(j:H r0=some (.tup ((rows.getD 0 []).map V.int)))(hq:Grs n (grp rows) qs){q:Int}(r:qs[k]? =some q)(h0:q≠0)(L:∀C H2,Gv rows n qs H c r0 gl nd br so (k+1) C H2->D.nx C H2){v w x y:Option V}
  (g:Gx rows n qs H gl nd br so (dn qs k) ks bs H'):
  wpB G K E oy D [some (.ref c),some (.ref r0),some (.ref gl),some (.ref nd),some (.ref br),some (.int q),v,w,x,y] H':=by
 obtain⟨S,Q,I⟩:=hq.2 q (aI r);have t:q=(q.toNat:Int):=by rw[I,aM]
 have A:((rows.getD 0 []).map V.int).length=n:=by rw[ai];exact s
 unfold oy;walk_at "wp";refine dH ?_;walk_at "wp";refine Or.inl ⟨r0,_,rfl,.inr (SqT.of (g.s _ _ j)),_,rfl,by lia,by lia,?_⟩;rw[A,aM];refine A9 (P:=own (grp rows) q.toNat) (τs:=[some (.int q),some (.ref gl)]) h ?_ ?_
 ·intro p u l R hp a f;walk_at "wp";refine .inl ⟨gl,_,p,_,rfl,rfl,SqL.of (a _ _ g.eg),cn (iV (by rw[zZ];exact hp)),?_⟩;rw[Lg hp];refine kT.mpr ?_;refine⟨_,rfl,?_⟩;have e:decide ((grp rows p:Int)=q)=own (grp rows) q.toNat p:=by unfold M5.own;rw[t,aM];exact decide_eq_decide.mpr (by lia)
  rw[e];exact f
 intro d b B i;have N:aQ H' (upd d b (.lst ((plc n (own (grp rows) q.toNat)).map V.int))):=B.trans (av i);have m:upd d b (.lst ((plc n (own (grp rows) q.toNat)).map V.int)) b=some (.lst ((plc n (own (grp rows) q.toNat)).map V.int)):=au;have M:b≠nd:=fun z=>by rw[z,B _ _ g.en]at i;cases i
 have g:=g.same N;generalize upd d b (.lst ((plc n (own (grp rows) q.toNat)).map V.int))=H2 at m g⊢;unfold t9;walk_at "wp";refine dH ?_;walk_at "wp";refine Or.inl ⟨r0,_,rfl,.inr (SqT.of (g.s _ _ j)),_,rfl,by lia,by lia,?_⟩;rw[A,aM];refine A9 (P:=M4.sub (grp rows) q.toNat) (τs:=[some (.int q),some (.ref gl)]) h ?_ ?_
 ·intro p u l R hp a f;walk_at "wp";refine .inl ⟨gl,_,p,_,rfl,rfl,SqL.of (a _ _ g.eg),cn (iV (by rw[zZ];exact hp)),?_⟩;rw[Lg hp];refine and_ii.mpr (kT.mpr ⟨_,rfl,?_⟩);have e:decide (i6 (grp rows p:Int) q=q)=M4.sub (grp rows) q.toNat p:=by unfold M4.sub;rw[t,and_nat,aM];exact decide_eq_decide.mpr (by lia)
  rw[e];exact f
 intro l O a o;exact yW J F h s j hq r h0 L (g.same (a.trans (av o))) M ((a.trans (av o)) _ _ m) au
end
def tj(rows:List (List Int))(n:Nat)(H:Hp)(H':Hp)(p:Addr):Prop:=∃(nl bl:Addr)(ks bs:List V)(qs:List Int),H' p=some (.tup [.ref nl,.ref bl])/\H nl=none/\H bl=none/\nl≠bl/\Grs n (grp rows) qs/\0∉qs/\(∀p,p<n->grp rows p≠0->(grp rows p:Int)∈qs)/\
 _root_.Q.IntKeys H' ks (fE (fr rows) n (grp rows) qs)/\mH (fr rows) n (grp rows) H' bs qs/\H' nl=some (.lst (_root_.Q.cj .non (fE (fr rows) n (grp rows) qs) ks))/\H' bl=some (.lst (_root_.Q.cj .non ((brK (fr rows) n (grp rows) qs).map _root_.Q.kD) bs))
def vn:Sp:=fun vs H Q _=>∃(c:Addr)(ys:List V)(n:Nat)(rows:List (List Int)),vs=[.ref c]/\Cps H c ys n rows/\ys≠[]/\∀H' p,aQ H H'->H p=none->tj rows n H H' p->Q (.ref p) H'
theorem GA(g1:G.fn "group_at" 2=some (zc,[]))(E:G.fn "turned" 2=some (m8 K,[])):Sat G K vn F7 Fn:=by
 rintro vs H b4 b3 ⟨c,L,n,a,rfl,d,hy,q⟩;unfold F7;change wpB G K _ _ _ [some (.ref c),none,none,none,none,none,none,none,none,none] H;walk_at "wp";have r:0<L.length:=iE.mpr hy;obtain⟨a1,z,s,e1,e2,R⟩:=d.at_ 0 L[0] (aa r);obtain⟨W,hf⟩:=d.row r;have hf:∀p,p<n->fr a p=0\/fr a p=1:=hf;have hn:=d.n60;have a9:((a.getD 0 []).map V.int).length=n:=by rw[ai];exact W
 have g0:L[0]? =some (.ref a1):=by rw[aa r,e1]
 refine .inl ⟨c,L,0,_,rfl,rfl,SqL.of d.ec,cn (j:=0) g0,?_⟩;refine .inr (.inl ⟨a1,_,1,_,rfl,rfl,SqT.of e2,rfl,?_⟩);unfold yH;walk_at "wp";refine dH ?_;walk_at "wp";refine Or.inl ⟨s,_,rfl,.inr (SqT.of R),_,rfl,by lia,by lia,?_⟩;rw[a9,aM];refine eJ cR (eW (by lia)) (fun _ _=>trivial) (fun i a0 _=>a0=.int (grp a i)) (fun _ _ _ _ _ h=>h) (fun τ=>∃u,τ=[u,some (.ref c)]) ⟨none,rfl⟩ ?_ ?_;·rintro i b1 τ B b5 hi ⟨u,rfl⟩ v rfl k;walk_at "wp";simp only[eE];exact⟨_,_,g1,c,i,L,n,a,rfl,d.same v,hy,by lia,fun C J=>k _ _ _ ⟨_,rfl⟩ J rfl⟩
 intro vs Q gl c1 hF s1 a8;have ev:vs=(gsI a n).map V.int:=by
  unfold gsI;apply jo;intro i;rw[aA,aA];by_cases hi:i<vs.length;·rw[aa hi,b9 (by lia),hF i _ (aa hi)];rfl
  ·rw[bY (by lia),bY (by rw[ba];lia)];rfl
 rw[ev];have P:aQ H (upd Q gl (.lst ((gsI a n).map V.int))):=s1.trans (av a8);have m:upd Q gl (.lst ((gsI a n).map V.int)) gl=some (.lst ((gsI a n).map V.int)):=au;generalize upd Q gl (.lst ((gsI a n).map V.int))=H2 at P m⊢;unfold yG;walk_at "wp";refine⟨short (by simp),fun nd O=>?_⟩;have v:aQ H2 (upd H2 nd (.lst [.ref s])):=av O;have t:upd H2 nd (.lst [.ref s]) nd=some (.lst [.ref s]):=au;have n2:nd≠gl:=fun z=>by rw[z,m]at O;cases O
 have fnd:H nd=none:=P.free O;generalize upd H2 nd (.lst [.ref s])=B at v t⊢;unfold yF;walk_at "wp";refine⟨short (by simp),fun e x=>?_⟩;have J:aQ B (upd B e (.lst [])):=av x;have S:upd B e (.lst []) e=some (.lst []):=au;have n1:nd≠e:=fun z=>by rw[<-z,t]at x;cases x
 have n4:e≠gl:=fun z=>by rw[z,v _ _ m]at x;cases x
 have a7:H e=none:=(P.trans v).free x;have t:=J _ _ t;have m:=J _ _ (v _ _ m);have Y:=P.trans (v.trans J);generalize upd B e (.lst [])=C at Y S t m⊢;unfold yE;walk_at "wp";refine fJ ?_;walk_at "wp";refine⟨_,rfl,gl,gsI a n,rfl,SqL.of m,Few.of (by rw[zZ];lia),fun ms f a4 mem I=>?_⟩;obtain⟨b,eq,X⟩:=_root_.Q.GQ a4;have hq:Grs n (grp a) b:=⟨X.nodup_iff.mpr a4,fun q hq=>by have h:=(mem q).mp (X.mem_iff.mp hq);unfold gsI at h;obtain⟨p,hp,a6⟩:=aF.mp h;exact⟨p,aY.mp hp,a6.symm⟩⟩
 rw[eq];have A:aQ C (upd C f (.lst (b.map V.int))):=av I;have U:upd C f (.lst (b.map V.int)) f=some (.lst (b.map V.int)):=au;have n3:nd≠f:=fun z=>by rw[<-z,t]at I;cases I
 have n5:e≠f:=fun z=>by rw[<-z,S]at I;cases I
 have a5:Fx H gl nd e f:=⟨fnd,a7,n1,n2,n3,n4,n5⟩;generalize upd C f (.lst (b.map V.int))=H5 at A U⊢;have gx:Gx a n b H gl nd e f (dn b 0) [.ref s] [] H5:=by
  refine⟨Y.trans A,A _ _ m,U,A _ _ t,A _ _ S,?_,.nil⟩;refine .cons ⟨s,rfl,?_⟩ .nil;have ef:bl (fr a) n (fun _=>false)=a.getD 0 []:=by rw[<-W];exact Ln _
  rw[ef];exact(Y.trans A) _ _ R
 refine⟨f,rfl,⟨_,SqL.of U⟩,BZ (dZ (xs:=b.map V.int)) (Gv a n b H c s gl nd e f) ⟨⟨_,_,gx⟩,_,_,_,_,_,rfl⟩ (fun k σ H' _ g=>?_) ?_ ?_⟩;·obtain⟨⟨l,bs,g⟩,_⟩:=g;exact SqL.of g.eo
 ·rintro k b1 σ D H7 D2 hk ⟨⟨l,bs,g⟩,u,a0,b0,x',b2,rfl⟩ hx s7 hD hC;have g:=g.same s7;rw[ai]at hk;have N:b[k]? =some b[k]:=aa hk;rw[aA,N]at hx;cases hx;generalize b[k]=q at N;walk_at "wp";by_cases r:q=0;·rw[decide_eq_true r,if_pos rfl];refine hC _ _ ⟨⟨l,bs,?_⟩,_,_,_,_,_,rfl⟩;rw[dn_zero (by rw[N,r])];exact g
  ·rw[decide_eq_false r,if_neg ao];exact yX E a5 hn W R hq N r hD g
 ·rintro σ D ⟨⟨l,bs,g⟩,u,a0,b0,x',b2,rfl⟩;rw[ai]at g;have F:Grs n (grp a) (dn b b.length):=Lx hq;have a2:dn b b.length=b.filter fun q=> !decide (q=0):=by unfold dn;rw[hZ]
  have z0:(0:Int)∉dn b b.length:=fun z=>by rw[a2]at z;simpa using(dO.mp z).2
  have all:∀p,p<n->grp a p≠0->(grp a p:Int)∈dn b b.length:=fun p hp h=>by
   rw[a2];refine dO.mpr ⟨X.mem_iff.mpr ((mem _).mpr ?_),?_⟩;·unfold gsI;exact aF.mpr ⟨p,aY.mpr hp,rfl⟩
   ·have :¬((grp a p:Int)=0):=by lia
    rw[decide_eq_false this];rfl
  generalize dn b b.length=ds at g F z0 all;have b8:ds.length<=n:=z6 F;have c0:=g.ksl;have b7:=g.bsl;have c2:=fg g.nk;have b6:=fg g.bk.two;unfold yD;walk_at "wp";refine⟨nd,l,_,n,rfl,SqL.of g.en,by lia,vN hf F,Hm,g.nk,fun y a3=>?_⟩;have t1:aQ D (upd D y (.lst (_root_.Q.cj .non (fE (fr a) n (grp a) ds) l))):=av a3;have T:upd D y (.lst (_root_.Q.cj .non (fE (fr a) n (grp a) ds) l)) y=some (.lst (_root_.Q.cj .non (fE (fr a) n (grp a) ds) l)):=au;have w:=g.same t1;generalize upd D y (.lst (_root_.Q.cj .non (fE (fr a) n (grp a) ds) l))=H7 at t1 T w⊢;refine⟨e,bs,_,n,rfl,SqL.of w.eb,by lia,Em hf F,brK_len,w.bk.two,fun bl M=>⟨short (by simp),fun p hp=>?_⟩⟩;have Z:=av (o:=.lst (_root_.Q.cj .non ((brK (fr a) n (grp a) ds).map _root_.Q.kD) bs)) M;have t3:=av (o:=.tup [.ref y,.ref bl]) hp;have E:=w.same (Z.trans t3);refine q _ p E.s (((w.s).trans Z).free hp) ⟨y,bl,l,bs,ds,au,g.s.free a3,w.s.free M,fun z=>by(rw[<-z,T]at M;cases M),F,z0,all,E.nk,E.bk,(Z.trans t3) _ _ T,t3 _ _ au⟩
end K32
namespace K32
open PySem R
noncomputable def p_tree:List Str:=["table"]
noncomputable def Kx:List Str:=["table","copies"]
noncomputable def Cj:CB:=
  (.cons (.ret (.call "grown" (.cons (.var 1) .nil)))
  .nil)
noncomputable def Ck:CB:=
  (.cons (.iff (.cmp .Eq (.bfn .len (.cons (.var 1) .nil)) (.con (.int 0)))
  (.cons (.ret (.tup (.cons (.lst .nil) (.cons (.lst .nil) .nil))))
  .nil)
  .nil)
  Cj)
noncomputable def Cm:CB:=
  (.cons (.expr (.call "refuse_clash" (.cons (.var 1) .nil)))
  Ck)
noncomputable def LP:CB:=
  (.cons (.asg (.name 1) (.call "table_list" (.cons (.var 0) .nil)))
  Cm)
end K32
namespace K32
open PySem PySem.Spec PyProof.Rows L2 R Cp Lt Kc K21 K22 Lm M5
theorem put2{x:V}:pk (bf "other") y [(bf "one",x)]=[(bf "one",x),(bf "other",y)]:=by unfold pk pk;rw[if_neg (by decide+kernel)]
theorem A5{x:V}(e:dW H x=true)(m:H' l=some (.lst zs))(h:zs.map (cd H')=rowsOf H x)(t:dW H' (.ref l)=true):rowsOf H' (.ref l)=rowsOf H x/\srt H' (.ref l)=zs:=by
 have i:eQ (H' l)=some zs:=by rw[m];rfl
 obtain⟨y,C,o,j,z,A,b,B⟩:=eV t;cases o;rw[i]at j;cases j;obtain⟨a,ys,rfl,p,u,v,g,w⟩:=eV e;have c:∀l:List V,l.filter (fun _=>true)=l:=fun l=>List.filter_eq_self.mpr fun _ _=>rfl;have r:(_root_.Q.sortBy V.non (ys.map (aU H)) ys).map (aU H)=_root_.Q.sortBy ("":Str) (ys.map (aU H)) (ys.map (aU H)):=by
  have :=_root_.Q.tH V.non (aU H) (fun _=>true) g
  rwa [c,c]at this
 have s:(_root_.Q.sortBy V.non (zs.map (aU H')) zs).map (aU H')=_root_.Q.sortBy ("":Str) (zs.map (aU H')) (zs.map (aU H')):=by
  have :=_root_.Q.tH V.non (aU H') (fun _=>true) b
  rwa [c,c]at this
 have n:zs.map (aU H')=_root_.Q.sortBy ("":Str) (ys.map (aU H)) (ys.map (aU H)):=by rw[<-r,<-uL p];have :=congrArg (List.map Prod.fst) h;unfold rowsOf at this;rw[bD,bD]at this;exact this
 have q:=_root_.Q.gv V.non b (ys:=zs) (by simp);have k:_root_.Q.sortBy V.non (zs.map (aU H')) zs=zs:=by refine vV (Hl b) (fun a d=>q.mem_iff.mp d) (fun a d=>d) ?_;rw[s];refine _root_.Q.k6 (_root_.Q.gv ("":Str) b rfl) (_root_.Q.jg b) ?_;rw[n];exact _root_.Q.jg g
 have f:srt H' (.ref l)=zs:=by rw[uL i,k]
 refine⟨?_,f⟩;show(srt H' (.ref l)).map (cd H')=_;rw[f];exact h
noncomputable def intOf:V->Int
 |.int i=>i
 |_=>0
theorem sP(h:∀z∈zs,cE z=true):(zs.map intOf).map V.int=zs/\∀x∈zs.map intOf,x=0\/x=1:=by
 constructor
 ·rw[bD]
  conv =>rhs;rw[<-dP zs]
  refine cO fun z a=>?_;rcases gW (h z a)with e|e<;>rw[e]<;>rfl
 ·intro x b;obtain⟨z,a,rfl⟩:=aF.mp b;rcases gW (h z a)with e|e<;>rw[e];·exact .inl rfl
  ·exact .inr rfl
noncomputable def rI(R:List (Str×List V)):List (List Int):=R.map fun p=>p.2.map intOf
theorem cps_of(d:H l=some (.lst zs))(v:dW H (.ref l)=true):Cps H l zs (count H (.ref l)) (rI (zs.map (cd H))):=by
 have g:eQ (H l)=some zs:=by rw[d];rfl
 obtain⟨x,A,q,m,w,c,z,n⟩:=eV v;cases q;rw[g]at m;cases m;refine⟨d,w,by simp[rI],?_,fun i y e=>?_,fun r u=>?_⟩
 ·cases zs with
  |nil=>show(match eQ (H l)with |some (y::_)=>cy H y|_=>0)<=60;rw[g];exact aZ _
  |cons y r=>rw[<-n y (.head _)];obtain⟨_,_,_,_,_,_,_,_,s,_,_,t⟩:=ix (c y (.head _));rw[t];exact s
 ·obtain⟨b,r,rfl,h,j,k,a⟩:=kU (c y (aI e));refine⟨b,_,r,rfl,h,?_⟩;have o:(rI (zs.map (cd H))).getD i []=(sF H (.ref b)).map intOf:=by unfold rI;rw[ae,aA,aA,e];rfl
  rw[o,(sP a).1];exact j
 ·obtain⟨p,hp,rfl⟩:=aF.mp u;obtain⟨y,f,rfl⟩:=aF.mp hp;obtain⟨b,r,rfl,h,j,k,a⟩:=kU (c y f);refine⟨?_,(sP a).2⟩;rw[ai,<-n _ f];exact k
theorem FH{T:Tb}{p:Addr}(g:Gr T H H')(t:Tab T H')(h:H' p=none):H p=none:=by
 cases e:H p with
 |none=>rfl
 |some o=>
  have hp:p≠T.P:=fun z=>by rw[z]at h;rcases t with t|⟨_,_,_,_,_,t,_⟩<;>(rw[h]at t;cases t)
  rw[g.keep p o hp e]at h;cases h
theorem Cps.gr{T:Tb}(d:Cps H c ys n rows)(g:Gr T H H')(a:Tab T H):Cps H' c ys n rows:=
 {d with ec:=g.lst a d.ec,at_:=fun i y e=>let⟨b,z,r,h1,h2,h3⟩:=d.at_ i y e;⟨b,z,r,h1,g.ur a h2,g.ur a h3⟩}
theorem tj.old{a:Hp}{p:Addr}(g:tj rows n H H' p)(f:∀p,H p=none->a p=none):tj rows n a H' p:=by obtain⟨i,bl,h,bs,j,b,c,d,e⟩:=g;exact⟨i,bl,h,bs,j,b,f _ c,f _ d,e⟩
def TreeK(R:List (Str×List V))(n:Nat)(H H':Hp)(p:Addr):Prop:=
 (R=[]/\∃a b,H' p=some (.tup [.ref a,.ref b])/\H a=none/\H b=none/\a≠b/\H' a=some (.lst [])/\H' b=some (.lst []))\/(R≠[]/\tj (rI R) n H H' p)
end K32
namespace K02
open PySem PySem.Spec PyProof.Rows L2 R Cp Lt Lm
theorem Tab.set{T:Tb}(t:Tab T H)(h:H l=some (.lst xs)):Tab T (upd H l (.lst ys)):=by
 rcases t with t|⟨c,f,u,g,tk,a,b,d,e⟩;·exact .inl (by rw[aS (Fg t h (by nofun))];exact t)
 ·exact .inr ⟨c,f,u,g,tk,by rw[aS (Fg a h (by nofun))];exact a,by rw[aS (Fg b h (by nofun))];exact b,d,e⟩
theorem Gr.new{T:Tb}(g:Gr T H H1)(a:H l=none)(h:H1 l=some (.lst xs)):Gr T H (upd H1 l (.lst ys)):=
 ⟨fun b o n e=>by rw[aS (a9 e a)];exact g.keep b o n e,fun t=>Tab.set (g.tab t) h⟩
end K02
namespace K82
open PySem PySem.Spec PyProof.Rows L2 R Cp Lt Lm K02
noncomputable abbrev Row:=Str×List V
end K82
namespace K24
open PySem PySem.Spec PyProof.Rows L2 R Cp Lt Kc K21 K22 Lm
theorem wm{rows:List (Str×List V)}{i j:Int}:rB rows i j=true↔∀u v:Int,(u=0\/u=1)->(v=0\/v=1)->∃r∈rows,Hj i r=u/\Hj j r=v:=by
 unfold rB;rw[bI];constructor
 ·intro h u v a f;have d:(u,v)∈KP:=by unfold KP;rcases a with rfl|rfl<;>rcases f with rfl|rfl<;>simp
  obtain⟨r,c,e⟩:=cB.mp (h (u,v) d);exact⟨r,c,of_decide_eq_true e⟩
 ·intro h k b;have a:(k.1=0\/k.1=1)/\(k.2=0\/k.2=1):=by unfold KP at b;simp only[aH,cV,or_false]at b;rcases b with rfl|rfl|rfl|rfl<;>simp
  obtain⟨r,c,e⟩:=h k.1 k.2 a.1 a.2;exact cB.mpr ⟨r,c,decide_eq_true e⟩
end K24
namespace K84
open PySem PySem.Spec PyProof.Rows L2 R Cp Lt Kc K21 K22 K24 Lm
theorem uO{b:Type}[DecidableEq b]:∀{l m:List b},l.Nodup->m.Nodup->(∀x,x∈l↔x∈m)->l.Perm m
 | [],m,_,_,h=>by
  cases m with
  |nil=>exact .nil
  |cons x m=>exact nomatch(h x).mpr (.head _)
 |x::l,m,h1,h2,h=>by
  have d:=(h x).mp (.head _);refine .trans (.cons x (uO (bP.mp h1).2 (h2.erase x) fun y=>?_)) (qC d).symm;rw[h2.mem_erase_iff];constructor;·intro a;exact⟨fun e=>(bP.mp h1).1 (e▸a),(h y).mp (.tail _ a)⟩
  ·rintro⟨c,a⟩;rcases aH.mp ((h y).mpr a)with e|e;·exact absurd e c
   ·exact e
end K84
namespace K83
open PySem PySem.Spec PyProof.Rows L2 R Cp Lt Kc K84 Lm
theorem iR{a b:Type}{F:a->b->Prop}{l:List a}{m:List b}(p:Paired F l m):l.length=m.length:=by
 induction p with
 |nil=>rfl
 |cons _ _ ih=>rw[bG,bG,ih]
theorem pr_at{c d:Type}{F:c->d->Prop}{l:List c}{m:List d}(p:Paired F l m):∀{i:Nat}{a:c},l[i]? =some a->∃b,m[i]? =some b/\F a b:=by
 induction p with
 |nil=>intro i a h;cases h
 |cons h _ ih=>
  intro i a e;cases i with
  |zero=>cases e;exact⟨_,rfl,h⟩
  |succ i=>exact ih e
end K83
namespace K83
open PySem R
noncomputable def vC:List Str:=["table"]
noncomputable def nj:List Str:=["table","found"]
noncomputable def nR:CB:=
  (.cons (.asg (.name 1) (.call "clash" (.cons (.var 0) .nil)))
  (.cons (.iff (.cmp .IsNot (.var 1) (.con .none)) .hole .nil)
  .nil))
end K83
namespace K83
open PySem PySem.Spec PyProof.Rows L2 R Cp Lt Lm K02 K82
theorem zh{ps:List (List Int)}(nd:ps.Nodup):(_root_.Q.cj [] ps ps).Pairwise fun a b=>_root_.Q.llt a b=true:=by
 unfold _root_.Q.cj _root_.Q.vG;split
 ·rename_i h;rw[_root_.Q.range_getD]
  match ps,h with
  | [],_=>exact .nil
  | [x],_=>simp
  |_::_::_,h=>simp at h;lia
 ·rename_i h;obtain⟨P,U,_⟩:=_root_.Q.fo (_root_.Q.GH nd) (by lia:1<=ps.length);rw[cY];intro i j hi f d;have g:j<ps.length:=by simpa[P.size]using f
  have u:=U i j d g;rw[bH,bH];have e:∀(k:Nat)(c:k<(_root_.Q.run (_root_.Q.ltL ps) (jw ps.length)).toList.length),(_root_.Q.run (_root_.Q.ltL ps) (jw ps.length)).toList[k]=_root_.Q.at' (_root_.Q.run (_root_.Q.ltL ps) (jw ps.length)) k:=fun k c=>by
   have l:k<(_root_.Q.run (_root_.Q.ltL ps) (jw ps.length)).size:=by simpa using c
   simp[_root_.Q.at',l]
  rw[e,e];exact u
theorem uQ{ps:List (List Int)}(nd:ps.Nodup)(h:i∈_root_.Q.vG ps):i<ps.length:=aY.mp ((_root_.Q.lF nd).mem_iff.mp h)
theorem mz{a:Type}(d:a){ps:List (List Int)}{ys:List a}(nd:ps.Nodup)(b:ps.length=ys.length):(_root_.Q.cj d ps ys).Perm ys:=by unfold _root_.Q.cj;have h:=(_root_.Q.lF nd).map fun i=>ys.getD i d;rw[b,_root_.Q.range_getD]at h;exact h
theorem llt_no{a b:List Int}(h:_root_.Q.llt a b=true)(k:_root_.Q.llt b a=true):a=b:=by
 have c:=_root_.Q.sL h k;have :∀x:List Int,_root_.Q.llt x x=false:=fun x=>by
  induction x with
  |nil=>rfl
  |cons a x ih=>simp[_root_.Q.llt,ih]
 rw[this]at c;cases c
theorem GP{a:Type}(d:a)(F:a->List Int){ys:List a}(nd:(ys.map F).Nodup):(_root_.Q.cj d (ys.map F) ys).map F=_root_.Q.cj [] (ys.map F) (ys.map F):=by unfold _root_.Q.cj;rw[bD];refine cO fun i hi=>?_;have :=uQ nd hi;rw[ai]at this;show F (ys.getD i d)=_;rw[ae,ae,aA,aa this];rfl
theorem oE{c:Type}(d:c)(F:c->List Int){ys zs:List c}(nd:(ys.map F).Nodup)(p:ys.Perm zs):_root_.Q.cj d (ys.map F) ys=_root_.Q.cj d (zs.map F) zs:=by
 have f:=(p.map F).nodup_iff.mp nd;have m:∀{ys:List c},(ys.map F).Nodup->(_root_.Q.cj d (ys.map F) ys).Pairwise fun a b=>_root_.Q.llt (F a) (F b)=true:=fun{ys} nd=>by have h:=zh nd;rw[<-GP d F nd]at h;exact cZ.mp h
 have g:=mz d (ys:=ys) nd (by simp);have l:=mz d (ys:=zs) f (by simp);refine List.Perm.eq_of_pairwise (fun a b n q h k=>?_) (m nd) (m f) (g.trans (p.trans l.symm));have e:=llt_no h k;have o:=g.mem_iff.mp n;have r:=p.mem_iff.mpr (l.mem_iff.mp q);obtain⟨i,hi,rfl⟩:=cH.mp o;obtain⟨j,s,rfl⟩:=cH.mp r;have :(ys.map F)[i]'(by simpa using hi)=(ys.map F)[j]'(by simpa using s):=by rw[bH,bH];exact e
 have :=(eR nd).mp this;subst this;rfl
theorem E6{c:Type}{F:V->c->Prop}{ps:List (List Int)}{ks:List c}{d:c}(nd:ps.Nodup)(k:ps.length=ys.length)(p:Paired F ys ks):Paired F (_root_.Q.cj .non ps ys) (_root_.Q.cj d ps ks):=by
 unfold _root_.Q.cj;have key:∀{a:List Nat},(∀i∈a,i<ys.length)->Paired F (a.map fun i=>ys.getD i .non) (a.map fun i=>ks.getD i d):=fun{a} h=>by
  induction a with
  |nil=>exact .nil
  |cons i a ih=>have hi:=h i aL;obtain⟨b,e,f⟩:=pr_at p (aa hi);refine .cons ?_ (ih fun j g=>h j (aJ _ g));show F (ys.getD i .non) (ks.getD i d);rw[ae,ae,aa hi,e];exact f
 exact key fun i hi=>by rw[<-k];exact uQ nd hi
def GrQ(rows:List (List Int))(n:Nat)(qs:List Int):Prop:=M5.Grs n (K32.grp rows) qs/\0∉qs/\∀p,p<n->K32.grp rows p≠0->(K32.grp rows p:Int)∈qs
theorem GrQ.perm{ps:List Int}(a:GrQ rows n qs)(b:GrQ rows n ps):qs.Perm ps:=by
 have s:∀{qs ps:List Int},GrQ rows n qs->GrQ rows n ps->∀x∈qs,x∈ps:=fun{qs ps} a b x c=>by obtain⟨p,hp,rfl⟩:=a.1.2 x c;exact b.2.2 p hp fun z=>a.2.1 (by rw[z]at c;exact c)
 exact K84.uO a.1.1 b.1.1 fun x=>⟨s a b x,s b a x⟩
noncomputable def nd1(k:List Int):L2.D:=.tup (k.map .int)
noncomputable def brF(rows:List (List Int))(n:Nat)(q:Int):List Int:=_root_.Q.kD (M4.lo (M5.nA (K32.fr rows) n (K32.grp rows) q) (M5.nB (K32.fr rows) n (K32.grp rows) q),M4.hi (M5.nA (K32.fr rows) n (K32.grp rows) q) (M5.nB (K32.fr rows) n (K32.grp rows) q))
noncomputable def br1(rows:List (List Int))(n:Nat)(q:Int):L2.D:=.tup [nd1 (M4.lo (M5.nA (K32.fr rows) n (K32.grp rows) q) (M5.nB (K32.fr rows) n (K32.grp rows) q)),nd1 (M4.hi (M5.nA (K32.fr rows) n (K32.grp rows) q) (M5.nB (K32.fr rows) n (K32.grp rows) q)),nd1 (M5.plc n (M5.own (K32.grp rows) q.toNat))]
noncomputable def gD(rows:List (List Int))(n:Nat)(qs:List Int):L2.D:=
 .tup [.lst ((_root_.Q.cj [] (M5.fE (K32.fr rows) n (K32.grp rows) qs) (M5.fE (K32.fr rows) n (K32.grp rows) qs)).map nd1),.lst ((_root_.Q.cj 0 (qs.map (brF rows n)) qs).map (br1 rows n))]
noncomputable def qs0(rows:List (List Int))(n:Nat):List Int:=Classical.epsilon (GrQ rows n)
theorem EY{b:Type}{F:V->b->Prop}{g:b->L2.D}(f:∀v a,F v a->Rep K H (g a) v){ks:List b}(p:Paired F ys ks):fL K H (ks.map g) ys:=by
 induction p with
 |nil=>rfl
 |cons h _ ih=>exact⟨_,_,rfl,f _ _ h,ih⟩
theorem zt{k:List Int}(h:H a=some (.tup (k.map V.int))):Rep K H (nd1 k) (.ref a):=⟨a,_,rfl,SqT.of h,fL.ints k⟩
theorem HG{p:Addr}(hf:∀p,p<n->K32.fr rows p=0\/K32.fr rows p=1)(g:K32.tj rows n H H' p):Rep K H' (gD rows n (qs0 rows n)) (.ref p):=by
 obtain⟨B,bl,F,bs,b,u,_,_,_,f,w,A,k,bk,t,j⟩:=g;have q:GrQ rows n b:=⟨f,w,A⟩;have C:GrQ rows n (qs0 rows n):=AK (p:=GrQ rows n) ⟨b,q⟩;have m:=q.perm C;have l:=M5.vN hf f;have i:=M5.Em hf f;have c:(M5.brK (K32.fr rows) n (K32.grp rows) b).map _root_.Q.kD=b.map (brF rows n):=by unfold M5.brK;rw[bD];rfl
 rw[c]at i j;have D:_root_.Q.cj [] (M5.fE (K32.fr rows) n (K32.grp rows) b) (M5.fE (K32.fr rows) n (K32.grp rows) b)=_root_.Q.cj [] (M5.fE (K32.fr rows) n (K32.grp rows) (qs0 rows n)) (M5.fE (K32.fr rows) n (K32.grp rows) (qs0 rows n)):=by
  have :=oE [] id (ys:=M5.fE (K32.fr rows) n (K32.grp rows) b) (zs:=M5.fE (K32.fr rows) n (K32.grp rows) (qs0 rows n)) (by rw[dP];exact l) (.cons _ (m.map _))
  rwa [dP,dP]at this
 have E:=oE (0:Int) (brF rows n) i m;refine⟨p,_,rfl,SqT.of u,_,_,rfl,⟨B,_,rfl,SqL.of t,?_⟩,_,_,rfl,⟨bl,_,rfl,SqL.of j,?_⟩,rfl⟩;·rw[<-D];exact EY (fun v a ⟨x,e,h⟩=>by subst e;exact zt h) (E6 l (iR k).symm k)
 ·rw[<-E];refine EY (fun v G ⟨a,x,y,z,e,o,c,r,s⟩=>?_) (E6 (d:=(0:Int)) i (by rw[ai];exact(iR bk).symm) bk);subst e;exact⟨a,_,rfl,SqT.of o,_,_,rfl,zt c,_,_,rfl,zt r,_,_,rfl,zt s,rfl⟩
noncomputable def tD(n:Nat)(R:List K82.Row):L2.D:=if R=[]then .tup [.lst [],.lst []]else gD (K32.rI R) n (qs0 (K32.rI R) n)
theorem AX{R:List K82.Row}{p:Addr}(j:∀l∈R,l.2.length=n/\∀y∈l.2,cE y=true)(i:R≠[]->m=n)(t:K32.TreeK R m H H' p):Rep K H' (tD n R) (.ref p):=by
 unfold tD;rcases t with⟨h,a,b,e,_,_,_,c,d⟩ |⟨h,g⟩;·rw[if_pos h];exact⟨p,_,rfl,SqT.of e,_,_,rfl,⟨a,_,rfl,SqL.of c,rfl⟩,_,_,rfl,⟨b,_,rfl,SqL.of d,rfl⟩,rfl⟩
 ·rw[if_neg h];rw[i h]at g;refine HG (fun q hq=>?_) g;cases R with
  |nil=>exact absurd rfl h
  |cons l R=>obtain⟨k,f⟩:=j l aL;have :=M6.Ok.at (n:=(l.2.map K32.intOf).length) ⟨rfl,(K32.sP f).2⟩ q;exact this
section
variable {G:Gam}{K:ah}{C CS:Addr}{T:Tb}
def Jp(T:Tb):Sp:=fun vs H Q _=>∃x,vs=[x]/\Kn4 H x/\Tab T H/\dW H x=true/\K22.NoC (K22.rowsOf H x) (count H x)/\∀H',Gr T H H'->Q .non H'
theorem wp_ref(d:G.fn "clash" 1=some (K22.ze C T,[])):Sat G K (Jp T) nR nj:=by
 rintro o H Q E ⟨x,rfl,f,tb,e,g,q⟩;unfold nR;change wpB G K _ _ _ [some x,none] H;walk_at "wp";refine⟨_,_,d,x,rfl,f,tb,fun _ c v gr h=>?_,fun z=>by rw[e]at z;cases z⟩;rcases h with⟨rfl,n⟩ |⟨i,j,a,l,rfl,b,k,m⟩;·rw[if_neg (by simp)];exact q c gr
 ·have :=g i j b.ij b.jn;rw[b.four]at this;cases this
def sC(T:Tb):Sp:=fun vs H Q _=>∃x,vs=[x]/\Kn4 H x/\Tab T H/\dW H x=true/\K22.NoC (K22.rowsOf H x) (count H x)/\∀H' p,Gr T H H'->H p=none->K32.TreeK (K22.rowsOf H x) (count H x) H H' p->Q (.ref p) H'
theorem wp_tree(I:G.fn "table_list" 1=some (za C T,[]))(J:G.fn "refuse_clash" 1=some (Jp T,[]))(L:G.fn "grown" 1=some (K32.vn,[])):
  Sat G K (sC T) K32.LP K32.Kx:=by
 rintro W H Q E ⟨x,rfl,O,tb,e,r,i⟩;unfold K32.LP;change wpB G K _ _ _ [some x,none] H;walk_at "wp";refine⟨_,_,I,x,rfl,O,tb,fun _ U l j gr V m F=>?_,fun z=>by rw[e]at z;cases z⟩;obtain⟨P,w,k,s⟩:=K22.wB e m F;obtain⟨A,_⟩:=K32.A5 e m s w;have c:=K32.cps_of m w;rw[k,s]at c;have q:j.length=(K22.rowsOf H x).length:=by rw[<-s,ai]
 have v:=gr.tab tb;generalize K22.rowsOf H x=R at i r A c q;generalize count H x=n at i r k c;unfold K32.Cm;walk_at "wp";refine⟨_,_,J,.ref l,rfl,P,v,w,by rw[A,k];exact r,fun B f=>?_⟩;have c:=c.gr f v;have S:=f.tab v;have d:∀p,B p=none->H p=none:=fun p=>K32.FH (gr.trans f) S;unfold K32.Ck;walk_at "wp";refine Or.inl ⟨l,j,rfl,.inl (SqL.of c.ec),?_⟩;refine kT.mpr ⟨_,rfl,?_⟩;by_cases hz:j=[];·have N:R=[]:=aV.mp (by rw[<-q,hz];rfl);rw[hz,if_pos (by simp)];refine⟨short (by simp),fun a y=>⟨short (by simp),fun b h=>⟨short (by simp),fun p hp=>?_⟩⟩⟩;have t:=av (o:=.lst []) y;have u:=av (o:=.lst []) h;have g:=av (o:=.tup [.ref a,.ref b]) hp;refine i _ p ((gr.trans f).trans (Gr.of (t.trans (u.trans g)))) (d _ ((t.trans u).free hp)) (.inl ⟨N,a,b,au,d _ y,d _ (t.free h),fun z=>?_,(u.trans g) _ _ au,g _ _ au⟩);rw[<-z,au]at h;cases h
 ·rw[if_neg (fun z=>hz (aV.mp (by have :=of_decide_eq_true z;lia)))];unfold K32.Cj;walk_at "wp";refine⟨_,_,L,l,j,n,K32.rI R,rfl,c,hz,fun D p g hp M=>?_⟩;exact i D p ((gr.trans f).trans (Gr.of g)) (d _ hp) (.inr ⟨fun z=>hz (aV.mp (by rw[q,z];rfl)),M.old d⟩)
end
end K83
namespace M8
open K32 M7 K83
theorem ex_grq(rows:List (List Int))(n:Nat):∃qs,GrQ rows n qs:=by
 induction n with
 |zero=>exact⟨[],⟨jk,fun _ h=>by cases h⟩,by simp,fun p hp=>by lia⟩
 |succ n ih=>
  obtain⟨qs,⟨nd,f⟩,g,i⟩:=ih;by_cases c:grp rows n=0\/(grp rows n:Int)∈qs
  ·refine⟨qs,⟨nd,fun q hq=>let⟨p,hp,e⟩:=f q hq;⟨p,by lia,e⟩⟩,g,fun p hp d=>?_⟩;by_cases e:p=n
   ·rw[e]at d⊢;rcases c with c|c;·exact absurd c d
    ·exact c
   ·exact i p (by lia) d
  ·rw[not_or]at c;refine⟨qs++[(grp rows n:Int)],⟨fk.mpr ⟨nd,by simp,fun a j b k e=>c.2 (by rw[bg.mp k]at e;rw[<-e];exact j)⟩,fun q hq=>?_⟩,fun z=>?_,fun p hp d=>?_⟩
   ·rcases dh.mp hq with hq|hq;·obtain⟨p,hp,e⟩:=f q hq;exact⟨p,by lia,e⟩
    ·exact⟨n,by lia,bg.mp hq⟩
   ·rcases dh.mp z with z|z;·exact g z
    ·have :=bg.mp z;lia
   ·by_cases e:p=n;·rw[e];simp
    ·exact cJ _ (i p (by lia) d)
theorem sG(rows:List (List Int))(n:Nat):GrQ rows n (qs0 rows n):=AK (ex_grq rows n)
noncomputable def nds(rows:List (List Int))(n:Nat):List (List Int):=M5.fE (fr rows) n (grp rows) (qs0 rows n)
noncomputable abbrev Tri:=List Int×List Int×List Int
noncomputable def tri(rows:List (List Int))(n p:Nat):Tri:=(M4.lo (js rows n p) (below rows n p),M4.hi (js rows n p) (below rows n p),M5.plc n (M5.own (grp rows) (grp rows p)))
noncomputable def triQ(rows:List (List Int))(n:Nat)(q:Int):Tri:=(M4.lo (M5.nA (fr rows) n (grp rows) q) (M5.nB (fr rows) n (grp rows) q),M4.hi (M5.nA (fr rows) n (grp rows) q) (M5.nB (fr rows) n (grp rows) q),M5.plc n (M5.own (grp rows) q.toNat))
noncomputable def trs(rows:List (List Int))(n:Nat):List Tri:=(qs0 rows n).map (triQ rows n)
noncomputable def key(x:Tri):List Int:=_root_.Q.kD (x.1,x.2.1)
noncomputable def triD(x:Tri):L2.D:=.tup [nd1 x.1,nd1 x.2.1,nd1 x.2.2]
noncomputable def qh(xs:List (List Int)):List (List Int):=_root_.Q.cj [] xs xs
noncomputable def GL(xs:List Tri):List Tri:=_root_.Q.cj ([],[],[]) (xs.map key) xs
theorem xy{a b:Type}(d:a)(e:b)(g:a->b){ps:List (List Int)}{ys:List a}(nd:ps.Nodup)(c:ps.length=ys.length):(_root_.Q.cj d ps ys).map g=_root_.Q.cj e ps (ys.map g):=by unfold _root_.Q.cj;rw[bD];refine cO fun i hi=>?_;have :=uQ nd hi;show g (ys.getD i d)=_;rw[ae,ae,aA,aa (by lia)];rfl
section
variable {rows rows2:List (List Int)}{n:Nat}
theorem gX(t:Tbl rows n){v:List Int}:v∈nds rows n↔Fits rows n v:=by
 have q:=sG rows n;unfold nds M5.fE;rw[aH];constructor
 ·rintro(rfl|h);·exact wq t
  ·obtain⟨x,a,rfl⟩:=aF.mp h;obtain⟨p,hp,rfl⟩:=q.1.2 x a;exact Ea t (p:=p) fun z=>q.2.1 (by rw[z]at a;exact a)
 ·intro h;rcases Fc t h with h|⟨p,hp,b,h⟩;·exact .inl h
  ·exact .inr (aF.mpr ⟨_,q.2.2 p hp b,h.symm⟩)
theorem uK(t:Tbl rows n){x:Tri}:x∈trs rows n↔∃p,p<n/\grp rows p≠0/\x=tri rows n p:=by
 have q:=sG rows n;unfold trs;rw[aF];constructor;·rintro⟨y,a,rfl⟩;obtain⟨p,hp,rfl⟩:=q.1.2 y a;exact⟨p,hp,fun z=>q.2.1 (by rw[z]at a;exact a),rfl⟩
 ·rintro⟨p,hp,b,rfl⟩;exact⟨_,q.2.2 p hp b,rfl⟩
theorem ni(t:Tbl rows n):(nds rows n).Nodup:=M5.vN (fun p _=>t.f01 p) (sG rows n).1
theorem Di(t:Tbl rows n):((trs rows n).map key).Nodup:=by have :=M5.Em (fun p _=>t.f01 p) (sG rows n).1;unfold M5.brK at this;rw[bD]at this;unfold trs;rw[bD];exact this
theorem gD_is(t:Tbl rows n):gD rows n (qs0 rows n)=.tup [.lst ((qh (nds rows n)).map nd1),.lst ((GL (trs rows n)).map triD)]:=by
 unfold gD GL;have nd:=Di t;have e:(trs rows n).map key=(qs0 rows n).map (brF rows n):=by unfold trs;rw[bD];rfl
 rw[e]at nd⊢;have :=xy (0:Int) (([],[],[]):Tri) (triQ rows n) (ys:=qs0 rows n) nd (by simp);unfold trs;rw[<-this,bD];rfl
structure Iso(rows rows2:List (List Int))(n:Nat)(φ:List Int->List Int)(o oi:Nat->Nat):Prop where
 t:Tbl rows n
 t2:Tbl rows2 n
 lt:∀j,j<n->o j<n
 lti:∀p,p<n->oi p<n
 l1:∀j,j<n->oi (o j)=j
 l2:∀p,p<n->o (oi p)=p
 fit:∀v,Fits rows n v->Fits rows2 n (φ v)
 tif:∀w,Fits rows2 n w->∃v,Fits rows n v/\w=φ v
 inj:∀u v,M6.Ok n u->M6.Ok n v->φ u=φ v->u=v
 ed:∀j v,j<n->End rows n (o j) v->End rows2 n j (φ v)
 cls:∀i j,i<n->j<n->(Cls rows2 i j↔Cls rows (o i) (o j))
 nz:∀j,j<n->(grp rows2 j≠0↔grp rows (o j)≠0)
noncomputable def psi(n:Nat)(φ:List Int->List Int)(o:Nat->Nat)(x:Tri):Tri:=(M4.lo (φ x.1) (φ x.2.1),M4.hi (φ x.1) (φ x.2.1),M5.plc n fun i=>decide ((o i:Int)∈x.2.2))
variable {φ:List Int->List Int}{o oi:Nat->Nat}
theorem Iso.nodes(I:Iso rows rows2 n φ o oi):((nds rows n).map φ).Perm (nds rows2 n):=by
 refine K84.uO ?_ (ni I.t2) fun w=>?_;·refine cZ.mpr ?_;have nd:(nds rows n).Pairwise (fun a b=>a≠b):=ni I.t;refine(mn.mp nd).imp ?_;rintro a b ⟨d,g,f⟩ e;exact f (I.inj a b ((gX I.t).mp d).1 ((gX I.t).mp g).1 e)
 ·rw[gX I.t2,aF];constructor;·rintro⟨v,c,rfl⟩;exact I.fit v ((gX I.t).mp c)
  ·intro h;obtain⟨v,c,rfl⟩:=I.tif w h;exact⟨v,(gX I.t).mpr c,rfl⟩
theorem KG{P:Nat->Bool}{x:Int}(h:x∈M5.plc n P):∃i,i<n/\P i=true/\x=(i:Int):=by obtain⟨i,hi,rfl⟩:=aF.mp h;have :=dO.mp hi;exact⟨i,aY.mp this.1,this.2,rfl⟩
theorem yb{P a:Nat->Bool}(h:∀i,i<n->P i=a i):M5.plc n P=M5.plc n a:=by unfold M5.plc;rw[u7 fun i hi=>h i (aY.mp hi)]
theorem Iso.tri(I:Iso rows rows2 n φ o oi)(f:j<n)(hz:grp rows (o j)≠0):M8.tri rows2 n j=psi n φ o (M8.tri rows n (o j)):=by
 have hp:=I.lt j f;have h:=(I.nz j f).mpr hz;have a:=B8 I.t hp hz;have b:=sU I.t hp hz;have ne:=Ad I.t (rows:=rows) hp;have g:φ (js rows n (o j))≠φ (below rows n (o j)):=fun e=>ne (I.inj _ _ a.ok b.ok e);have c:=Ls I.t2 f h (I.ed j _ f a) (I.ed j _ f b) g;have d:M4.lo (φ (M4.lo (js rows n (o j)) (below rows n (o j)))) (φ (M4.hi (js rows n (o j)) (below rows n (o j))))=M4.lo (φ (js rows n (o j))) (φ (below rows n (o j)))/\M4.hi (φ (M4.lo (js rows n (o j)) (below rows n (o j)))) (φ (M4.hi (js rows n (o j)) (below rows n (o j))))=M4.hi (φ (js rows n (o j))) (φ (below rows n (o j))):=by
  unfold M4.lo M4.hi;rw[_root_.Q.kP ne];cases _root_.Q.llt (below rows n (o j)) (js rows n (o j))with
  |false=>exact⟨rfl,rfl⟩
  |true=>exact⟨Fv (bA g),FG (bA g)⟩
 unfold psi M8.tri;refine Prod.ext (c.1.trans d.1.symm) (Prod.ext (c.2.trans d.2.symm) (yb fun i hi=>?_));rw[cz,decide_eq_true_eq,M5.ri (I.lt i hi)];unfold M5.own;rw[decide_eq_true_eq,decide_eq_true_eq,I.t2.cls,I.t.cls];exact I.cls i j hi f
theorem Iso.tris(I:Iso rows rows2 n φ o oi):((trs rows n).map (psi n φ o)).Perm (trs rows2 n):=by
 have E:(trs rows2 n).Nodup:=by have :=Di I.t2;exact(cZ.mp this).imp fun h e=>h (by rw[e])
 refine K84.uO ?_ E fun x=>?_
 ·unfold trs;rw[bD];refine cZ.mpr ?_;have q:=sG rows n;have nd:(qs0 rows n).Pairwise (fun a b=>a≠b):=q.1.1;refine(mn.mp nd).imp ?_;rintro a b ⟨l,m,B⟩ e;obtain⟨p,hp,rfl⟩:=q.1.2 a l;obtain⟨d,i,rfl⟩:=q.1.2 b m;have F:grp rows p≠0:=fun z=>q.2.1 (by rw[z]at l;exact l);have G:grp rows d≠0:=fun z=>q.2.1 (by rw[z]at m;exact m);have e:psi n φ o (M8.tri rows n p)=psi n φ o (M8.tri rows n d):=e;have g:=I.lti p hp;have s:=I.lti d i;have v:=I.tri g (by rw[I.l2 p hp];exact F);have w:=I.tri s (by rw[I.l2 d i];exact G);rw[I.l2 p hp]at v;rw[I.l2 d i]at w;have t:M8.tri rows2 n (oi p)=M8.tri rows2 n (oi d):=by rw[v,w,e]
  have A:grp rows2 (oi p)=grp rows2 (oi d):=by
   apply aN
   intro C;have :=M4.yL (f:=fr rows2) (n:=n) (grp:=grp rows2) (fun p _=>I.t2.f01 p) g s C;apply this;show M4.lo (js rows2 n (oi p)) (below rows2 n (oi p))++M4.hi (js rows2 n (oi p)) (below rows2 n (oi p))=M4.lo (js rows2 n (oi d)) (below rows2 n (oi d))++M4.hi (js rows2 n (oi d)) (below rows2 n (oi d));rw[show M4.lo (js rows2 n (oi p)) (below rows2 n (oi p))=M4.lo (js rows2 n (oi d)) (below rows2 n (oi d))from congrArg Prod.fst t,show M4.hi (js rows2 n (oi p)) (below rows2 n (oi p))=M4.hi (js rows2 n (oi d)) (below rows2 n (oi d))from congrArg (fun x:Tri=>x.2.1) t]
  have c:=(I.cls _ _ g s).mp (I.t2.cls.mp A);rw[I.l2 p hp,I.l2 d i]at c;exact B (by rw[I.t.cls.mpr c])
 ·rw[uK I.t2,aF];constructor;·rintro⟨y,D,rfl⟩;obtain⟨p,hp,k,rfl⟩:=(uK I.t).mp D;have g:=I.lti p hp;refine⟨oi p,g,(I.nz _ g).mpr (by rw[I.l2 p hp];exact k),?_⟩;rw[I.tri g (by rw[I.l2 p hp];exact k),I.l2 p hp]
  ·rintro⟨j,r,k,rfl⟩;have u:=(I.nz j r).mp k;exact⟨_,(uK I.t).mpr ⟨o j,I.lt j r,u,rfl⟩,(I.tri r u).symm⟩
end
end M8
namespace M9
open K32 M7 M8
section
variable {rows rows2:List (List Int)}{n:Nat}
theorem ve(t:Tbl rows n):grp rows p≠0↔∃r∈rows,∃s∈rows,r.getD p 0≠s.getD p 0:=by
 rw[gnz];constructor;·rintro⟨r,a,h⟩;exact⟨r,a,_,t.first,lr.mp h⟩
 ·rintro⟨r,a,s,b,h⟩;by_cases e:r.getD p 0=fr rows p;·exact⟨s,b,lr.mpr fun z=>h (e.trans z.symm)⟩
  ·exact⟨r,a,lr.mpr e⟩
theorem K4(t:Tbl rows n)(t2:Tbl rows2 n)(h:∀r,r∈rows↔r∈rows2):Iso rows rows2 n id id id where
 t:=t
 t2:=t2
 lt:=fun _ h=>h
 lti:=fun _ h=>h
 l1:=fun _ _=>rfl
 l2:=fun _ _=>rfl
 fit:=fun v f=>f.sub fun r a=>(h r).mp a
 tif:=fun w f=>⟨w,f.sub fun r a=>(h r).mpr a,rfl⟩
 inj:=fun _ _ _ _ e=>e
 ed:=fun j v d e=>⟨e.ok,fun q hq c=>by
  obtain⟨r,a,x⟩:=e.own q hq fun r a s b=>c r ((h r).mp a) s ((h s).mp b);exact⟨r,(h r).mp a,x⟩,fun q hq c=>by
  obtain⟨r,a,s,b,x⟩:=e.off q hq fun z=>c fun r a s b=>z r ((h r).mpr a) s ((h s).mpr b);exact⟨r,(h r).mp a,s,(h s).mp b,x⟩⟩
 cls:=fun i j _ _=>⟨fun c r a s b=>c r ((h r).mp a) s ((h s).mp b),fun c r a s b=>c r ((h r).mpr a) s ((h s).mpr b)⟩
 nz:=fun j _=>by rw[ve t,ve t2];exact⟨fun⟨r,a,s,b,x⟩=>⟨r,(h r).mpr a,s,(h s).mpr b,x⟩,fun⟨r,a,s,b,x⟩=>⟨r,(h r).mp a,s,(h s).mp b,x⟩⟩
end
end M9
namespace M9
open K32 K83 M7 M8 L2
noncomputable def trD(rows:List (List Int))(n:Nat):L2.D:=.tup [.lst ((qh (nds rows n)).map nd1),.lst ((GL (trs rows n)).map triD)]
theorem xZ{xs ys:List (List Int)}(nd:xs.Nodup)(p:xs.Perm ys):qh xs=qh ys:=by
 have :=oE [] id (ys:=xs) (zs:=ys) (by rw[dP];exact nd) p
 rwa [dP,dP]at this
theorem GK{xs ys:List Tri}(nd:(xs.map key).Nodup)(p:xs.Perm ys):GL xs=GL ys:=oE _ key nd p
theorem vk{xs:List (List Int)}(nd:xs.Nodup):(qh xs).Perm xs:=mz [] nd rfl
theorem lo_lo{a b:List Int}:M4.lo (M4.lo a b) (M4.hi a b)=M4.lo a b/\M4.hi (M4.lo a b) (M4.hi a b)=M4.hi a b:=by
 by_cases h:a=b;·subst h;unfold M4.lo M4.hi;split <;>simp_all
 ·have t:=_root_.Q.kP h;cases c:_root_.Q.llt b a with
  |true=>rw[c]at t;have d:M4.lo a b=b:=if_pos c;have e:M4.hi a b=a:=if_neg (by rw[t];decide);rw[d,e];exact⟨if_neg (by rw[t];decide),if_pos c⟩
  |false=>rw[c]at t;have d:M4.lo a b=a:=if_neg (by rw[c];decide);have e:M4.hi a b=b:=if_pos t;rw[d,e];exact⟨d,e⟩
theorem psi_id{a b:List Int}{P:Nat->Bool}:psi n id id (M4.lo a b,M4.hi a b,M5.plc n P)=(M4.lo a b,M4.hi a b,M5.plc n P):=by
 unfold psi;dsimp only[id];rw[lo_lo.1,lo_lo.2];refine Prod.ext rfl (Prod.ext rfl ?_);refine yb fun i hi=>?_;rw[cz,decide_eq_true_eq];constructor;·intro h;obtain⟨j,_,c,e⟩:=KG h;rw[show i=j by lia];exact c
 ·intro h;unfold M5.plc;exact aF.mpr ⟨i,dO.mpr ⟨aY.mpr hi,h⟩,rfl⟩
theorem Jd{a:List (List Int)}(t:Tbl rows n)(d:Tbl a n)(h:∀r,r∈rows↔r∈a):trD rows n=trD a n:=by
 have I:=K4 t d h;have b:=I.nodes;rw[dP]at b;have pt:=I.tris;have e:(trs rows n).map (psi n id id)=trs rows n:=by
  conv =>rhs;rw[<-dP (trs rows n)]
  refine cO fun x c=>?_;obtain⟨p,_,_,rfl⟩:=(uK t).mp c;exact psi_id
 rw[e]at pt;unfold trD;rw[xZ (ni t) b,GK (Di t) pt]
theorem Fi(rows:List (List Int))(n:Nat):(nds rows n).length<=n+1:=by have :=M5.z6 (sG rows n).1;unfold nds M5.fE;simp;lia
end M9
namespace K34
open PySem PySem.Spec PyProof.Rows L2 R Cp Lt Kc K21 K22 Lm M5 K32 K24
structure Tn(H:Hp)(t:Addr)(nf:Nat->Str)(n:Nat)(ys:List V)(rows:List (List Int)):Prop where
 et:H t=some (.lst ys)
 ln:rows.length=ys.length
 row:∀(i:Nat) y,ys[i]? =some y->∃b r,y=.ref b/\H b=some (.tup [.str (nf i),.ref r])/\H r=some (.tup ((rows.getD i []).map V.int))
 ok:∀i,iu (nf i)=true
 inj:∀i j,i<ys.length->j<ys.length->nf i=nf j->i=j
 len:ys.length<=40
 n10:n<=60
 rd:∀r∈rows,M6.Ok n r
 mis:∀i j,i<j->j<n->M6.Mis rows i j
section
variable {H H':Hp}{t:Addr}{nf:Nat->Str}{n:Nat}{ys:List V}{rows:List (List Int)}{T:Tb}
theorem Tn.get(d:Tn H t nf n ys rows)(h:i<ys.length):rows.getD i []∈rows:=by rw[ae,aa (by rw[d.ln];exact h)];exact bo _
theorem Tn.gr(d:Tn H t nf n ys rows)(g:Gr T H H')(a:Tab T H):Tn H' t nf n ys rows:=
 {d with et:=g.lst a d.et,row:=fun i y e=>let⟨b,r,h1,h2,h3⟩:=d.row i y e;⟨b,r,h1,g.ur a h2,g.ur a h3⟩}
theorem Tn.same(d:Tn H t nf n ys rows)(s:aQ H H'):Tn H' t nf n ys rows:=
 {d with et:=s _ _ d.et,row:=fun i y e=>let⟨b,r,h1,h2,h3⟩:=d.row i y e;⟨b,r,h1,s _ _ h2,s _ _ h3⟩}
theorem Tn.dr(d:Tn H t nf n ys rows):Dr H nf n ys:=fun i y e=>by obtain⟨b,r,a,c,f⟩:=d.row i y e;have o:=d.rd _ (d.get (aC.mp e).1);refine⟨b,r,_,a,c,f,by rw[ai];exact o.1,fun z h=>?_⟩;obtain⟨x,g,rfl⟩:=aF.mp h;rcases o.2 x g with rfl|rfl<;>rfl
theorem Tn.tab(d:Tn H t nf n ys rows):Kn4 H (.ref t)/\dW H (.ref t)=true/\(∀y∈ys,dj H y=true)/\∀y∈ys,cy H y=n:=
 wz d.ok d.inj d.et d.dr (by have :=d.len;lia) (by have :=d.n10;lia)
theorem Tn.count(d:Tn H t nf n ys rows)(h:ys≠[]):Cp.count H (.ref t)=n:=by
 show(match eQ (H t)with |some (y::_)=>cy H y|_=>0)=n;rw[d.et];cases ys with
 |nil=>exact absurd rfl h
 |cons y r=>exact d.tab.2.2.2 y (.head _)
theorem Tn.perm(d:Tn H t nf n ys rows):(rowsOf H (.ref t)).Perm (ys.map (cd H)):=by
 have nd:(ys.map (aU H)).Nodup:=by obtain⟨a,i,e,b,f,g,c,h⟩:=eV d.tab.2.1;cases e;rw[show eQ (H t)=some ys by rw[d.et];rfl]at b;cases b;exact c
 unfold rowsOf;rw[uL (show eQ (H t)=some ys by rw[d.et];rfl)];exact(_root_.Q.gv V.non nd (by simp)).map (cd H)
theorem Tn.cds(d:Tn H t nf n ys rows)(x:Str×List V):x∈ys.map (cd H)↔∃i,i<ys.length/\x=(nf i,(rows.getD i []).map V.int):=by
 constructor;·intro h;obtain⟨y,g,rfl⟩:=aF.mp h;obtain⟨i,e⟩:=bX.mp g;obtain⟨b,r,rfl,a,c⟩:=d.row i y e;exact⟨i,(aC.mp e).1,Dx a c⟩
 ·rintro⟨i,hi,rfl⟩;have e:=aa hi;obtain⟨b,r,f,a,c⟩:=d.row i _ e;refine aF.mpr ⟨ys[i],bo hi,?_⟩;rw[f];exact Dx a c
theorem BR(z:List Int):(z.map V.int).map intOf=z:=by
 rw[bD]
 conv =>rhs;rw[<-dP z]
 rfl
theorem Tn.mem(d:Tn H t nf n ys rows)(r:List Int):r∈K32.rI (rowsOf H (.ref t))↔r∈rows:=by
 unfold K32.rI;rw[(d.perm.map _).mem_iff];constructor;·intro h;obtain⟨x,a,rfl⟩:=aF.mp h;obtain⟨i,hi,rfl⟩:=(d.cds x).mp a;rw[BR];exact d.get hi
 ·intro h;obtain⟨i,hi,rfl⟩:=cH.mp h;refine aF.mpr ⟨(nf i,(rows.getD i []).map V.int),(d.cds _).mpr ⟨i,by rw[<-d.ln];exact hi,rfl⟩,?_⟩;rw[BR,ae,aa hi];rfl
theorem Tn.tbl(d:Tn H t nf n ys rows)(h:ys≠[]):M7.Tbl rows n:=⟨d.rd,fun z=>h (aV.mp (by rw[<-d.ln,z];rfl)),d.mis⟩
theorem Fe{r:Str×List V}{z:List Int}(e:r.2=z.map V.int)(i:Nat)(h:i<z.length):Hj i r=z.getD i 0:=by unfold Hj;rw[e,aM,ae,aA,ae,aa h];rfl
theorem Tn.noc(d:Tn H t nf n ys rows):NoC (rowsOf H (.ref t)) (Cp.count H (.ref t)):=fun a b j h=>by
 rw[gJ];intro z;rw[K24.wm]at z;have mem:∀r∈rowsOf H (.ref t),∃q∈rows,r.2=q.map V.int:=fun r c=>by obtain⟨i,hi,rfl⟩:=(d.cds r).mp (d.perm.mem_iff.mp c);exact⟨_,d.get hi,rfl⟩
 have p:ys≠[]:=fun e=>by obtain⟨r,c,_⟩:=z 0 0 (.inl rfl) (.inl rfl);obtain⟨q,hq,_⟩:=mem r c;have :=d.ln;rw[e]at this;rw[aV.mp this]at hq;cases hq
 rw[d.count p]at h;obtain⟨u,v,l,m,k⟩:=d.mis a b j h;obtain⟨r,c,f,g⟩:=z u v l m;obtain⟨q,hq,e⟩:=mem r c;have o:=d.rd q hq;rw[Fe e a (by rw[o.1];lia)]at f;rw[Fe e b (by rw[o.1];lia)]at g;exact k q hq ⟨f,g⟩
theorem tree_n{Q:VK}{E:XS}(d:Tn H t nf n ys rows)(tb:Tab T H)(q:∀H' p,Gr T H H'->(∃xs,H' p=some (.tup xs))->Rep K H' (if ys=[]then .tup [.lst [],.lst []]else M9.trD rows n) (.ref p)->Q (.ref p) H')(s:L2.St):K83.sC T [.ref t] H Q (E s):=by
 refine⟨_,rfl,d.tab.1,tb,d.tab.2.1,d.noc,fun H' p gr w tk=>q H' p gr (by
  rcases tk with⟨_,a,b,g,_⟩ |⟨_,B,bl,A,bs,C,g,_⟩;·exact⟨_,g⟩
  ·exact⟨_,g⟩) ?_⟩
 have e:rowsOf H (.ref t)=[]↔ys=[]:=by have :=d.perm.length_eq;rw[ai]at this;rw[<-aV,this,aV]
 by_cases c:ys=[]
 ·rw[if_pos c];have :=K83.AX (K:=K) (n:=0) (fun l f=>by rw[e.mpr c]at f;cases f) (fun h=>absurd (e.mpr c) h) tk;unfold K83.tD at this
  rwa [if_pos (e.mpr c)]at this
 ·rw[if_neg c];have m:=d.tbl c;have u:M7.Tbl (K32.rI (rowsOf H (.ref t))) n:=⟨fun r k=>m.ok r ((d.mem r).mp k),fun z=>?_,fun i j a b=>(m.mis i j a b).sub fun r k=>(d.mem r).mp k⟩
  ·have :=K83.AX (K:=K) (n:=n) (fun l f=>?_) (fun _=>d.count c) tk;·unfold K83.tD at this;rw[if_neg (fun z=>c (e.mp z)),M8.gD_is u]at this;rw[<-M9.Jd u m d.mem];exact this
   ·obtain⟨i,hi,rfl⟩:=(d.cds l).mp (d.perm.mem_iff.mp f);have o:=d.rd _ (d.get hi);refine⟨by rw[ai];exact o.1,fun y c=>?_⟩;obtain⟨x,v,rfl⟩:=aF.mp c;rcases o.2 x v with rfl|rfl<;>rfl
  ·unfold K32.rI at z;exact c (e.mp (List.map_eq_nil_iff.mp z))
end
end K34
namespace K34
open PySem PySem.Spec PyProof.Rows L2 R Cp Lt Kc K21 K22 Lm M5 K32
theorem pr_mk{c d:Type}{F:c->d->Prop}:∀{l:List c}{m:List d},l.length=m.length->(∀(j:Nat) a b,l[j]? =some a->m[j]? =some b->F a b)->Paired F l m
 | [],[],_,_=>.nil
 |a::l,b::m,h,f=>.cons (f 0 a b rfl rfl) (pr_mk (i4 h) fun j x y e g=>f (j+1) x y (by simpa using e) (by simpa using g))
theorem ya:∀{ks:List Int}{ys:List V},fL K H (ks.map L2.D.int) ys->ys=ks.map V.int
 | [],ys,h=>h
 |k::ks,ys,h=>by obtain⟨x,r,rfl,a,b⟩:=h;obtain rfl:x=.int k:=a;rw[ya b];rfl
theorem zQ{k:List Int}{v:V}(h:Rep K H (K83.nd1 k) v):∃a,v=.ref a/\SqT K H a (k.map V.int):=by obtain⟨a,c,rfl,hq,b⟩:=h;rw[ya b]at hq;exact⟨a,rfl,hq⟩
end K34
namespace K75
open PySem R
noncomputable def zG:List Str:=["thing","count"]
noncomputable def qY:List Str:=["thing","count"]
noncomputable def oj:CB:=
  (.cons (.ret (.call "is_reading" (.cons (.idx (.var 0) (.con (.int 1))) .nil)))
  .nil)
noncomputable def oo:CB:=
  (.cons (.iff (.or (.not (.call "is_whole" (.cons (.idx (.var 0) (.con (.int 0))) .nil))) (.not (.chain .LtE .Lt (.con (.int 0)) (.idx (.var 0) (.con (.int 0))) (.var 1))))
  (.cons (.ret (.con (.bool false)))
  .nil)
  .nil)
  oj)
noncomputable def rQ:CB:=
  (.cons (.iff (.or (.not (.bfn .isinstance (.cons (.var 0) (.cons (.ty .tuple) .nil)))) (.cmp .NotEq (.bfn .len (.cons (.var 0) .nil)) (.con (.int 2))))
  (.cons (.ret (.con (.bool false)))
  .nil)
  .nil)
  oo)
noncomputable def vE:List Str:=["thing","count"]
noncomputable def nr:List Str:=["thing","count"]
noncomputable def l7:CB:=
  (.cons (.ret (.cmp .Eq (.bfn .len (.cons (.bfn .set (.cons (.comp ["place","elder"] [] (.tup (.cons (.name 0) (.cons (.name 1) .nil))) (.seq (.var 0)) .no (.var 0)) .nil)) .nil)) (.bfn .len (.cons (.var 0) .nil))))
  .nil)
noncomputable def ma:CB:=
  (.cons (.iff (.not (.bfn .all (.cons (.comp ["part"] [1] (.name 0) (.seq (.var 0)) .no (.call "is_telling" (.cons (.var 0) (.cons (.var 1) .nil)))) .nil)))
  (.cons (.ret (.con (.bool false)))
  .nil)
  .nil)
  l7)
noncomputable def oz:CB:=
  (.cons (.iff (.not (.bfn .isinstance (.cons (.var 0) (.cons (.ty .list) .nil))))
  (.cons (.ret (.con (.bool false)))
  .nil)
  .nil)
  ma)
noncomputable def uv:List Str:=["table","tellings"]
noncomputable def mK:List Str:=["table","tellings","count"]
noncomputable def kW:CB:=
  (.cons (.iff (.not (.call "are_tellings" (.cons (.var 1) (.cons (.var 2) .nil))))
  .hole
  .nil)
  .nil)
noncomputable def kX:CB:=
  (.cons (.iff (.cmp .Eq (.bfn .len (.cons (.var 0) .nil)) (.con (.int 0)))
  .hole
  .nil)
  kW)
noncomputable def mM:CB:=
  (.cons (.asg (.name 2) (.call "place_count" (.cons (.var 0) .nil)))
  kX)
noncomputable def Bi:List Str:=["nodes","tellings"]
noncomputable def tK:List Str:=["nodes","tellings"]
noncomputable def tW:CB:=
  (.cons (.ret (.comp ["node"] [1] (.name 0) (.seq (.var 0)) (.yes (.bfn .all (.cons (.comp ["place","elder"] [0] (.tup (.cons (.name 0) (.cons (.name 1) .nil))) (.seq (.var 1)) .no (.cmp .Eq (.idx (.var 2) (.var 0)) (.var 1))) .nil))) (.var 0)))
  .nil)
end K75
namespace K75
open PySem PySem.Spec PyProof.Rows L2 R Cp Lt Kc K21 K22 Lm M5 K32 K34
def TgV(H:Hp)(z:V)(q:Nat×Int):Prop:=∃a,z=V.ref a/\H a=some (.tup [.int q.1,.int q.2])
structure Tls(H:Hp)(l:Addr)(zs:List V)(ts:List (Nat×Int)):Prop where
 hl:H l=some (.lst zs)
 pr:Paired (TgV H) zs ts
theorem Tls.same(d:Tls H l zs ts)(s:aQ H H'):Tls H' l zs ts:=⟨s _ _ d.hl,Paired.jM d.pr fun _ _ ⟨a,e,h⟩=>⟨a,e,s _ _ h⟩⟩
theorem Tls.gr{T:Tb}(d:Tls H l zs ts)(g:Gr T H H')(b:Tab T H):Tls H' l zs ts:=⟨g.lst b d.hl,Paired.jM d.pr fun _ _ ⟨a,e,h⟩=>⟨a,e,g.ur b h⟩⟩
structure Vt(n:Nat)(ts:List (Nat×Int)):Prop where
 ok:∀q∈ts,q.1<n/\(q.2=0\/q.2=1)
 nd:(ts.map (·.1)).Nodup
theorem Vt.len(v:Vt n ts):ts.length<=n:=by
 have :=L2.qR v.nd (m:=aG n) fun x a=>by obtain⟨q,hq,rfl⟩:=aF.mp a;exact aY.mpr (v.ok q hq).1
 rw[ai,ba]at this;exact this
theorem iS{a b:Type}{P:a->b->Prop}{xs:List a}{ys:List b}(h:Paired P xs ys){x:a}(e:xs[i]? =some x):∃y,ys[i]? =some y/\P x y:=K83.pr_at h e
def spTg:Sp:=fun vs H Q _=>∃(a:Addr)(n p:Nat)(e:Int),vs=[.ref a,.int n]/\H a=some (.tup [.int p,.int e])/\p<n/\(e=0\/e=1)/\∀H',aQ H H'->Q (.bl true) H'
theorem wp_tg(d:G.fn "is_whole" 1=some (spB isWhole,[]))(f:G.fn "is_reading" 1=some (spB cE,[])):Sat G K spTg rQ qY:=by rintro k H Q E ⟨a,n,p,e,rfl,b,hp,g,q⟩;unfold rQ;change wpB G K _ _ _ [some (.ref a),some (.int n)] H;walk_at "wp";refine isi (DW b) .tuple ⟨_,rfl,?_⟩;rw[show tyName H (.ref a)="tuple" by show jC (H a)=_;rw[b];rfl,if_neg (by decide)];refine .inl ⟨a,_,rfl,.inr (SqT.of b),Fh.mpr ⟨_,rfl,?_⟩⟩;rw[if_neg (by simp)];unfold oo;walk_at "wp";refine⟨_,_,d,.inr (.inl ⟨a,_,0,_,rfl,rfl,SqT.of b,rfl,.int p,rfl,zU,fun i c=>⟨_,rfl,?_⟩⟩)⟩;rw[show(!isWhole (.int p))=false from rfl,if_neg (by decide)];refine .inr (.inl ⟨a,_,0,_,rfl,rfl,SqT.of (c _ _ b),rfl,?_⟩);walk_at "wp";rw[if_pos (decide_eq_true (by lia:(0:Int)<=p)),if_neg (by rw[decide_eq_true (by lia:(p:Int)<n)];decide)];unfold oj;walk_at "wp";refine⟨_,_,f,.inr (.inl ⟨a,_,1,_,rfl,rfl,SqT.of (c _ _ b),rfl,.int e,rfl,zU,fun j h=>?_⟩)⟩;rw[show cE (.int e)=true by rcases g with rfl|rfl<;>rfl];exact q _ (c.trans h)
theorem zR{ks:List Key}(nd:ks.Nodup):(_root_.Q.met ks).length=ks.length:=by have a:=_root_.Q.DP ks;have b:=L2.qR nd (m:=_root_.Q.met ks) fun x c=>_root_.Q.kO.mpr c;lia
def spAt:Sp:=fun vs H Q _=>∃(l:Addr)(n:Nat)(zs:List V)(ts:List (Nat×Int)),vs=[.ref l,.int n]/\Tls H l zs ts/\Vt n ts/\n<=60/\∀H',aQ H H'->Q (.bl true) H'
theorem wp_at(N:G.fn "is_telling" 2=some (spTg,[])):Sat G K spAt oz nr:=by
 rintro r H a3 a2 ⟨l,n,j,f,rfl,d,v,a4,q⟩;have F:j.length=f.length:=K83.iR d.pr;have tl:=v.len;unfold oz;change wpB G K _ _ _ [some (.ref l),some (.int n)] H;walk_at "wp";refine isi (DX d.hl) .list ⟨_,rfl,?_⟩;rw[show tyName H (.ref l)="list" by show jC (H l)=_;rw[d.hl];rfl,if_neg (by decide)];unfold ma;walk_at "wp";refine dH (cT rfl (SqL.of d.hl) (eJ dZ (eW (by lia)) (fun I y=>SqL.of (y _ _ d.hl)) (fun i v _=>v=.bl true) (fun _ _ _ _ _ h=>h) (fun m=>∃u,m=[u,some (.int n)]) ⟨none,rfl⟩ ?_ ?_));·rintro i a0 m L R hi ⟨u,rfl⟩ b x k;obtain⟨p,hq,a,rfl,t⟩:=iS d.pr x;obtain⟨Y,Z⟩:=v.ok p (aI hq);walk_at "wp";exact⟨_,_,N,a,n,p.1,p.2,rfl,b _ _ t,Y,Z,fun s g=>k _ _ _ ⟨_,rfl⟩ g rfl⟩
 intro r J l2 W P s2 S;have e:r=((aG j.length).map fun _=>true).map V.bl:=by rw[<-W];exact bool_list rfl P
 subst e;refine⟨l2,_,rfl,SqL.of au,_,rfl,?_⟩;rw[show(((aG j.length).map fun _=>true).all id)=true by rw[o9];simp,if_neg (by decide)];have b:=s2.trans (av (o:=.lst (((aG j.length).map fun _=>true).map V.bl)) S);generalize upd J l2 (.lst (((aG j.length).map fun _=>true).map V.bl))=L at b;unfold l7;walk_at "wp";refine dH (cT rfl (SqL.of (b _ _ d.hl)) (eJ dZ (eW (by lia)) (fun I y=>SqL.of (y _ _ (b _ _ d.hl))) (fun i v _=>v=.int (((f.map (·.1)).getD i 0:Nat):Int)) (fun _ _ _ _ _ h=>h) (fun m=>∃u w,m=[u,w]) ⟨none,none,rfl⟩ ?_ ?_));·rintro i a0 m s R hi ⟨u,w,rfl⟩ g x k;obtain⟨p,hq,a,rfl,t⟩:=iS d.pr x;refine⟨a,_,rfl,SqT.of ((b.trans g) _ _ t),rfl,_,_,rfl,_,_,rfl,rfl,_,rfl,k _ _ _ ⟨_,_,rfl⟩ (aQ.refl _) ?_⟩;rw[ae,aA,hq];rfl
 intro r s D X Q g T;have M:r=(f.map fun q=>(dX (q.1:Int):Key)).map kV:=by
  rw[bD];apply bS;·rw[X,ai,F]
  ·intro i O B;rw[Q i _ (aa O),bH,ae,aA,aa (by rw[ai]at B;exact B)];rfl
 subst M;refine⟨D,_,rfl,SqL.of au,by rw[ai];lia,fun c C=>?_⟩;have E:=b.trans (g.trans (av (o:=.lst ((f.map fun q=>(dX (q.1:Int):Key)).map kV)) T));generalize upd s D (.lst ((f.map fun q=>(dX (q.1:Int):Key)).map kV))=H5 at E C;refine .inr (.inr ⟨c,_,rfl,au,?_⟩);have z:=E.trans (av (o:=_root_.Q.A6 c (_root_.Q.met (f.map fun q=>(dX (q.1:Int):Key))).length) C);have U:=z _ _ d.hl;refine .inl ⟨l,_,rfl,.inl (SqL.of U),kT.mpr ?_⟩;have A:=zR (ks:=f.map fun q=>(dX (q.1:Int):Key)) (by have :=v.nd;rw[AO,cZ]at this⊢;exact this.imp fun h a1=>h (Int.ofNat.inj (dX.inj a1)))
 rw[ai]at A;rw[A]at z⊢;rw[F,decide_eq_true rfl];exact q _ z
def spNt(K:ah):Sp:=fun vs H Q _=>∃(t l:Addr)(nf:Nat->Str)(n:Nat)(ys zs:List V)(rows:List (List Int))(ts:List (Nat×Int)),vs=[.ref t,.ref l]/\Tn H t nf n ys rows/\ys≠[]/\Tls H l zs ts/\Vt n ts/\∀H',aQ H H'->Q .non H'
theorem wp_nt(b:G.fn "place_count" 1=some (uM C,[]))(c:G.fn "are_tellings" 2=some (spAt,[])):Sat G K (spNt K) mM mK:=by rintro p H Q E ⟨t,l,m,n,r,h,o,g,rfl,d,ne,f,v,q⟩;have k:=d.n10;unfold mM;change wpB G K _ _ _ [some (.ref t),some (.ref l),none] H;walk_at "wp";refine⟨_,_,b,.ref t,rfl,d.tab.1,fun _ i a=>?_,fun z=>by(rw[d.tab.2.1]at z;cases z)⟩;rw[d.count ne];unfold kX;walk_at "wp";refine .inl ⟨t,_,rfl,.inl (SqL.of (a _ _ d.et)),kT.mpr ⟨_,rfl,?_⟩⟩;rw[if_neg (by simpa using fun z=>ne (aV.mp z))];unfold kW;walk_at "wp";refine⟨_,_,c,l,n,h,g,rfl,f.same a,v,by lia,fun j e=>⟨_,rfl,?_⟩⟩;rw[if_neg (by decide)];exact q _ (a.trans e)
def NdV(K:ah)(H:Hp)(v:V)(k:List Int):Prop:=∃b,v=V.ref b/\SqT K H b (k.map V.int)
theorem NdV.same{v:V}{k:List Int}(h:NdV K H v k)(s:aQ H H'):NdV K H' v k:=let⟨b,e,q⟩:=h;⟨b,e,s.tup q⟩
noncomputable def rdT(ts:List (Nat×Int))(v:List Int):Bool:=ts.all fun q=>decide (v.getD q.1 0=q.2)
theorem uI{a:Type}{P:V->a->Prop}(t:a->Bool):∀{xs:List V}{ds:List a},Paired P xs ds->Paired P (((xs.zip ds).filter fun p=>t p.2).map fun p=>p.1) (ds.filter t)
 |_,_,.nil=>.nil
 |x::xs,d::ds,.cons h r=>by
  have b:=uI t r;rw[ud,xn,xn];cases c:t d with
  |true=>exact .cons h b
  |false=>exact b
def qI(K:ah):Sp:=fun vs H Q _=>∃(a l:Addr)(n:Nat)(us zs:List V)(ns:List (List Int))(ts:List (Nat×Int)),vs=[.ref a,.ref l]/\SqL K H a us/\Paired (NdV K H) us ns/\(∀v∈ns,v.length=n)/\ns.length<=61/\n<=60/\Tls H l zs ts/\(∀q∈ts,q.1<n/\(q.2=0\/q.2=1))/\ts.length<=60/\
 ∀H' b ws,aQ H H'->H b=none->H' b=some (.lst ws)->Paired (NdV K H') ws (ns.filter (rdT ts))->Q (.ref b) H'
theorem wp_thr:Sat G K (qI K) tW tK:=by
 rintro vs H a1 a0 ⟨a,l,a4,F,s,B,f,rfl,t,m,R,a5,a6,d,v,tl,q⟩;have ul:F.length=B.length:=K83.iR m;have zl:s.length=f.length:=K83.iR d.pr;unfold tW;change wpB G K _ _ _ [some (.ref a),some (.ref l)] H;walk_at "wp";refine dH (cT rfl t (uV ul dZ (eW (by lia)) (fun I n=>n.seq t) (rdT f) (fun x _=>x) (fun j=>∃u,j=[u,some (.ref l)]) ⟨none,rfl⟩ ?_ ?_))
 ·rintro i x k j H3 Rt Rf S y ⟨u,rfl⟩ g X kf;obtain⟨k',z,b,rfl,N⟩:=iS m S;rw[y]at z;cases z;have W:=R k (aI y);walk_at "wp";refine dH (cT rfl (SqL.of (g _ _ d.hl)) (eJ dZ (eW (by lia)) (fun I n=>SqL.of (n _ _ (g _ _ d.hl))) (fun i v _=>v=.bl (decide (k.getD (f.getD i (0,0)).1 0=(f.getD i (0,0)).2))) (fun _ _ _ _ _ h=>h) (fun j=>∃u w,j=[u,w,some (.ref b)]) ⟨none,none,rfl⟩ ?_ ?_));·rintro a3 a7 j J a2 hj ⟨u',w,rfl⟩ r T U;obtain⟨q',hq,c,rfl,P⟩:=iS d.pr T;obtain⟨Z,o2⟩:=v q' (aI hq);have D:=g.trans r;refine⟨c,_,rfl,SqT.of (D _ _ P),rfl,_,_,rfl,_,_,rfl,rfl,?_⟩;walk_at "wp";refine .inr (.inl ⟨b,_,_,_,rfl,rfl,D.tup N,cn (iV (by rw[W];exact Z)),kT.mpr (U _ _ _ ⟨_,_,rfl⟩ (aQ.refl _) ?_)⟩);rw[getD_some hq]
  ·intro bs J Y O M r Q;have e:=bool_list O M;subst e;refine⟨Y,_,rfl,SqL.of au,_,rfl,?_⟩;have L:(((aG s.length).map fun i=>decide (k.getD (f.getD i (0,0)).1 0=(f.getD i (0,0)).2)).all id)=rdT f k:=by unfold rdT;rw[zl,<-rY f (0,0) fun q:Nat×Int=>decide (k.getD q.1 0=q.2)]
   rw[L];have E:=r.trans (av (o:=.lst (((aG s.length).map fun i=>decide (k.getD (f.getD i (0,0)).1 0=(f.getD i (0,0)).2)).map V.bl)) Q);cases c:rdT f k with
   |true=>rw[if_pos rfl];exact X _ _ ⟨_,rfl⟩ E c
   |false=>rw[if_neg (by decide)];exact kf _ _ ⟨_,rfl⟩ E c
 ·intro H2 l2 C A;have g:=C.trans (av (o:=.lst (((F.zip B).filter fun p=>rdT f p.2).map fun p=>p.1)) A);exact q _ l2 _ g (C.free A) au (uI (rdT f) (Paired.jM m fun _ _ h=>h.same g))
theorem yv:∀u v:List Int,nL (u.map L2.D.int) (v.map .int)=decide (u=v)
 | [],[]=>rfl
 | [],_::_=>rfl
 |_::_,[]=>rfl
 |a::u,b::v=>by
  show(eqD (.int a) (.int b)&&nL (u.map L2.D.int) (v.map .int))=_;rw[yv u v];have e:eqD (.int a) (.int b)=decide (a=b):=by show(a==b)=_;rw[cz,beq_iff_eq,decide_eq_true_eq]
  rw[e,cz,aE,decide_eq_true_eq,decide_eq_true_eq,decide_eq_true_eq,II]
theorem eqD_nd(u v:List Int):eqD (K83.nd1 u) (K83.nd1 v)=decide (u=v):=yv u v
theorem mC:∀{us:List V}{ns:List (List Int)},Paired (NdV K H) us ns->fL K H (ns.map K83.nd1) us/\us.all isRef=true
 |_,_,.nil=>⟨rfl,rfl⟩
 |_,_,.cons ⟨b,e,h⟩ r=>by obtain⟨a,c⟩:=mC r;subst e;exact⟨⟨_,_,rfl,⟨b,_,rfl,h,fL.ints _⟩,a⟩,c⟩
theorem nG:∀ns:List (List Int),fX (ns.map K83.nd1)<=1
 | []=>aZ _
 |v::ns=>by
  have :=nG ns;have a:hgt (K83.nd1 v)=1:=by show fX (v.map L2.D.int)+1=1;rw[oQ]
  show max (hgt (K83.nd1 v)) (fX (ns.map K83.nd1))<=1;lia
def TrV(K:ah)(H:Hp)(v:V)(x:M8.Tri):Prop:=∃c p q r,v=V.ref c/\SqT K H c [.ref p,.ref q,.ref r]/\SqT K H p (x.1.map V.int)/\SqT K H q (x.2.1.map V.int)/\SqT K H r (x.2.2.map V.int)
noncomputable def stn(rows:List (List Int))(n:Nat)(ts:List (Nat×Int)):List (List Int):=(M8.qh (M8.nds rows n)).filter (rdT ts)
theorem Bc:∀{ns:List (List Int)}{us:List V},fL K H (ns.map K83.nd1) us->Paired (NdV K H) us ns
 | [],us,h=>by obtain rfl:us=[]:=h;exact .nil
 |v::ns,us,h=>by obtain⟨x,r,rfl,a,b⟩:=h;exact .cons (zQ a) (Bc b)
theorem Bb:∀{xs:List M8.Tri}{us:List V},fL K H (xs.map M8.triD) us->Paired (TrV K H) us xs
 | [],us,h=>by obtain rfl:us=[]:=h;exact .nil
 |v::xs,us,h=>by obtain⟨x,r,rfl,⟨c,j,rfl,f,_,_,rfl,a,_,_,rfl,b,_,_,rfl,d,rfl⟩,e⟩:=h;obtain⟨p,rfl,hp⟩:=zQ a;obtain⟨q,rfl,hq⟩:=zQ b;obtain⟨i,rfl,g⟩:=zQ d;exact .cons ⟨c,p,q,i,rfl,f,hp,hq,g⟩ (Bb e)
section
variable {rows:List (List Int)}{n:Nat}{ts:List (Nat×Int)}
theorem Fq(t:M7.Tbl rows n){v:List Int}:v∈stn rows n ts↔M7.Fits rows n v/\rdT ts v=true:=by unfold stn;rw[dO,(M9.vk (M8.ni t)).mem_iff,M8.gX t]
end
end K75
namespace K61
open K75
section
variable {rows:List (List Int)}{n p:Nat}{a b c:List Int}
noncomputable def maj(n:Nat)(a b c:List Int):List Int:=(aG n).map fun p=>if a.getD p 0=b.getD p 0 then a.getD p 0 else c.getD p 0
theorem DS(hp:p<n):(maj n a b c).getD p 0=if a.getD p 0=b.getD p 0 then a.getD p 0 else c.getD p 0:=by unfold maj;rw[ae,aA,b9 hp];rfl
theorem jN{e:Int}(hp:p<n)(h:a.getD p 0=e/\b.getD p 0=e\/a.getD p 0=e/\c.getD p 0=e\/b.getD p 0=e/\c.getD p 0=e):(maj n a b c).getD p 0=e:=by
 rw[DS hp];split
 ·rcases h with h|h|h;·exact h.1
  ·exact h.1
  ·rename_i z;rw[z,h.1]
 ·rename_i z;rcases h with h|h|h;·exact absurd (h.1.trans h.2.symm) z
  ·exact h.2
  ·exact h.2
theorem KI(f:M7.Fits rows n a)(g:M7.Fits rows n b)(l:M7.Fits rows n c):M7.Fits rows n (maj n a b c):=by
 refine⟨⟨by simp[maj],fun x m=>?_⟩,fun i j hi e=>?_⟩
 ·unfold maj at m;obtain⟨q,_,rfl⟩:=aF.mp m;split;·exact f.1.at q
  ·exact l.1.at q
 ·have pick:∀{w:List Int},M7.Fits rows n w->w.getD i 0=(maj n a b c).getD i 0->w.getD j 0=(maj n a b c).getD j 0->∃r∈rows,r.getD i 0=(maj n a b c).getD i 0/\r.getD j 0=(maj n a b c).getD j 0:=fun A p s=>by obtain⟨r,v,t,u⟩:=A.2 i j hi e;exact⟨r,v,t.trans p,u.trans s⟩
  have two:∀{k:Nat},a.getD k 0≠b.getD k 0->c.getD k 0=a.getD k 0\/c.getD k 0=b.getD k 0:=fun{k} h=>by rcases f.1.at k with x|x<;>rcases g.1.at k with y|y<;>rcases l.1.at k with z|z<;>rw[x,y]at h<;>rw[x,y,z]<;>first |exact .inl rfl|exact .inr rfl|exact absurd rfl h
  by_cases ei:a.getD i 0=b.getD i 0
  ·have d:=jN (c:=c) hi (.inl ⟨rfl,ei.symm⟩);by_cases ej:a.getD j 0=b.getD j 0;·exact pick f d.symm (jN e (.inl ⟨rfl,ej.symm⟩)).symm
   ·rcases two ej with z|z;·exact pick f d.symm (jN e (.inr (.inl ⟨rfl,z⟩))).symm
    ·exact pick g (ei.symm.trans d.symm) (jN e (.inr (.inr ⟨rfl,z⟩))).symm
  ·have d:(maj n a b c).getD i 0=c.getD i 0:=by rw[DS hi,if_neg ei]
   by_cases ej:a.getD j 0=b.getD j 0
   ·have o:=jN (c:=c) e (.inl ⟨rfl,ej.symm⟩);rcases two ei with z|z;·exact pick f (z.symm.trans d.symm) o.symm
    ·exact pick g (z.symm.trans d.symm) (ej.symm.trans o.symm)
   ·exact pick l d.symm (by rw[DS e,if_neg ej])
def Rd(ts:List (Nat×Int))(v:List Int):Prop:=∀q∈ts,v.getD q.1 0=q.2
theorem JR{v:List Int}:rdT ts v=true↔Rd ts v:=by unfold rdT Rd;rw[bI];exact⟨fun h q hq=>of_decide_eq_true (h q hq),fun h q hq=>decide_eq_true (h q hq)⟩
theorem helly:∀(ts U:List (Nat×Int)),(∀q∈U,q.1<n)->(∀q∈ts,q.1<n)->(∃v,M7.Fits rows n v/\Rd U v)->(∀q∈ts,∀r∈ts,∃v,M7.Fits rows n v/\Rd U v/\v.getD q.1 0=q.2/\v.getD r.1 0=r.2)->∃v,M7.Fits rows n v/\Rd U v/\Rd ts v
 | [],U,_,_,⟨v,g,d⟩,_=>⟨v,g,d,fun _ h=>nomatch h⟩
 |t::ts,U,hU,ht,_,h=>by
  obtain⟨v,g,d,y⟩:=helly ts (t::U) (fun q hq=>by
   rcases aH.mp hq with rfl|hq;·exact ht _ (.head _)
   ·exact hU q hq) (fun q hq=>ht q (.tail _ hq)) (by
   obtain⟨v,f,u,e,_⟩:=h t (.head _) t (.head _);refine⟨v,f,fun q hq=>?_⟩;rcases aH.mp hq with rfl|hq;·exact e
   ·exact u q hq) (fun q hq r i=>by
   obtain⟨a,p,z,at_,j⟩:=h t (.head _) q (.tail _ hq);obtain⟨b,s,A,k,l⟩:=h q (.tail _ hq) r (.tail _ i);obtain⟨c,w,B,o,m⟩:=h t (.head _) r (.tail _ i);refine⟨maj n a b c,KI p s w,fun x hx=>?_,jN (ht q (.tail _ hq)) (.inl ⟨j,k⟩),jN (ht r (.tail _ i)) (.inr (.inr ⟨l,m⟩))⟩;rcases aH.mp hx with rfl|hx;·exact jN (ht _ (.head _)) (.inr (.inl ⟨at_,o⟩))
   ·exact jN (hU x hx) (.inl ⟨z x hx,A x hx⟩))
  refine⟨v,g,fun q hq=>d q (.tail _ hq),fun q hq=>?_⟩;rcases aH.mp hq with rfl|hq;·exact d _ (.head _)
  ·exact y q hq
end
noncomputable def tw(ts:List (Nat×Int))(i j:Nat):List (Nat×Int):=[ts.getD i (0,0),ts.getD j (0,0)]
structure Fp(ns:List (List Int))(ts:List (Nat×Int))(i j:Nat):Prop where
 ij:i<=j
 jl:j<ts.length
 no:ns.filter (rdT (tw ts i j))=[]
 ft:∀i' j',i'<=j'->j'<ts.length->i'<i\/i'=i/\j'<j->ns.filter (rdT (tw ts i' j'))≠[]
theorem Fp.one{c:List (List Int)}{l:Nat}(a:Fp c ts i j)(b:Fp c ts k l):i=k/\j=l:=by have d:¬(i<k\/i=k/\j<l):=fun z=>b.ft i j a.ij a.jl z a.no;have e:¬(k<i\/k=i/\l<j):=fun z=>a.ft k l b.ij b.jl z b.no;lia
theorem eF(t:M7.Tbl rows n)(x:Vt n ts)(h:stn rows n ts=[]):∃i j,i<=j/\j<ts.length/\(M8.qh (M8.nds rows n)).filter (rdT (tw ts i j))=[]:=by
 apply aN
 intro w;have g:∀i j,i<=j->j<ts.length->∃v,M7.Fits rows n v/\Rd (tw ts i j) v:=fun i j m a=>by have ne:stn rows n (tw ts i j)≠[]:=fun z=>w ⟨i,j,m,a,z⟩;obtain⟨v,p⟩:=List.exists_mem_of_ne_nil _ ne;obtain⟨b,k⟩:=(Fq t).mp p;exact⟨v,b,JR.mp k⟩
 obtain⟨v,b,_,l⟩:=helly (rows:=rows) (n:=n) ts [] (fun _ z=>nomatch z) (fun q hq=>(x.ok q hq).1) ⟨_,M7.wq t,fun _ z=>nomatch z⟩ fun q hq r o=>by
  obtain⟨i,hi⟩:=bX.mp hq;obtain⟨j,a⟩:=bX.mp o;have s:=(aC.mp hi).1;have u:=(aC.mp a).1;have c:ts.getD i (0,0)=q:=by rw[ae,hi];rfl
  have d:ts.getD j (0,0)=r:=by rw[ae,a];rfl
  rcases Nat.le_total i j with z|z;·obtain⟨v,f,e⟩:=g i j z u;unfold tw at e;rw[c,d]at e;exact⟨v,f,fun _ z=>(nomatch z),e _ (.head _),e _ (.tail _ (.head _))⟩
  ·obtain⟨v,f,e⟩:=g j i z s;unfold tw at e;rw[c,d]at e;exact⟨v,f,fun _ z=>(nomatch z),e _ (.tail _ (.head _)),e _ (.head _)⟩
 have :v∈stn rows n ts:=(Fq t).mpr ⟨b,JR.mpr l⟩;rw[h]at this;cases this
end K61
namespace K32
open PySem PySem.Spec PyProof.Rows L2 R Cp Lt Kc K21 K22 K02 Lm M5
def Dk(H:Hp)(d:Option Addr):Prop:=∀dd,d=some dd->∃fs,H dd=some (xdO dd fs)
theorem isxX{D:Addr}{b:Bool}{Q:VK}(e:H a=some (kR a (.ref C) d))(c:Dk H d)(o:lK K C=true)(k:cP K (.ref C) (.ref D)=some b)(q:Q (.bl b) H):rBf K .isx [.ref a,.ref D] H Q:=
 ⟨a,C,d,_,_,b,rfl,e,c,o,.inr ⟨D,rfl,rfl⟩,k,q⟩
theorem isxV{b:Bool}{Q:VK}(e:H a=some (kR a (.ref C) d))(c:Dk H d)(o:lK K C=true)(k:cP K (.ref C) (.type "ValueError")=some b)(q:Q (.bl b) H):rBf K .isx [.ref a,.ty "ValueError"] H Q:=
 ⟨a,C,d,_,_,b,rfl,e,c,o,.inl ⟨_,rfl,rfl⟩,k,q⟩
end K32
namespace Mt
open Q M4
noncomputable def onp(par:Nat->Nat)(e:Nat):Nat->Nat->Bool
 | 0,_=>false
 |f+1,v=>if v=0 then false else decide (v=e)||onp par e f (par v)
noncomputable def on(par:Nat->Nat)(e v:Nat):Bool:=onp par e v v
section
variable {par:Nat->Nat}{e f:Nat}{N:Nat}(hp:∀v,1<=v->v<N->par v<v)
include hp
theorem vI:∀(k v:Nat),v<N->v<=k->onp par e k v=onp par e v v
 | 0,v,_,h=>by
  obtain rfl:v=0:=by lia
  rfl
 |k+1,v,hv,h=>by
  by_cases h0:v=0;·subst h0;rfl
  ·obtain⟨u,rfl⟩:∃u,v=u+1:=⟨v-1,by lia⟩;have a:=hp (u+1) (by lia) hv;show(if u+1=0 then false else decide (u+1=e)||onp par e k (par (u+1)))=(if u+1=0 then false else decide (u+1=e)||onp par e u (par (u+1)));rw[vI k (par (u+1)) (by lia) (by lia),vI u (par (u+1)) (by lia) (by lia)]
theorem jH(b:1<=v)(a:v<N):on par e v=(decide (v=e)||on par e (par v)):=by obtain⟨u,rfl⟩:∃u,v=u+1:=⟨v-1,by lia⟩;have c:=hp (u+1) (by lia) a;show(if u+1=0 then false else decide (u+1=e)||onp par e u (par (u+1)))=_;rw[if_neg (by lia),vI hp u (par (u+1)) (by lia) (by lia)];rfl
theorem pC:∀(v:Nat),v<N->on par e v=true->e<=v/\1<=e:=fun v=>by
 induction v using kK with
 |ind v ih=>
  intro a h;by_cases h0:v=0;·subst h0;cases h
  ·rw[jH hp (by lia) a,cf,decide_eq_true_eq]at h;rcases h with h|h;·lia
   ·have b:=hp v (by lia) a;have :=ih (par v) b (by lia) h;lia
theorem jh(a:1<=v)(b:v<N):on par v v=true:=by rw[jH hp a b];simp
theorem vK:∀(v:Nat),v<N->on par e v=true->on par f v=true->f<=e->on par f e=true:=fun v=>by
 induction v using kK with
 |ind v ih=>
  intro c d b h;by_cases h0:v=0;·subst h0;cases d
  ·by_cases he:v=e;·rw[<-he];exact b
   ·have g:=hp v (by lia) c;have a:=d;rw[jH hp (by lia) c,decide_eq_false he,bO]at a;have :=pC hp (par v) (by lia) a;rw[jH hp (by lia) c,decide_eq_false (by lia:¬v=f),bO]at b;exact ih (par v) g (by lia) a b h
theorem vJ:∀(v:Nat),v<N->on par e v=true->on par f e=true->on par f v=true:=fun v=>by
 induction v using kK with
 |ind v ih=>
  intro b a c;by_cases h0:v=0;·subst h0;cases a
  ·by_cases he:v=e;·rw[he];exact c
   ·have d:=hp v (by lia) b;rw[jH hp (by lia) b,decide_eq_false he,bO]at a;rw[jH hp (by lia) b,ih (par v) d (by lia) a c,pb]
theorem Ks{a b c d:Nat}(k:a<N)(l:b<N)(m:c<N)(g:on par e a=true/\on par f a=true)(j:on par e b=true/\on par f b=false)(i:on par e c=false/\on par f c=true):False:=by
 by_cases h:f<=e;·have :=vJ hp b l j.1 (vK hp a k g.1 g.2 h);rw[j.2]at this;cases this
 ·have :=vJ hp c m i.2 (vK hp a k g.2 g.1 (by lia));rw[i.1]at this;cases this
end
noncomputable def rdv(f:Nat->Int)(own par:Nat->Nat)(v p:Nat):Int:=if on par (own p) v=true then 1-f p else f p
noncomputable def nd(f:Nat->Int)(own par:Nat->Nat)(n v:Nat):List Int:=(aG n).map (rdv f own par v)
theorem vP{f:Nat->Int}{own par:Nat->Nat}:(nd f own par n v).length=n:=by simp[nd]
theorem eG{f:Nat->Int}{own par:Nat->Nat}(h:p<n):(nd f own par n v).getD p 0=rdv f own par v p:=by unfold nd;rw[ae,aA,b9 h];rfl
theorem rdv_bit{f:Nat->Int}{own par:Nat->Nat}(hf:f p=0\/f p=1):rdv f own par v p=0\/rdv f own par v p=1:=by unfold rdv;split <;>lia
theorem JP{f:Nat->Int}{own par:Nat->Nat}:rdv f own par 0 p=f p:=by unfold rdv;rw[if_neg (by intro h;cases h)]
section
variable {f:Nat->Int}{own par:Nat->Nat}{n N:Nat}(hp:∀v,1<=v->v<N->par v<v)(hf:∀p,p<n->f p=0\/f p=1)
include hp hf
theorem JQ(a:1<=v)(b:v<N)(c:p<n):(rdv f own par (par v) p+(if own p=v then 1 else 0))%2=rdv f own par v p:=by
 have d:=hp v a b;unfold rdv;rw[jH hp a b];have e:=hf p c;by_cases h:v=own p
 ·have :on par (own p) (par v)=false:=by
   cases q:on par (own p) (par v)with
   |false=>rfl
   |true=>have :=pC hp (par v) (by lia) q;lia
  rw[this,decide_eq_true h,if_pos h.symm];simp only[Bool.true_or,if_true,aW,if_false];lia
 ·rw[decide_eq_false h,if_neg (bA h),bO];split <;>lia
theorem zw(a:p<n):on par (own p) v=decide (rdv f own par v p≠f p):=by
 have b:=hf p a;unfold rdv;cases on par (own p) v with
 |true=>simp;lia
 |false=>simp
theorem Fk(hi:i<j)(d:j<N)(g:∃p,p<n/\own p=j):nd f own par n j≠nd f own par n i:=fun h=>by
 obtain⟨p,c,e⟩:=g;have q:rdv f own par j p=rdv f own par i p:=by rw[<-eG (n:=n) c,h,eG c]
 have a:=zw (own:=own) (v:=j) hp hf c;have b:=zw (own:=own) (v:=i) hp hf c;rw[q,<-b,e,jh hp (by lia) d]at a;have :=pC hp i (by lia) a.symm;lia
end
end Mt
namespace Bt
open PySem R
noncomputable def Bl:List Str:=["_law_cell","_law_k"]
noncomputable def tM:List Str:=["_law_cell","_law_k"]
noncomputable def tY:CB:=
  (.cons (.ret (.bin .Mod (.bin .Mult (.bin .Add (.bin .Mod (.bin .FloorDiv (.var 0) (.con (.int 7))) (.bin .Pow (.con (.int 10)) (.con (.int 30)))) (.con (.int 1))) (.bin .Add (.con (.int 48271)) (.bin .Mult (.bin .Mult (.con (.int 7919)) (.var 1)) (.var 1)))) (.con (.int 2147483629))))
  .nil)
noncomputable def zE:List Str:=["_law_many","_law_seed","_law_left","_law_free"]
noncomputable def qW:List Str:=["_law_many","_law_seed","_law_left","_law_free","_law_some","_law_edge","_law_rows","_law_place","_law_rank","_law_owners_here","_law_at"]
noncomputable def ki:CB:=
  (.cons (.ret (.tup (.cons (.var 9) (.cons (.var 2) .nil))))
  .nil)
noncomputable def jd:CB:=
  (.cons (.expr (.meth1 .append (.var 9) (.meth1 .pop (.var 4) (.var 10))))
  .nil)
noncomputable def kj:CB:=
  (.cons (.asg (.name 2) (.bin .FloorDiv (.var 2) (.bfn .len (.cons (.var 4) .nil))))
  .nil)
noncomputable def lT:CB:=
  (.cons (.iff (.cmp .GtE (.var 2) (.bfn .len (.cons (.var 4) .nil)))
  (.cons (.asg (.name 10) (.bin .Mod (.var 2) (.bfn .len (.cons (.var 4) .nil))))
  kj)
  .nil)
  jd)
noncomputable def lU:CB:=
  (.cons (.asg (.name 10) (.bin .Mod (.bin .FloorDiv (.var 1) (.con (.int 16))) (.bfn .len (.cons (.var 4) .nil))))
  lT)
noncomputable def nV:CB:=
  (.cons (.whl (.cmp .NotEq (.var 4) (.lst .nil))
  (.cons (.asg (.name 1) (.bin .Mod (.bin .Add (.bin .Mult (.var 1) (.con (.int 48271))) (.con (.int 11))) (.con (.int 2147483647))))
  lU))
  ki)
noncomputable def km:CB:=
  (.cons (.asg (.name 9) (.lst .nil))
  nV)
noncomputable def nW:CB:=
  (.cons (.iff (.not (.var 3))
  (.cons (.ret (.tup (.cons (.comp ["_law_row"] [] (.name 0) (.lseq (.bfn .sortl (.cons (.var 6) .nil))) .no (.idx (.var 0) (.con (.int 2)))) (.cons (.var 2) .nil))))
  .nil)
  .nil)
  km)
noncomputable def lV:CB:=
  (.cons (.expr (.meth1 .append (.var 6) (.tup (.cons (.var 8) (.cons (.var 7) (.cons (.idx (.var 4) (.var 7)) .nil))))))
  .nil)
noncomputable def nX:CB:=
  (.cons (.forr (.name 7) (.range1 (.bfn .len (.cons (.var 4) .nil)))
  (.cons (.asg (.name 8) (.bin .Mod (.bin .Mult (.bin .Add (.var 1) (.con (.int 1))) (.bin .Add (.bin .Add (.bin .Mult (.bin .Mult (.con (.int 31)) (.var 7)) (.var 7)) (.bin .Mult (.con (.int 17)) (.var 7))) (.con (.int 7)))) (.con (.int 10007))))
  lV))
  nW)
noncomputable def nY:CB:=
  (.cons (.asg (.name 6) (.lst .nil))
  nX)
noncomputable def nZ:CB:=
  (.cons (.forr (.name 5) (.range1 (.bfn .len (.cons (.var 0) .nil)))
  (.cons (.asg (.name 4) (.bin .Add (.var 4) (.bin .Mult (.lst (.cons (.var 5) .nil)) (.idx (.var 0) (.var 5)))))
  .nil))
  nY)
noncomputable def rM:CB:=
  (.cons (.asg (.name 4) (.lst .nil))
  nZ)
noncomputable def Bn:List Str:=["_law_script","_law_start"]
noncomputable def tN:List Str:=["_law_script","_law_start","_law_parents","_law_many","_law_cells","_law_room","_law_k","_law_drawn","_law_more"]
noncomputable def pR:CB:=
  (.cons (.ret (.tup (.cons (.var 2) (.cons (.var 3) .nil))))
  .nil)
noncomputable def mQ:CB:=
  (.cons (.expr (.meth1 .append (.var 3) (.bin .Add (.con (.int 1)) (.var 8))))
  .nil)
noncomputable def mR:CB:=
  (.cons (.asg (.name 5) (.bin .Sub (.var 5) (.var 8)))
  mQ)
noncomputable def mS:CB:=
  (.cons (.asg (.name 8) (.bfn .min (.cons (.var 5) (.cons (.idx (.lst (.cons (.con (.int 0)) (.cons (.con (.int 0)) (.cons (.con (.int 1)) (.cons (.con (.int 2)) .nil))))) (.bin .Mod (.bin .FloorDiv (.var 7) (.con (.int 31))) (.con (.int 4)))) .nil))))
  mR)
noncomputable def mT:CB:=
  (.cons (.expr (.meth1 .append (.var 2) (.bin .Mod (.var 7) (.bfn .len (.cons (.var 2) .nil)))))
  mS)
noncomputable def pS:CB:=
  (.cons (.forr (.name 6) (.range1 (.bfn .len (.cons (.var 4) .nil)))
  (.cons (.asg (.name 7) (.call "_law_mixed" (.cons (.idx (.var 4) (.var 6)) (.cons (.bin .Add (.var 6) (.var 1)) .nil))))
  mT))
  pR)
noncomputable def pT:CB:=
  (.cons (.asg (.name 5) (.bin .Sub (.con (.int 54)) (.bfn .len (.cons (.var 4) .nil))))
  pS)
noncomputable def pU:CB:=
  (.cons (.asg (.name 4) (.cut (.var 0) (.yes (.var 1)) (.yes (.bin .Add (.var 1) (.con (.int 30))))))
  pT)
noncomputable def pV:CB:=
  (.cons (.asg (.name 3) (.lst (.cons (.bin .Mod (.bin .FloorDiv (.call "_law_cell_at" (.cons (.var 0) (.cons (.con (.int 0)) .nil))) (.con (.int 7))) (.con (.int 7))) .nil)))
  pU)
noncomputable def tZ:CB:=
  (.cons (.asg (.name 2) (.lst (.cons (.con (.int 0)) .nil)))
  pV)
end Bt
namespace Bt
open PySem PySem.Spec PyProof.Rows L2 R Cp Lt Kc
noncomputable def mx(c k:Int):Int:=(c/7%10^Int.toNat 30+1)*(48271+7919*k*k)%2147483629
theorem mx_nn(c k:Int):0<=mx c k:=cC _ (by decide)
def A4:Sp:=fun vs H Q _=>∃c k:Int,vs=[.int c,.int k]/\0<=k/\k<=100/\Q (.int (mx c k)) H
theorem wp_mix:Sat G K A4 tY tM:=by
 rintro g H Q E ⟨c,k,rfl,a,b,q⟩;unfold tY;change wpB G K _ _ _ [some (.int c),some (.int k)] H;walk_at "wp";have f:0<=7919*k*k/\7919*k*k<=79190000:=by have d:0<=k*k:=Int.mul_nonneg a a;have e:k*k<=100*100:=Int.mul_le_mul b b a (by decide);rw[Int.mul_assoc];lia
 exact⟨⟨by decide,by decide⟩,⟨by decide,by decide,by decide⟩,by decide,FW (by decide) (by decide),wC a (by lia),wC (by lia) (by lia),by decide,q⟩
noncomputable def iN(ks:List Nat):List V:=ks.map fun k:Nat=>V.int (k:Int)
theorem rA{ks:List Nat}(h:i<ks.length):(iN ks)[i]? =some (.int (ks.getD i 0:Nat)):=by unfold iN;rw[aA,aa h,ae,aa h];rfl
theorem cS{ks:List Nat}:(iN ks).length=ks.length:=by simp[iN]
theorem uU{ks:List Nat}:iN (ks++[k])=iN ks++[V.int (k:Int)]:=by simp[iN]
structure Gp(ps ms:List Nat):Prop where
 len:ms.length=ps.length
 n31:ps.length<=31
 one:1<=ps.length
 par:∀v,1<=v->v<ps.length->ps.getD v 0<v
 m0:∀v,1<=v->v<ms.length->1<=ms.getD v 0/\ms.getD v 0<=3
 sum:ms.sum<=60
def vo(K:ah):Sp:=fun vs H Q _=>∃(a:Addr)(ns:List Int)(st:Nat),vs=[.ref a,.int st]/\SqL K H a (ns.map V.int)/\ns.length<=63/\st<=10/\
 ∀(H':Hp)(p c pm:Addr)(ps b:List Nat),aQ H H'->H' p=some (.tup [.ref c,.ref pm])->H' c=some (.lst (iN ps))->H' pm=some (.lst (iN b))->Gp ps b->Q (.ref p) H'
theorem getD_snoc{ks:List Nat}:(ks++[k]).getD i 0=if i<ks.length then ks.getD i 0 else if i=ks.length then k else 0:=by
 rw[ae,ae];by_cases h:i<ks.length;·rw[if_pos h,cK h]
 ·rw[if_neg h,bT (by lia)];by_cases h2:i=ks.length;·rw[if_pos h2,h2];simp
  ·rw[if_neg h2,bY (by simp;lia)];rfl
structure Gb(H:Hp)(pa pm:Addr)(k L room:Nat)(ps ms:List Nat)(H':Hp):Prop where
 s:aQ H H'
 ea:H' pa=some (.lst (iN ps))
 em:H' pm=some (.lst (iN ms))
 pl:ps.length=k+1
 ml:ms.length=k+1
 par:∀v,1<=v->v<ps.length->ps.getD v 0<v
 m0:∀v,1<=v->v<ms.length->1<=ms.getD v 0/\ms.getD v 0<=3
 sum:ms.sum+room+(L-k)<=60
theorem GB(g0:G.fn "_law_cell_at" 2=some (vq K,[]))(g1:G.fn "_law_mixed" 2=some (A4,[])):
  Sat G K (vo K) tZ tN:=by
 rintro vs H b4 b3 ⟨a,F,n,rfl,X,hn,c0,b2⟩;unfold tZ;change wpB G K _ _ _ [some (.ref a),some (.int n),none,none,none,none,none,none,none] H;walk_at "wp";refine⟨short (by simp),fun e Z=>?_⟩;have s:aQ H (upd H e (.lst [.int 0])):=av Z;have C:upd H e (.lst [.int 0]) e=some (.lst (iN [0])):=au;generalize upd H e (.lst [.int 0])=H1 at s C⊢;unfold pV;walk_at "wp";refine⟨_,_,g0,a,F,0,rfl,s.seq X,?_⟩;generalize F.getD 0 0=c;refine div_ii.mpr ⟨⟨by decide,by decide⟩,i9.mpr ⟨by decide,short (by show 1<=40;decide),fun i E=>?_⟩⟩;obtain⟨q,a6⟩:=b8 (cC (c/7) (by decide:(7:Int)≠0));have b7:q<=6:=by have :=bV (c/7) (by decide:(0:Int)<7);lia
 rw[a6];have t:aQ H1 (upd H1 i (.lst [.int q])):=av E;have M:upd H1 i (.lst [.int q]) i=some (.lst (iN [q])):=au;have a1:e≠i:=fun z=>by rw[<-z,C]at E;cases E
 have a4:H i=none:=s.free E;generalize upd H1 i (.lst [.int q])=H2 at t M⊢;unfold pU;walk_at "wp";obtain⟨f,S⟩:=K21.LH F (some (n:Int)) (some ((n:Int)+30));refine .inl ⟨a,_,rfl,(s.trans t).seq X,fun l p=>?_⟩;rw[S];have b5:f.length<=30:=by
  have a2:(nO (F.map V.int) (some (n:Int)) (some ((n:Int)+30))).length=f.length:=by rw[S,ai]
  rw[<-a2];unfold nO;rw[dw,show(some ((n:Int)+30))=some ((n+30:Nat):Int) by simp,HT.oG,HT.oG];lia
 have I:aQ H2 (upd H2 l (.lst (f.map V.int))):=av p;have D:upd H2 l (.lst (f.map V.int)) l=some (.lst (f.map V.int)):=au;have a9:e≠l:=fun z=>by rw[<-z,t _ _ C]at p;cases p
 have b0:i≠l:=fun z=>by rw[<-z,M]at p;cases p
 have fl:H l=none:=(s.trans t).free p;generalize upd H2 l (.lst (f.map V.int))=H3 at I D⊢;unfold pT;walk_at "wp";refine Or.inl ⟨l,_,rfl,.inl (SqL.of D),?_⟩;rw[ai];walk_at "wp";unfold pS;walk_at "wp";refine fJ ?_;walk_at "wp";refine Or.inl ⟨l,_,rfl,.inl (SqL.of D),_,rfl,by rw[ai];lia,by rw[ai];lia,?_⟩;rw[ai,aM];refine eZ cR (fun k O P=>∃(j:Nat)(h r:List Nat),Gb H e i k f.length j h r P/\P l=some (.lst (f.map V.int))/\∃u v w,O=[some (.ref a),some (.int n),some (.ref e),some (.ref i),some (.ref l),some (.int j),u,v,w])
  ⟨54-f.length,[0],[q],⟨s.trans (t.trans I),I _ _ (t _ _ C),I _ _ M,rfl,rfl,fun v B o=>by simp at o;lia,fun v B o=>by simp at o;lia,by simp;lia⟩,D,none,none,none,by rw[show((54-f.length:Nat):Int)=54-(f.length:Int) by lia]⟩ (fun _ _ _ _ _=>trivial) ?_ ?_
 ·rintro k c3 O H4 A D2 hk ⟨j,h,r,g,T,u,v,w,rfl⟩ rfl J hD _;have U:=J _ _ T;have L:=J _ _ g.ea;have a3:=J _ _ g.em;have sH:=g.s.trans J;walk_at "wp";simp only[eE];have a5:(f.map V.int)[k]? =some (.int (f.getD k 0)):=K32.iV hk;refine⟨_,_,g1,.inl ⟨l,_,k,_,rfl,rfl,SqL.of U,cn a5,?_⟩⟩;walk_at "wp";refine⟨_,_,rfl,by lia,by lia,?_⟩;generalize f.getD k 0=cc;have hd:=mx_nn cc ((k:Int)+(n:Int));generalize mx cc ((k:Int)+(n:Int))=d at hd;have a0:=g.pl;have Y:=g.ml;unfold mT;walk_at "wp";refine⟨.inl ⟨rfl,_,SqL.of L⟩,Or.inl ⟨e,_,rfl,.inl (SqL.of L),?_⟩⟩;rw[cS];refine i9.mpr ⟨by lia,?_⟩;obtain⟨z,hz⟩:=b8 (cC d (by lia:(h.length:Int)≠0));have c2:z<h.length:=by have :=bV d (by lia:(0:Int)<(h.length:Int));lia
  rw[hz];refine⟨e,_,_,rfl,rfl,L,K32.uw (by rw[cS];lia),?_⟩;rw[<-uU];have Q:upd A e (.lst (iN (h++[z]))) e=some (.lst (iN (h++[z]))):=au;have N:upd A e (.lst (iN (h++[z]))) i=some (.lst (iN r)):=by rw[aS (bA a1)];exact a3
  have W:upd A e (.lst (iN (h++[z]))) l=some (.lst (f.map V.int)):=by rw[aS (bA a9)];exact U
  have s6:aQ H (upd A e (.lst (iN (h++[z])))):=eX sH Z;generalize upd A e (.lst (iN (h++[z])))=H6 at Q N W s6⊢;unfold mS;walk_at "wp";refine⟨short (by show 4<=40;decide),fun b hb=>?_⟩;have x:aQ H6 (upd H6 b (.lst [.int 0,.int 0,.int 1,.int 2])):=av hb;have R:upd H6 b (.lst [.int 0,.int 0,.int 1,.int 2]) b=some (.lst (iN [0,0,1,2])):=au;generalize upd H6 b (.lst [.int 0,.int 0,.int 1,.int 2])=H7 at x R⊢;obtain⟨y,hy⟩:=b8 (cC (d/31) (by decide:(4:Int)≠0));have c1:y<4:=by have :=bV (d/31) (by decide:(0:Int)<4);lia
  refine⟨⟨by decide,by decide⟩,by decide,?_⟩;rw[hy];refine .inl ⟨b,_,y,_,rfl,rfl,SqL.of R,cn (rA (by simp;lia)),?_⟩;have hw:[0,0,1,2].getD y 0<=2:=by
   have :y=0\/y=1\/y=2\/y=3:=by lia
   rcases this with rfl|rfl|rfl|rfl<;>decide
  generalize[0,0,1,2].getD y 0=more at hw;refine⟨_,_,rfl,?_⟩;obtain⟨m,a7,b9,b6⟩:∃m:Nat,(if(more:Int)<(j:Int)then(more:Int)else(j:Int))=(m:Int)/\m<=j/\m<=2:=by
   split;·exact⟨more,rfl,by lia,hw⟩
   ·exact⟨j,rfl,az _,by lia⟩
  rw[a7];unfold mR;walk_at "wp";unfold mQ;walk_at "wp";refine⟨.inl ⟨rfl,_,SqL.of (x _ _ N)⟩,i,_,_,rfl,rfl,x _ _ N,K32.uw (by rw[cS];lia),?_⟩;rw[show(1:Int)+(m:Int)=((1+m:Nat):Int) by lia,<-uU,show(j:Int)-(m:Int)=((j-m:Nat):Int) by lia];have a8:=g.sum;refine hD _ _ ⟨j-m,h++[z],r++[1+m],⟨eX (s6.trans x) a4,?_,au,by simp[a0],by simp[Y],fun v B o=>?_,fun v B o=>?_,?_⟩,?_,_,_,_,rfl⟩;·rw[aS a1];exact x _ _ Q
  ·rw[getD_snoc];split;·exact g.par v B (by assumption)
   ·split;·lia
    ·lia
  ·rw[getD_snoc];split;·exact g.m0 v B (by assumption)
   ·rw[bw,dY]at o;rw[if_pos (by lia)];lia
  ·rw[List.sum_append];simp;lia
  ·rw[aS (bA b0)];exact x _ _ W
 ·rintro O H4 ⟨j,h,r,g,T,u,v,w,rfl⟩;unfold pR;walk_at "wp";have a0:=g.pl;have Y:=g.ml;have a8:=g.sum;refine⟨short (by simp),fun b1 hp=>b2 _ b1 e i h r (g.s.trans (av hp)) au (av hp _ _ g.ea) (av hp _ _ g.em) ⟨by lia,by lia,by lia,g.par,g.m0,by lia⟩⟩
noncomputable def gO(a:List Nat)(k:Nat):List Nat:=(aG k).flatMap fun e=>bp (a.getD e 0) e
theorem nK(a:List Nat)(k:Nat):gO a (k+1)=gO a k++bp (a.getD k 0) k:=by unfold gO;rw[kA,Mg];simp
theorem qm(a:List Nat):∀k,k<=a.length->(gO a k).length=(a.take k).sum
 | 0,_=>rfl
 |k+1,h=>by rw[nK,bw,qm a k (by lia),jG,dM,List.sum_append,ae];cases a[k]? <;>simp
theorem m6:∀(a:List Nat)(k:Nat),(a.take k).sum<=a.sum
 | [],k=>by simp
 |m::a,0=>by simp
 |m::a,k+1=>by rw[List.take_succ_cons,List.sum_cons,List.sum_cons];have :=m6 a k;lia
theorem rep_iN(e m:Nat):(bp m [V.int (e:Int)]).flatten=iN (bp m e):=by
 unfold iN;rw[List.map_replicate]
 induction m with
 |zero=>rfl
 |succ m ih=>rw[dN,jm,ih,dN];rfl
theorem iN_app(a b:List Nat):iN (a++b)=iN a++iN b:=by simp[iN]
theorem iN_ints(ks:List Nat):iN ks=(ks.map fun k:Nat=>(k:Int)).map V.int:=by unfold iN;rw[bD];rfl
theorem nil_iN{t p:Addr}{fs:List Nat}(b:H t=some (.lst (iN fs)))(c:H p=some (.lst [])):∃d a,Rep K H d (.ref t)/\Rep K H a (.ref p)/\hgt d<=30/\eqD d a=decide (fs=[]):=by rw[iN_ints]at b;obtain⟨d,a,e,f,g,h⟩:=K22.BC (K:=K) (SqL.of b) c;refine⟨d,a,e,f,g,?_⟩;rw[h];exact decide_eq_decide.mpr (by simp)
theorem tT:∀(l:List Nat)(z:Nat)(h:z<l.length),(l[z]::l.eraseIdx z).Perm l
 | [],_,h=>absurd h (dm _)
 |a::l,0,_=>d9 _
 |a::l,z+1,h=>by
  have b:z<l.length:=by simpa using h
  exact(w9 a l[z] (l.eraseIdx z)).trans ((tT l z b).cons a)
def vm:Sp:=fun vs H Q _=>∃(pm:Addr)(b c:Int)(free:Bool)(a:List Nat),vs=[.ref pm,.int b,.int c,.bl free]/\H pm=some (.lst (iN a))/\a.length<=31/\a.sum<=60/\0<=b/\b<=10007/\
 ∀(H':Hp)(p l:Addr)(os:List Nat)(d:Int),aQ H H'->H' p=some (.tup [.ref l,.int d])->H l=none->H' l=some (.lst (iN os))->os.Perm (gO a a.length)->Q (.ref p) H'
section
variable {G:Gam}{K:ah}{E:XS}{D:Ends}
theorem IK{Q:VK}(hr:D.rt=Q){t h:Addr}{F:List Nat}{k j:Int}{s:List Nat}{a b r c e f:Option V}(T:aQ H H1)(a0:H h=none)(i:H1 h=some (.lst (iN s)))(hl:s.length<=60)
  (q:∀(H':Hp)(p l:Addr)(os:List Nat)(a2:Int),aQ H H'->H' p=some (.tup [.ref l,.int a2])->H l=none->H' l=some (.lst (iN os))->os.Perm s->Q (.ref p) H'):
  wpB G K E km D [some (.ref t),some (.int k),some (.int j),a,some (.ref h),b,r,c,e,f,none] H1:=by
 unfold km;walk_at "wp";refine⟨short (by simp),fun l y=>?_⟩;have I:aQ H1 (upd H1 l (.lst [])):=av y;have o:upd H1 l (.lst []) l=some (.lst (iN [])):=au;have S:h≠l:=fun z=>by rw[<-z,i]at y;cases y
 have O:H l=none:=T.free y;have i:=I _ _ i;generalize upd H1 l (.lst [])=H2 at I o i⊢;unfold nV;walk_at "wp";refine⟨fun m U H'=>∃(g os:List Nat)(k j:Int)(u:Option V),m=g.length/\aQ H H'/\H' h=some (.lst (iN g))/\H' l=some (.lst (iN os))/\(os++g).Perm s/\U=[some (.ref t),some (.int k),some (.int j),a,some (.ref h),b,r,c,e,some (.ref l),u],
  ⟨_,s,[],k,j,none,rfl,T.trans I,i,o,d9 _,rfl⟩,?_⟩
 rintro m U x ⟨g,os,k,j,u,rfl,s3,i,o,C,rfl⟩;have a3:os.length+g.length=s.length:=by have :=C.length_eq;simpa using this
 walk_at "wp";refine⟨short (by simp),fun B a1=>?_⟩;have J:aQ x (upd x B (.lst [])):=av a1;have M:upd x B (.lst []) B=some (.lst []):=au;have i:=J _ _ i;have o:=J _ _ o;have L:=s3.trans J;generalize upd x B (.lst [])=H4 at M i o L⊢;obtain⟨d,W,r1,r2,r3,r4⟩:=nil_iN (K:=K) i M;refine⟨d,W,r1,r2,r3,_,rfl,?_⟩;rw[r4];by_cases hz:g=[];·rw[decide_eq_true hz,if_neg (by simp)];unfold ki;walk_at "wp";refine⟨short (by simp),fun p hp=>?_⟩;rw[hr];rw[hz,kB]at C;exact q _ p l os j (L.trans (av hp)) au O (av hp _ _ o) C
 ·rw[decide_eq_false hz,if_pos (by simp)];have a4:0<g.length:=iE.mpr hz;have w:(0:Int)<(g.length:Int):=by lia
  refine⟨fun v H'=>∃(n os:List Nat)(k j:Int)(u:Option V),n.length<g.length/\aQ H H'/\H' h=some (.lst (iN n))/\H' l=some (.lst (iN os))/\(os++n).Perm s/\v=[some (.ref t),some (.int k),some (.int j),a,some (.ref h),b,r,c,e,some (.ref l),u],
   fun v H' ⟨n,os,k,j,u,P,h2,h3,h4,h5,h6⟩=>⟨_,P,n,os,k,j,u,rfl,h2,h3,h4,h5,h6⟩,?_⟩
  refine⟨wC (by decide) (by decide),by decide,?_⟩;generalize(k*48271+11)%2147483647=sd
  --the drawn place,whichever way
  have N:∀(at_ R:Int),0<=at_->at_<(g.length:Int)->wpB G K E jd {nx:=fun v H'=>∃(n os:List Nat)(k j:Int)(u:Option V),n.length<g.length/\aQ H H'/\H' h=some (.lst (iN n))/\H' l=some (.lst (iN os))/\(os++n).Perm s/\v=[some (.ref t),some (.int k),some (.int j),a,some (.ref h),b,r,c,e,some (.ref l),u],rt:=D.rt,bk:=wpB G K E ki D,ct:=fun v H'=>∃(n os:List Nat)(k j:Int)(u:Option V),n.length<g.length/\aQ H H'/\H' h=some (.lst (iN n))/\H' l=some (.lst (iN os))/\(os++n).Perm s/\v=[some (.ref t),some (.int k),some (.int j),a,some (.ref h),b,r,c,e,some (.ref l),u]}
    [some (.ref t),some (.int sd),some (.int R),a,some (.ref h),b,r,c,e,some (.ref l),some (.int at_)] H4:=by
   intro at_ R h0 P;obtain⟨z,rfl⟩:=b8 h0;have A:z<g.length:=by lia
   unfold jd;walk_at "wp";refine⟨.inl ⟨rfl,_,SqL.of o⟩,.inl ⟨rfl,_,SqL.of i⟩,.inr ⟨h,_,z,z,_,rfl,rfl,i,by lia,by lia,?_,rA A,?_⟩⟩;·rw[cS,CW (by lia) (by lia)];simp
   have X:(iN g).eraseIdx z=iN (g.eraseIdx z):=by unfold iN;rw[w8,w8,dQ,List.map_take,List.map_drop]
   rw[X];have Y:upd H4 h (.lst (iN (g.eraseIdx z))) l=some (.lst (iN os)):=by rw[aS (bA S)];exact o
   refine⟨l,iN os,_,rfl,rfl,Y,K32.uw (by rw[cS];lia),?_⟩;have Z:g.getD z 0=g[z]:=by rw[ae,aa A];rfl
   rw[Z,<-uU];refine⟨g.eraseIdx z,os++[g[z]],_,_,_,?_,eX (eX L a0) O,?_,au,?_,rfl⟩;·rw[lz A];lia
   ·rw[aS S];exact au
   ·rw[mJ];exact((tT g z A).append_left os).trans C
  unfold lU;walk_at "wp";refine⟨⟨by decide,by decide⟩,Or.inl ⟨h,_,rfl,.inl (SqL.of i),?_⟩⟩;rw[cS];refine i9.mpr ⟨w,?_⟩;unfold lT;walk_at "wp";refine Or.inl ⟨h,_,rfl,.inl (SqL.of i),?_⟩;rw[cS];refine Lh.mpr ⟨_,rfl,?_⟩;by_cases hge:(g.length:Int)<=j;·rw[decide_eq_true hge,if_pos rfl];refine Or.inl ⟨h,_,rfl,.inl (SqL.of i),?_⟩;rw[cS];refine i9.mpr ⟨w,?_⟩;unfold kj;walk_at "wp";refine Or.inl ⟨h,_,rfl,.inl (SqL.of i),?_⟩;rw[cS];refine div_ii.mpr ⟨⟨w,by lia⟩,?_⟩;exact N _ _ (cC _ (by lia)) (bV _ w)
  ·rw[decide_eq_false hge,if_neg ao];exact N _ _ (cC _ (by lia)) (bV _ w)
noncomputable def jz(a:Nat->Int)(b:List Nat)(k:Nat):List (List Int):=(aG k).map fun j:Nat=>[a j,(j:Int),(b.getD j 0:Nat)]
theorem EW(d:Nat->Int)(f:List Nat)(k:Nat):(jz d f k).Nodup:=by
 unfold jz;refine cZ.mpr (xk.imp ?_);intro a b c e;injection e with _ e
 injection e with e _;exact c (by lia)
theorem G7(a:Nat->Int)(b:List Nat)(k:Nat):jz a b (k+1)=jz a b k++[[a k,(k:Int),(b.getD k 0:Nat)]]:=by unfold jz;rw[kA,dQ];rfl
noncomputable def rank(a:Int)(j:Nat):Int:=(a+1)*(31*(j:Int)*(j:Int)+17*(j:Int)+7)%10007
theorem GO{c:Nat->Int}{b:List Nat}(h:_root_.Q.IntKeys H ys (jz c b b.length)):∃os:List Nat,os.Perm b/\os.length=b.length/\(_root_.Q.cj V.non (jz c b b.length) ys).length=os.length/\∀(i:Nat) v,(_root_.Q.cj V.non (jz c b b.length) ys)[i]? =some v->∃a x y,v=.ref a/\H a=some (.tup [x,y,.int (os.getD i 0:Nat)]):=by
 have s:=K32.fg h;have q:(jz c b b.length).length=b.length:=by simp[jz]
 have k:=_root_.Q.lF (EW c b b.length);rw[q]at k;refine⟨(_root_.Q.vG (jz c b b.length)).map fun i=>b.getD i 0,?_,by rw[ai,k.length_eq,ba],by unfold _root_.Q.cj;rw[ai,ai],fun i v e=>?_⟩;·have h:=k.map fun i=>b.getD i 0;rw[_root_.Q.range_getD]at h;exact h
 ·unfold _root_.Q.cj at e;rw[aA]at e;obtain⟨j,m,rfl⟩:=i7.mp e;have d:j<b.length:=aY.mp (k.mem_iff.mp (aI m));have at_:∀{ys:List V}{g:List (List Int)},_root_.Q.IntKeys H ys g->∀j,j<g.length->∃a,ys.getD j .non=V.ref a/\H a=some (.tup ((g.getD j []).map V.int)):=by
   intro ys g h
   induction h with
   |nil=>intro j d;exact absurd d (dm _)
   |cons r t ih=>
    intro j d;cases j with
    |zero=>obtain⟨a,e,f⟩:=r;exact⟨a,e,f⟩
    |succ j=>exact ih j (by simpa using d)
  obtain⟨a,n,l⟩:=at_ h j (by lia);have o:(jz c b b.length).getD j []=[c j,(j:Int),(b.getD j 0:Nat)]:=by unfold jz;rw[ae,aA,b9 d];rfl
  rw[o]at l;have p:((_root_.Q.vG (jz c b b.length)).map fun i=>b.getD i 0).getD i 0=b.getD j 0:=by rw[ae,aA,m];rfl
  rw[p];exact⟨a,_,_,n,l⟩
theorem Gz:Sat G K vm rM qW:=by
 rintro S H b6 b5 ⟨D,f,L,free,l,rfl,W,c0,b0,c2,c3,q⟩;unfold rM;change wpB G K _ _ _ [some (.ref D),some (.int f),some (.int L),some (.bl free),none,none,none,none,none,none,none] H;walk_at "wp";refine⟨short (by simp),fun C a1=>?_⟩;unfold nZ;walk_at "wp";refine fJ ?_;walk_at "wp";have R:aQ H (upd H C (.lst [])):=av a1;have U:upd H C (.lst []) C=some (.lst (iN [])):=au;generalize upd H C (.lst [])=H0 at R U⊢;refine Or.inl ⟨D,_,rfl,.inl (SqL.of (R _ _ W)),_,rfl,by rw[cS];lia,by rw[cS];lia,?_⟩;rw[cS,aM];have a2:∀k,k<=l.length->(gO l k).length<=60:=fun k s=>by rw[qm l k s];exact aP (m6 l k) b0
 refine eZ cR (fun k y w=>aQ H w/\∃h u,H h=none/\w h=some (.lst (iN (gO l k)))/\y=[some (.ref D),some (.int f),some (.int L),some (.bl free),some (.ref h),u,none,none,none,none,none])
  ⟨R,C,none,a1,U,rfl⟩ (fun _ _ _ _ _=>trivial) ?_ ?_
 ·rintro k x y z T D2 s ⟨m,h,u,Y,a,rfl⟩ rfl E O _;have a:=E _ _ a;have m:=m.trans E;walk_at "wp";simp only[eE];refine⟨short (by simp),fun b hb=>?_⟩;generalize hX:upd T b _=A;obtain⟨n,eb⟩:=kc hX hb;clear hX;refine .inl ⟨D,_,k,_,rfl,rfl,SqL.of (n _ _ (m _ _ W)),cn (rA s),?_⟩;have b9:(gO l k).length+l.getD k 0<=60:=by have :=a2 (k+1) s;rw[nK,bw,jG]at this;exact this
  refine .inr (.inl ⟨b,_,_,rfl,rfl,eb,by lia,by lia,K32.eW (by rw[aM,dY,Nat.one_mul];lia),fun c hc=>?_⟩);rw[aM,rep_iN];generalize hX:upd A c _=N;obtain⟨e,ec⟩:=kc hX hc;clear hX;refine .inr (.inr (.inl ⟨h,c,_,_,rfl,rfl,e _ _ (n _ _ a),ec,K32.eW (by rw[cS,cS,jG];lia),fun a5 hd=>?_⟩));rw[<-iN_app,<-nK];have d:=m.trans (n.trans e);exact O _ _ ⟨d.trans (av hd),a5,_,d.free hd,au,rfl⟩
 rintro y z ⟨m,h,u,Y,a,rfl⟩;have Z:=a2 l.length (az _);generalize gO l l.length=ss at q a Z;unfold nY;walk_at "wp";refine⟨short (by simp),fun g J=>?_⟩;have E:aQ z (upd z g (.lst [])):=av J;have r:upd z g (.lst []) g=some (.lst []):=au;have b2:h≠g:=fun b4=>by rw[<-b4,a]at J;cases J
 have a6:H g=none:=m.free J;have a:=E _ _ a;have m:=m.trans E;generalize upd z g (.lst [])=T at r a m⊢;unfold nX;walk_at "wp";refine fJ ?_;walk_at "wp";refine Or.inl ⟨h,_,rfl,.inl (SqL.of a),_,rfl,by rw[cS];lia,by rw[cS];lia,?_⟩;rw[cS,aM];refine eZ cR (fun k y w=>aQ H w/\w h=some (.lst (iN ss))/\∃j x a3,w g=some (.lst j)/\_root_.Q.IntKeys w j (jz (rank f) ss k)/\y=[some (.ref D),some (.int f),some (.int L),some (.bl free),some (.ref h),u,some (.ref g),x,a3,none,none])
  ⟨m,a,[],none,none,r,.nil,rfl⟩ (fun _ _ _ _ _=>trivial) ?_ ?_
 ·rintro k x y A N D2 s ⟨n,a,j,x',y',r,t,rfl⟩ rfl e O _;have a:=e _ _ a;have r:=e _ _ r;have t:=K32.eB (K32.Tk.of e) t;have n:=n.trans e;have P:=K32.fg t;rw[show(jz (rank f) ss k).length=k by simp[jz]]at P;walk_at "wp";simp only[eE];have b8:0<=31*(k:Int)*(k:Int)/\31*(k:Int)*(k:Int)<=111600:=by have h1:0<=(k:Int)*(k:Int):=Int.mul_nonneg (by lia) (by lia);have h2:(k:Int)*(k:Int)<=60*60:=Int.mul_le_mul (by lia) (by lia) (by lia) (by decide);rw[Int.mul_assoc];lia
  refine⟨FW (by decide) (by decide),wC (by lia) (by lia),FW (by decide) (by decide),FW (by lia) (by lia),by decide,?_⟩;rw[show(f+1)*(31*(k:Int)*(k:Int)+17*(k:Int)+7)%10007=rank f k from rfl];unfold lV;walk_at "wp";refine⟨.inl ⟨rfl,_,SqL.of r⟩,.inl ⟨h,_,k,_,rfl,rfl,SqL.of a,cn (rA s),short (by simp),fun p hp=>?_⟩⟩;generalize hX:upd N p _=B;obtain⟨d,ep⟩:=kc hX hp;clear hX;have X:=d _ _ r;refine⟨g,j,_,rfl,rfl,X,K32.uw (by lia),?_⟩;have tk:K32.Tk B (upd B g (.lst (j++[.ref p]))):=K32.sA X;refine O _ _ ⟨eX (n.trans d) a6,?_,_,_,_,au,?_,rfl⟩;·rw[aS b2];exact d _ _ a
  ·rw[G7];exact K32.Paired.snoc ⟨p,rfl,tk _ _ ep⟩ (K32.eB tk (K32.eB (K32.Tk.of d) t))
 rintro y A ⟨n,a,j,x',y',r,t,rfl⟩;have P:=K32.fg t;rw[show(jz (rank f) ss ss.length).length=ss.length by simp[jz]]at P;unfold nW;walk_at "wp";refine⟨free,rfl,?_⟩;cases free with
 |true=>rw[if_neg (by simp)];exact IK (F:=ss) rfl n Y a Z q
 |false=>
  rw[if_pos (by simp)];refine dH ?_;walk_at "wp";refine⟨g,j,_,3,rfl,SqL.of r,by simp[jz];lia,EW _ _ _,fun k s=>?_,t,fun M a9=>?_⟩;·unfold jz at s;obtain⟨c5,_,rfl⟩:=aF.mp s;rfl
  obtain⟨Q,b3,c1,a8,a0⟩:=GO t;have e:=av (o:=.lst (_root_.Q.cj V.non (jz (rank f) ss ss.length) j)) a9;have I:upd A M (.lst (_root_.Q.cj V.non (jz (rank f) ss ss.length) j)) M=some (.lst (_root_.Q.cj V.non (jz (rank f) ss ss.length) j)):=au;generalize _root_.Q.cj V.non (jz (rank f) ss ss.length) j=zs at e I a8 a0⊢;generalize upd A M (.lst zs)=N at e I⊢;refine⟨M,rfl,⟨_,SqL.of I⟩,eJ (dZ (xs:=zs)) (K32.eW (by lia)) (fun B d=>d.seq (SqL.of I)) (fun i v _=>v=.int (Q.getD i 0:Nat)) (fun _ _ _ _ _ a7=>a7) (fun τ=>∃u,τ=[u]) ⟨none,rfl⟩ ?_ ?_⟩;·rintro i v τ B b7 hi ⟨u,rfl⟩ d hv kk;obtain⟨a4,x,a3,rfl,ea⟩:=a0 i v hv;walk_at "wp";exact .inr (.inl ⟨a4,_,2,_,rfl,rfl,SqT.of (d _ _ (e _ _ ea)),rfl,kk _ _ _ ⟨_,rfl⟩ (aQ.refl _) rfl⟩)
  ·intro S B b1 c4 hF d hl;have ev:S=iN Q:=by
    unfold iN;apply jo;intro i;rw[aA];by_cases hi:i<S.length;·rw[aa hi,hF i _ (aa hi),aa (by lia),ae,aa (by lia)];rfl
    ·rw[bY (by lia),bY (by lia)];rfl
   rw[ev];refine⟨short (by simp),fun p hp=>?_⟩;have s6:=n.trans (e.trans d);exact q _ p b1 Q L (s6.trans ((av hl).trans (av hp))) au (s6.free hl) (av hp _ _ au) b3
end
end Bt
namespace Bt
open PySem R
noncomputable def Bj:List Str:=["_law_parents","_law_owners_here","_law_seed","_law_bits","_law_free"]
noncomputable def tL:List Str:=["_law_parents","_law_owners_here","_law_seed","_law_bits","_law_free","_law_first","_law_place","_law_nodes_here","_law_edge","_law_above"]
noncomputable def pN:CB:=
  (.cons (.ret (.var 7))
  .nil)
noncomputable def mP:CB:=
  (.cons (.expr (.meth1 .append (.var 7) (.bfn .tuple (.cons (.comp ["_law_k"] [9,8,1] (.name 0) (.range1 (.bfn .len (.cons (.var 1) .nil))) .no (.bin .Mod (.bin .Add (.idx (.var 1) (.var 0)) (.bfn .int (.cons (.cmp .Eq (.idx (.var 3) (.var 0)) (.var 2)) .nil))) (.con (.int 2)))) .nil))))
  .nil)
noncomputable def pO:CB:=
  (.cons (.forr (.name 8) (.range2 (.con (.int 1)) (.bfn .len (.cons (.var 0) .nil)))
  (.cons (.asg (.name 9) (.idx (.var 7) (.idx (.var 0) (.var 8))))
  mP))
  pN)
noncomputable def pP:CB:=
  (.cons (.asg (.name 7) (.lst (.cons (.bfn .tuple (.cons (.var 5) .nil)) .nil)))
  pO)
noncomputable def hV:CB:=
  (.cons (.asg (.name 3) (.bin .FloorDiv (.var 3) (.con (.int 2))))
  .nil)
noncomputable def pQ:CB:=
  (.cons (.forr (.name 6) (.range1 (.bfn .len (.cons (.var 1) .nil)))
  (.cons (.expr (.meth1 .append (.var 5) (.bin .Mod (.idx (.lst (.cons (.bin .FloorDiv (.var 2) (.bin .Add (.var 6) (.con (.int 1)))) (.cons (.var 3) .nil))) (.bfn .int (.cons (.and (.var 4) (.cmp .Gt (.var 3) (.con (.int 1)))) .nil))) (.con (.int 2)))))
  hV))
  pP)
noncomputable def tX:CB:=
  (.cons (.asg (.name 5) (.lst .nil))
  pQ)
noncomputable def DF:List Str:=["_law_k","_law_seed"]
noncomputable def vR:List Str:=["_law_k","_law_seed","_law_place","_law_word"]
noncomputable def rN:CB:=
  (.cons (.ret (.bin .Add (.bin .Add (.var 3) (.idx (.con (.str "xy")) (.bin .FloorDiv (.var 0) (.con (.int 25))))) (.cut (.con (.str "mmm")) (.yes (.var 2)) .no)))
  .nil)
noncomputable def rO:CB:=
  (.cons (.asg (.name 3) (.bin .Add (.cut (.con (.str "mmm")) .no (.yes (.var 2))) (.idx (.con (.str "abcdefghijklnopqrstuvwxyz")) (.bin .Mod (.bin .Add (.bin .Mult (.var 0) (.con (.int 7))) (.var 1)) (.con (.int 25))))))
  rN)
noncomputable def wM:CB:=
  (.cons (.asg (.name 2) (.bin .Mod (.var 1) (.con (.int 4))))
  rO)
end Bt
namespace Bt
open PySem PySem.Spec PyProof.Rows L2 R Cp Lt Kc
noncomputable def LB:Str:="abcdefghijklnopqrstuvwxyz"
noncomputable def nmT(pl a b:Nat):Str:=((wA "mmm" none (some (pl:Int))++(⟨#[LB.cps.toList.getD a 0]⟩:Str))++(⟨#[(bf "xy").cps.toList.getD b 0]⟩:Str))++wA "mmm" (some (pl:Int)) none
theorem nmT_ok:∀(pl:Fin 4)(a:Fin 25)(b:Fin 2),iu (nmT pl a b)=true:=by decide+kernel
theorem nmT_inj:∀(pl:Fin 4)(a:Fin 25)(b:Fin 2)(c:Fin 25)(d:Fin 2),nmT pl a b=nmT pl c d->a=c/\b=d:=by decide+kernel
noncomputable def nmB(a:Int)(k:Nat):Str:=nmT (a%4).toNat (((k:Int)*7+a)%25).toNat (k/25)
theorem mD{m:Int}(n:Nat)(h:0<n):∃z:Nat,m%(n:Int)=(z:Int)/\z<n:=by obtain⟨z,a⟩:=b8 (cC m (by lia:(n:Int)≠0));have :=bV m (by lia:(0:Int)<(n:Int));exact⟨z,a,by lia⟩
theorem nmB_ok{b:Int}(h:k<50):iu (nmB b k)=true:=by obtain⟨p,hp,e⟩:=mD (m:=b) 4 (by decide);obtain⟨a,c,d⟩:=mD (m:=(k:Int)*7+b) 25 (by decide);unfold nmB;rw[show(4:Int)=((4:Nat):Int)from rfl,show(25:Int)=((25:Nat):Int)from rfl,hp,c];exact nmT_ok ⟨p,e⟩ ⟨a,d⟩ ⟨k/25,by lia⟩
theorem nmB_inj{c:Int}(hi:i<50)(r:j<50)(h:nmB c i=nmB c j):i=j:=by obtain⟨p,hp,n⟩:=mD (m:=c) 4 (by decide);obtain⟨a,f,k⟩:=mD (m:=(i:Int)*7+c) 25 (by decide);obtain⟨b,g,l⟩:=mD (m:=(j:Int)*7+c) 25 (by decide);unfold nmB at h;rw[show(4:Int)=((4:Nat):Int)from rfl,show(25:Int)=((25:Nat):Int)from rfl,hp,f,g]at h;obtain⟨d,e⟩:=nmT_inj ⟨p,n⟩ ⟨a,k⟩ ⟨i/25,by lia⟩ ⟨b,l⟩ ⟨j/25,by lia⟩ h;have d:a=b:=congrArg Fin.val d;have e:i/25=j/25:=congrArg Fin.val e;have o:((i:Int)*7+c)%25=(a:Int):=f;have q:((j:Int)*7+c)%25=(b:Int):=g;lia
def spNm:Sp:=fun vs H Q _=>∃(k:Nat)(a:Int),vs=[.int k,.int a]/\k<50/\Q (.str (nmB a k)) H
theorem lb_len:LB.cps.toList.length=25:=by decide+kernel
theorem lb_len':LB.length<=sizeLine:=by decide+kernel
theorem cut3:∀pl:Fin 4,(wA "mmm" none (some (pl.val:Int))).length<=3/\(wA "mmm" (some (pl.val:Int)) none).length<=3:=by decide+kernel
theorem Bu(c:Nat):(⟨#[c]⟩:Str).length=1:=rfl
theorem wp_nm:Sat G K spNm wM vR:=by
 rintro o H Q E ⟨k,b,rfl,n,q⟩;unfold wM;change wpB G K _ _ _ [some (.int k),some (.int b),none,none] H;walk_at "wp";refine⟨by decide,?_⟩;obtain⟨p,hp,i⟩:=mD (m:=b) 4 (by decide);obtain⟨a,c,l⟩:=mD (m:=(k:Int)*7+b) 25 (by decide);have hp:b%4=(p:Int):=hp;have c:((k:Int)*7+b)%25=(a:Int):=c;unfold nmB at q;rw[hp,c,aM,aM]at q;rw[hp];obtain⟨d,e⟩:=cut3 ⟨p,i⟩;have d:(wA (bf "mmm") none (some (p:Int))).length<=3:=d;have e:(wA (bf "mmm") (some (p:Int)) none).length<=3:=e;unfold rO;walk_at "wp";refine⟨by decide+kernel,wC (by decide) (by decide),by decide,?_⟩;rw[c];have g:LB.cps.toList[a]? =some (LB.cps.toList.getD a 0):=by rw[ae,aa (by rw[lb_len];lia)];rfl
 refine⟨_,lb_len',cn g,?_⟩;refine⟨short (by rw[Bu];lia),?_⟩;unfold rN;walk_at "wp";refine⟨⟨by decide,by decide⟩,?_⟩;have h:(k:Int)/25=((k/25:Nat):Int):=by lia
 have j:(bf "xy").cps.toList[k/25]? =some ((bf "xy").cps.toList.getD (k/25) 0):=by
  have f:(bf "xy").cps.toList.length=2:=by decide+kernel
  rw[ae,aa (by rw[f];lia)];rfl
 rw[h];refine⟨_,by decide+kernel,cn j,short (by rw[qi,Bu,Bu];lia),by decide+kernel,short (by rw[qi,qi,Bu,Bu];lia),?_⟩;exact q
end Bt
namespace Bt
open PySem PySem.Spec PyProof.Rows L2 R Cp Lt Kc Mt
noncomputable abbrev fn(ks:List Nat):Nat->Nat:=fun i=>ks.getD i 0
def y8:Sp:=fun vs H Q _=>∃(a lo:Addr)(c b:Int)(free:Bool)(ps os:List Nat),vs=[.ref a,.ref lo,.int c,.int b,.bl free]/\H a=some (.lst (iN ps))/\H lo=some (.lst (iN os))/\1<=ps.length/\ps.length<=31/\os.length<=60/\(∀v,1<=v->v<ps.length->ps.getD v 0<v)/\
 ∀(H':Hp)(nl:Addr)(ys:List V)(f:Nat->Int),aQ H H'->H nl=none->H' nl=some (.lst ys)->(∀p,p<os.length->f p=0\/f p=1)->_root_.Q.IntKeys H' ys ((aG ps.length).map (nd f (fn os) (fn ps) os.length))->Q (.ref nl) H'
section
variable {G:Gam}{K:ah}
theorem nd_zero{fs:List Int}{own par:Nat->Nat}:nd (fun p=>fs.getD p 0) own par fs.length 0=fs:=by
 unfold nd;apply bS;·simp
 ·intro i b a;rw[bH,i5,JP,ae,aa a];rfl
theorem IL:Sat G K y8 tX tL:=by
 rintro vs H c1 a4 ⟨E,lo,O,y,free,d,c,rfl,ea,X,c4,c5,c3,b0,b8⟩;unfold tX;change wpB G K _ _ _ [some (.ref E),some (.ref lo),some (.int O),some (.int y),some (.bl free),none,none,none,none,none] H;walk_at "wp";refine⟨short (by simp),fun g a9=>?_⟩;have s1:aQ H (upd H g (.lst [])):=av a9;have A:upd H g (.lst []) g=some (.lst (([]:List Int).map V.int)):=au;generalize upd H g (.lst [])=B at s1 A⊢;unfold pQ;walk_at "wp";refine fJ ?_;walk_at "wp";refine Or.inl ⟨lo,_,rfl,.inl (SqL.of (s1 _ _ X)),_,rfl,by rw[cS];lia,by rw[cS];lia,?_⟩;rw[cS,aM];refine eZ cR (fun k F I=>aQ H I/\∃(fs:List Int)(y:Int)(u:Option V),I g=some (.lst (fs.map V.int))/\fs.length=k/\(∀x∈fs,x=0\/x=1)/\F=[some (.ref E),some (.ref lo),some (.int O),some (.int y),some (.bl free),some (.ref g),u,none,none,none])
  ⟨s1,[],y,none,A,rfl,(fun x hx=>by cases hx),rfl⟩ (fun _ _ _ _ _=>trivial) ?_ ?_
 ·rintro k x F C H3 T hk ⟨J,fs,y,u,A,a0,Z,rfl⟩ rfl Q Y _;have A:=Q _ _ A;have J:=J.trans Q;walk_at "wp";simp only[eE];refine⟨.inl ⟨rfl,_,SqL.of A⟩,⟨by lia,by lia⟩,short (by simp),fun b hb=>?_⟩;generalize hX:upd H3 b _=M;obtain⟨L,eb⟩:=kc hX hb;clear hX;have w:=J.trans L;have b4:=L _ _ A;have b3:∀z:Int,rMm .append (V.ref g) [V.int (z%2)] M fun _ B=>wpB G K (fun _=>a4) hV T [some (.ref E),some (.ref lo),some (.int O),some (.int y),some (.bl free),some (.ref g),some (.int k),none,none,none] B:=fun z=>by
   refine⟨g,_,_,rfl,rfl,b4,K32.uw (by rw[ai];lia),?_⟩;rw[show fs.map V.int++[V.int (z%2)]=(fs++[z%2]).map V.int by simp];unfold hV;walk_at "wp";refine⟨⟨by decide,by decide⟩,Y _ _ ⟨eX w a9,fs++[z%2],_,_,au,by simp[a0],fun x hx=>?_,rfl⟩⟩;rcases dh.mp hx with hx|hx;·exact Z x hx
   ·rw[bg.mp hx];lia
  have key:∀W:Bool,rBf K .int [V.bl W] M (fun a3 C=>rIx K (V.ref b) a3 C fun x B=>qM K Operator.Mod x (V.int 2) B fun x B=>rMm .append (V.ref g) [x] B fun _ B=>wpB G K (fun _=>a4) hV T [some (.ref E),some (.ref lo),some (.int O),some (.int y),some (.bl free),some (.ref g),some (.int k),none,none,none] B):=fun W=>by
   cases W with
   |true=>exact .inr ⟨true,rfl,.inl ⟨b,_,1,_,rfl,rfl,SqL.of eb,rfl,i9.mpr ⟨by decide,b3 _⟩⟩⟩
   |false=>exact .inr ⟨false,rfl,.inl ⟨b,_,0,_,rfl,rfl,SqL.of eb,rfl,i9.mpr ⟨by decide,b3 _⟩⟩⟩
  split;·exact key _
  ·exact key _
 rintro F C ⟨J,fs,y,u,A,a0,Z,rfl⟩;have hf:∀p,p<c.length->fs.getD p 0=0\/fs.getD p 0=1:=fun p hp=>by rw[ae,aa (by lia)];exact Z _ (bo _)
 unfold pP;walk_at "wp";refine⟨g,_,rfl,.inl ⟨SqL.of A,fun l b1=>⟨short (by simp),fun i a1=>?_⟩⟩⟩;have Q:aQ C (upd (upd C l (.tup (fs.map V.int))) i (.lst [.ref l])):=(av b1).trans (av a1);have a6:upd (upd C l (.tup (fs.map V.int))) i (.lst [.ref l]) l=some (.tup (fs.map V.int)):=av a1 _ _ au;have s:upd (upd C l (.tup (fs.map V.int))) i (.lst [.ref l]) i=some (.lst [.ref l]):=au;have a8:H i=none:=(J.trans (av b1)).free a1;have L:=J.trans Q;generalize upd (upd C l (.tup (fs.map V.int))) i (.lst [.ref l])=H3 at a6 s L⊢;have hz:nd (fun p=>fs.getD p 0) (fn c) (fn d) c.length 0=fs:=by rw[<-a0];exact nd_zero
 unfold pO;walk_at "wp";refine fJ ?_;walk_at "wp";refine Or.inl ⟨E,_,rfl,.inl (SqL.of (L _ _ ea)),?_⟩;rw[cS];refine⟨_,_,rfl,⟨by lia,by lia,by lia,by lia⟩,?_⟩;refine eZ cR (fun m F I=>aQ H I/\∃(q:List V)(x a3:Option V),I i=some (.lst q)/\_root_.Q.IntKeys I q ((aG (m+1)).map (nd (fun p=>fs.getD p 0) (fn c) (fn d) c.length))/\F=[some (.ref E),some (.ref lo),some (.int O),some (.int y),some (.bl free),some (.ref g),u,some (.ref i),x,a3])
  ⟨L,[.ref l],none,none,s,.cons ⟨l,rfl,by rw[hz];exact a6⟩ .nil,rfl⟩ (fun _ _ _ _ _=>trivial) ?_ ?_
 ·rintro m x F M H5 T hm ⟨w,q,x',y',s,D,rfl⟩ rfl s6 Y _;have s:=s6 _ _ s;have D:=K32.eB (K32.Tk.of s6) D;have w:=w.trans s6;have b7:=K32.fg D;rw[ai,ba]at b7;have hv:m+1<d.length:=by lia
  have ev:(1:Int)+(m:Int)=((m+1:Nat):Int):=by lia
  rw[ev];generalize hvv:m+1=v at *;have b6:=b0 v (by lia) hv;walk_at "wp";refine .inl ⟨E,_,v,_,rfl,rfl,SqL.of (w _ _ ea),cn (rA hv),?_⟩
  --the parent's readings
  have at_:∀{q:List V}{P:List (List Int)},_root_.Q.IntKeys H5 q P->∀j,j<P.length->∃a,q[j]? =some (V.ref a)/\H5 a=some (.tup ((P.getD j []).map V.int)):=by
   intro q P h
   induction h with
   |nil=>intro j hj;exact absurd hj (dm _)
   |cons r t ih=>
    intro j hj;cases j with
    |zero=>obtain⟨a,rfl,f⟩:=r;exact⟨a,rfl,f⟩
    |succ j=>exact ih j (by simpa using hj)
  obtain⟨ra,b5,a7⟩:=at_ D (d.getD v 0) (by rw[ai,ba];lia);have ek:((aG v).map (nd (fun p=>fs.getD p 0) (fn c) (fn d) c.length)).getD (d.getD v 0) []=nd (fun p=>fs.getD p 0) (fn c) (fn d) c.length (d.getD v 0):=by rw[ae,aA,b9 b6];rfl
  rw[ek]at a7;refine .inl ⟨i,_,d.getD v 0,_,rfl,rfl,SqL.of s,cn b5,?_⟩;unfold mP;walk_at "wp";refine⟨.inl ⟨rfl,_,SqL.of s⟩,?_⟩;refine dH ?_;walk_at "wp";refine Or.inl ⟨lo,_,rfl,.inl (SqL.of (w _ _ X)),_,rfl,by rw[cS];lia,by rw[cS];lia,?_⟩;rw[cS,aM];refine eJ cR (K32.eW (by lia)) (fun _ _=>trivial) (fun p c0 _=>c0=.int (rdv (fun p=>fs.getD p 0) (fn c) (fn d) v p)) (fun _ _ _ _ _ h=>h) (fun τ=>∃u,τ=[u,some (.ref ra),some (.int v),some (.ref lo)]) ⟨none,rfl⟩ ?_ ?_
  ·rintro p x τ U c2 hp ⟨u,rfl⟩ R rfl kk;walk_at "wp";simp only[eE];refine .inr (.inl ⟨ra,_,p,_,rfl,rfl,SqT.of (R _ _ a7),cn (K32.iV (by rw[vP];exact hp)),?_⟩);rw[eG hp];refine .inl ⟨lo,_,p,_,rfl,rfl,SqL.of (R _ _ (w _ _ X)),cn (rA hp),?_⟩;refine kT.mpr (.inr ⟨_,rfl,?_⟩);refine wU.mpr (i9.mpr ⟨by decide,kk _ _ _ ⟨_,rfl⟩ (aQ.refl _) ?_⟩);have e:=JQ (f:=fun p=>fs.getD p 0) (own:=fn c) (par:=fn d) (n:=c.length) (N:=d.length) b0 hf (v:=v) (p:=p) (by lia) hv hp;rw[<-e];by_cases h:c.getD p 0=v;·rw[decide_eq_true (by lia:((c.getD p 0:Nat):Int)=(v:Int)),if_pos rfl,if_pos h]
   ·rw[decide_eq_false (by lia:¬((c.getD p 0:Nat):Int)=(v:Int)),if_neg ao,if_neg h]
  ·intro vs U a2 c6 hF R hl;have e:vs=(nd (fun p=>fs.getD p 0) (fn c) (fn d) c.length v).map V.int:=by
    unfold nd;apply jo;intro b2;rw[aA,aA];by_cases hi:b2<vs.length;·rw[aa hi,b9 (by lia),hF b2 _ (aa hi)];rfl
    ·rw[bY (by lia),bY (by rw[ba];lia)];rfl
   rw[e];refine⟨a2,_,rfl,.inl ⟨SqL.of au,fun r hr=>?_⟩⟩;have S:=R.trans ((av (o:=.lst ((nd (fun p=>fs.getD p 0) (fn c) (fn d) c.length v).map V.int)) hl).trans (av (o:=.tup ((nd (fun p=>fs.getD p 0) (fn c) (fn d) c.length v).map V.int)) hr));have er:upd (upd U a2 (.lst ((nd (fun p=>fs.getD p 0) (fn c) (fn d) c.length v).map V.int))) r (.tup ((nd (fun p=>fs.getD p 0) (fn c) (fn d) c.length v).map V.int)) r=some (.tup ((nd (fun p=>fs.getD p 0) (fn c) (fn d) c.length v).map V.int)):=au;generalize upd (upd U a2 (.lst ((nd (fun p=>fs.getD p 0) (fn c) (fn d) c.length v).map V.int))) r (.tup ((nd (fun p=>fs.getD p 0) (fn c) (fn d) c.length v).map V.int))=H7 at S er⊢;have a5:=S _ _ s;refine⟨i,q,_,rfl,rfl,a5,K32.uw (by lia),?_⟩;have tk:K32.Tk H7 (upd H7 i (.lst (q++[.ref r]))):=K32.sA a5;refine Y _ _ ⟨eX (w.trans S) a8,_,_,_,au,?_,rfl⟩;rw[kA,dQ];exact K32.Paired.snoc ⟨r,rfl,tk _ _ er⟩ (K32.eB tk (K32.eB (K32.Tk.of S) D))
 rintro F M ⟨w,q,x',y',s,D,rfl⟩;unfold pN;walk_at "wp";refine b8 M i q (fun p=>fs.getD p 0) w a8 s hf ?_;have e:((d.length:Int)-1).toNat+1=d.length:=by lia
 rw[e]at D;exact D
end
end Bt
namespace Bm
open Mt
section
variable {par:Nat->Nat}{N:Nat}(hp:∀v,1<=v->v<N->par v<v)
noncomputable def kids(par:Nat->Nat)(N v:Nat):List Nat:=(aG N).filter fun u=>decide (1<=u/\par u=v)
theorem eI{u:Nat}:u∈kids par N v↔u<N/\1<=u/\par u=v:=by unfold kids;rw[dO,aY,decide_eq_true_eq]
theorem uS:(kids par N v).Nodup:=xk.sublist kL
theorem other{l:List Nat}(nd:l.Nodup)(h:2<=l.length)(x:Nat):∃u∈l,u≠x:=by
 match l,nd,h with
 |a::b::r,nd,_=>
  by_cases e:a=x;·refine⟨b,by simp,fun z=>?_⟩;rw[bP]at nd;exact nd.1 (by rw[e,<-z];simp)
  ·exact⟨a,by simp,e⟩
theorem third{l:List Nat}(nd:l.Nodup)(h:3<=l.length)(x y:Nat):∃u∈l,u≠x/\u≠y:=by
 match l,nd,h with
 |a::b::c::r,nd,_=>
  simp only[bP,aH,not_or]at nd;obtain⟨⟨i,j,_⟩,⟨m,_⟩,_⟩:=nd;apply aN;intro f;have d:∀u∈a::b::c::r,u=x\/u=y:=fun u g=>by
   apply aN
   intro k;exact f ⟨u,g,fun e=>k (.inl e),fun e=>k (.inr e)⟩
  have n:=d a (by simp);have o:=d b (by simp);have p:=d c (by simp);lia
noncomputable def near(par:Nat->Nat)(N v:Nat):Nat:=(kids par N v).length+if v=0 then 0 else 1
include hp
theorem mB{u e:Nat}(b:u<N)(a:1<=u):on par e u=(decide (u=e)||on par e (par u)):=jH hp a b
def Und(par:Nat->Nat)(c g:Nat):Prop:=(c=0/\1<=g)\/(on par c g=true/\g≠c)
theorem EF{c u g:Nat}(d:u<N)(b:1<=u)(e:par u=c)(a:g<N)(h:on par u g=true):Und par c g:=by
 by_cases c0:c=0;·exact .inl ⟨c0,by have :=pC hp g a h;lia⟩
 ·have i:=hp u b d;rw[e]at i;have f:on par c u=true:=by rw[mB hp d b,e,jh hp (by lia) (by lia),pb]
  have :=pC hp g a h;exact .inr ⟨vJ hp g a h f,by lia⟩
theorem down{cp:Nat->Prop}(w:∀v,v<N->¬cp v->3<=near par N v){e g:Nat}(i:g<N):∀(k c:Nat),N-c<=k->c<N->¬Und par c g->∃d,d<N/\cp d/\on par e d=on par e c/\on par g d=on par g c:=by
 intro k
 induction k with
 |zero=>intro c h f;lia
 |succ k ih=>
  intro c h f l;by_cases hcp:cp c;·exact⟨c,f,hcp,rfl,rfl⟩
  ·have j:=w c f hcp;have q:2<=(kids par N c).length:=by unfold near at j;split at j<;>lia
   obtain⟨u,s,r⟩:=other uS q e;obtain⟨u1,a,b⟩:=eI.mp s;have x:=hp u a u1;have t:u≠g:=fun z=>l (EF hp u1 a b i (by rw[<-z];exact jh hp a u1));obtain⟨d,m,n,o,p⟩:=ih u (by lia) u1 fun z=>by
    rcases z with⟨z,_⟩ |⟨z,_⟩;·lia
    ·exact l (EF hp u1 a b i z)
   refine⟨d,m,n,?_,?_⟩;·rw[o,mB hp u1 a,decide_eq_false r,bO,b]
   ·rw[p,mB hp u1 a,decide_eq_false t,bO,b]
theorem toward{e:Nat}(a:e<N)(l:v<N):Und par v e->∃u,u∈kids par N v/\on par u e=true:=by
 induction e using kK with
 |ind e ih=>
  intro h;have b:1<=e:=by
   rcases h with⟨_,h⟩ |⟨h,_⟩;·exact h
   ·have :=pC hp e a h;lia
  have g:=hp e b a;by_cases c:par e=v;·exact⟨e,eI.mpr ⟨a,b,c⟩,jh hp b a⟩
  ·have d:Und par v (par e):=by
    rcases h with⟨f,_⟩ |⟨h,i⟩;·exact .inl ⟨f,by lia⟩
    ·rw[jH hp b a,decide_eq_false i,bO]at h;exact .inr ⟨h,c⟩
   obtain⟨u,k,j⟩:=ih (par e) g (by lia) d;exact⟨u,k,by rw[jH hp b a,j,pb]⟩
theorem oP{u w e:Nat}(p:e<N)(r:u∈kids par N v)(s:w∈kids par N v)(i:on par u e=true)(j:on par w e=true):u=w:=by
 obtain⟨a,b,c⟩:=eI.mp r;obtain⟨d,f,g⟩:=eI.mp s;have key:∀{x y:Nat},x<N->1<=x->par x=v->y<N->1<=y->par y=v->on par x e=true->on par y e=true->x<=y->x=y:=fun{x y} k l C m n o t A B=>by
  apply aN
  intro q;have :=vK hp e p A t B;rw[jH hp n m,decide_eq_false (fun z=>q z.symm),bO,o]at this;have D:=hp x l k;have :=pC hp v (by lia) this;lia
 rcases Nat.le_total u w with h|h;·exact key a b c d f g i j h
 ·exact(key d f g a b c j i h).symm
theorem there{cp:Nat->Prop}(p:∀v,v<N->¬cp v->3<=near par N v){e g:Nat}(b:v<N)(s:e<N)(n:g<N):∃d,d<N/\cp d/\on par e d=on par e v/\on par g d=on par g v:=by
 by_cases hcp:cp v;·exact⟨v,b,hcp,rfl,rfl⟩
 have D:=p v b hcp;refine(sg (Und par v g)).elim (fun Q=>?_) (fun Q=>down hp p n _ v (az _) b Q);refine(sg (Und par v e)).elim (fun P=>?_) (fun P=>let⟨d,j,k,l,m⟩:=down hp p (e:=g) s _ v (az _) b P;⟨d,j,k,m,l⟩);obtain⟨f,o,M⟩:=toward hp s b P;obtain⟨i,w,O⟩:=toward hp n b Q;obtain⟨G,H,a3⟩:=eI.mp o;obtain⟨r,B,I⟩:=eI.mp w;have step:∀u,u∈kids par N v->u≠e->u≠g->¬Und par u g->∃d,d<N/\cp d/\on par e d=on par e v/\on par g d=on par g v:=fun u a L F h=>by
  obtain⟨u1,y,A⟩:=eI.mp a;obtain⟨d,j,k,l,m⟩:=down hp p n _ u (az _) u1 h;refine⟨d,j,k,?_,?_⟩;·rw[l,mB hp u1 y,decide_eq_false L,bO,A]
  ·rw[m,mB hp u1 y,decide_eq_false F,bO,A]
 have W:∀{u},u∈kids par N v->u≠i->¬Und par u g:=fun{u} a t z=>by
  rcases z with⟨z,_⟩ |⟨z,_⟩;·have :=(eI.mp a).2.1;lia
  ·exact t (oP hp n a w z O)
 have nk:∀{u x},u∈kids par N v->x<N->(∀c,c∈kids par N v->on par c x=true->u≠c)->u≠x:=fun{u x} a hx h z=>h u a (by rw[<-z];exact jh hp (eI.mp a).2.1 (eI.mp a).1) rfl;by_cases t3:∃u∈kids par N v,u≠f/\u≠i;·obtain⟨u,a,L,F⟩:=t3;exact step u a (fun z=>L (oP hp s a o (by rw[<-z];exact jh hp (eI.mp a).2.1 (eI.mp a).1) M)) (fun z=>F (oP hp n a w (by rw[<-z];exact jh hp (eI.mp a).2.1 (eI.mp a).1) O)) (W a F)
 have a4:(kids par N v).length<=2:=fT fun h=>t3 (third uS h f i);have v0:v≠0:=fun z=>by unfold near at D;rw[if_pos z]at D;lia
 have a0:2<=(kids par N v).length:=by unfold near at D;rw[if_neg v0]at D;lia
 have C:f≠i:=fun z=>by obtain⟨u,a,t⟩:=other uS a0 f;exact t3 ⟨u,a,t,z▸t⟩
 refine(sg (f=e)).elim (fun J=>?_) (fun J=>?_)
 rotate_left
 ·exact step f o J (fun z=>C (oP hp n o w (by rw[<-z];exact jh hp H G) O)) (W o C)
 refine(sg (i=g)).elim (fun K=>?_) (fun K=>?_)
 rotate_left
 ·obtain⟨d,j,k,l,m⟩:=down hp p (e:=g) s _ i (az _) r (fun z=>by
   rcases z with⟨z,_⟩ |⟨z,_⟩;·lia
   ·exact C (oP hp s o w M z))
  refine⟨d,j,k,?_,?_⟩;·rw[m,mB hp r B,decide_eq_false (fun z=>C (oP hp s o w M (by rw[<-z];exact jh hp B r))),bO,I]
  ·rw[l,mB hp r B,decide_eq_false K,bO,I]
 have E:1<=v:=by lia
 have hw:=hp v E b;have h1:=hp f H G;have h2:=hp i B r;have Y:on par e v=on par e (par v):=by rw[jH hp E b,decide_eq_false (by lia),bO]
 have Z:on par g v=on par g (par v):=by rw[jH hp E b,decide_eq_false (by lia),bO]
 by_cases hcw:cp (par v);·exact⟨par v,by lia,hcw,Y.symm,Z.symm⟩
 have U:=p (par v) (by lia) hcw;have kw:2<=(kids par N (par v)).length:=by unfold near at U;split at U<;>lia
 obtain⟨u,a,t⟩:=other uS kw v;obtain⟨u1,y,A⟩:=eI.mp a;have h3:=hp u y u1;have X:∀{x},x<N->1<=x->par x=v->on par u x=false/\u≠x:=fun{x} x1 x2 x3=>by
  have V:u≠x:=fun z=>by rw[<-z,A]at x3;lia
  refine⟨?_,V⟩;rw[jH hp x2 x1,decide_eq_false (fun z=>V z.symm),bO,x3,jH hp E b,decide_eq_false (fun z=>t z.symm),bO];cases q:on par u (par v)with
  |false=>rfl
  |true=>have :=pC hp _ (by lia) q;lia
 obtain⟨f1,R⟩:=X G H a3;obtain⟨S,T⟩:=X r B I;rw[J]at f1 R;rw[K]at S T;obtain⟨d,j,k,l,m⟩:=down hp p (e:=e) n _ u (az _) u1 (fun z=>by
  rcases z with⟨z,_⟩ |⟨z,_⟩;·lia
  ·rw[S]at z;cases z)
 refine⟨d,j,k,?_,?_⟩;·rw[l,mB hp u1 y,decide_eq_false R,bO,A,Y]
 ·rw[m,mB hp u1 y,decide_eq_false T,bO,A,Z]
end
end Bm
namespace Bt
open PySem R
noncomputable def zF:List Str:=["_law_parents","_law_nodes_here","_law_seed","_law_left","_law_free"]
noncomputable def qX:List Str:=["_law_parents","_law_nodes_here","_law_seed","_law_left","_law_free","_law_table","_law_number","_law_lost","_law_like","_law_near"]
noncomputable def n6:CB:=
  (.cons (.ret (.var 5))
  .nil)
noncomputable def lW:CB:=
  (.cons (.expr (.meth1 .append (.var 5) (.tup (.cons (.call "_law_name" (.cons (.bfn .len (.cons (.var 5) .nil)) (.cons (.var 2) .nil))) (.cons (.idx (.var 1) (.var 6)) .nil)))))
  .nil)
noncomputable def lX:CB:=
  (.cons (.iff (.and (.cmp .Eq (.var 8) (.con (.int 0))) (.cmp .Lt (.bfn .len (.cons (.var 5) .nil)) (.bin .Add (.bin .Sub (.con (.int 40)) (.bfn .len (.cons (.var 1) .nil))) (.var 6))))
  lW
  .nil)
  .nil)
noncomputable def je:CB:=
  (.cons (.expr (.meth1 .append (.var 5) (.tup (.cons (.call "_law_name" (.cons (.bfn .len (.cons (.var 5) .nil)) (.cons (.var 2) .nil))) (.cons (.idx (.var 1) (.var 6)) .nil)))))
  lX)
noncomputable def lY:CB:=
  (.cons (.iff (.and (.cmp .Gt (.var 9) (.con (.int 2))) (.cmp .Eq (.var 7) (.con (.int 0))))
  (.cons (.cont)
  .nil)
  .nil)
  je)
noncomputable def gE:CB:=
  (.cons (.asg (.name 9) (.bin .Add (.bfn .len (.cons (.comp ["_law_one"] [6] (.name 0) (.seq (.cut (.var 0) (.yes (.con (.int 1))) .no)) (.yes (.cmp .Eq (.var 0) (.var 1))) (.var 0)) .nil)) (.bfn .int (.cons (.cmp .Gt (.var 6) (.con (.int 0))) .nil))))
  lY)
noncomputable def kq:CB:=
  (.cons (.asg (.name 3) (.bin .FloorDiv (.var 3) (.con (.int 10))))
  .nil)
noncomputable def iy:CB:=
  (.cons (.asg (.name 8) (.bin .Mod (.bin .FloorDiv (.var 3) (.con (.int 2))) (.con (.int 5))))
  kq)
noncomputable def lZ:CB:=
  (.cons (.iff (.and (.var 4) (.cmp .GtE (.var 3) (.con (.int 10))))
  (.cons (.asg (.name 7) (.bin .Mod (.var 3) (.con (.int 2))))
  iy)
  .nil)
  gE)
noncomputable def l5:CB:=
  (.cons (.asg (.name 8) (.bin .Mod (.bin .FloorDiv (.var 2) (.bin .Add (.var 6) (.con (.int 5)))) (.con (.int 5))))
  lZ)
noncomputable def oa:CB:=
  (.cons (.forr (.name 6) (.range1 (.bfn .len (.cons (.var 1) .nil)))
  (.cons (.asg (.name 7) (.bin .Mod (.bin .FloorDiv (.var 2) (.bin .Add (.var 6) (.con (.int 3)))) (.con (.int 2))))
  l5))
  n6)
noncomputable def rP:CB:=
  (.cons (.asg (.name 5) (.lst .nil))
  oa)
noncomputable def Bo:List Str:=["_law_script","_law_start"]
noncomputable def tO:List Str:=["_law_script","_law_start","_law_parents","_law_many","_law_free","_law_seed","_law_owners_here","_law_left","_law_cell","_law_nodes_here","_law_branches","_law_edge","_law_pair","_law_places","_law_table","_law_at"]
noncomputable def og:CB:=
  (.cons (.ret (.tup (.cons (.bin .Add (.cut (.var 14) (.yes (.var 15)) .no) (.cut (.var 14) .no (.yes (.var 15)))) (.cons (.bfn .sortl (.cons (.var 9) .nil)) (.cons (.bfn .sortt (.cons (.var 10) .nil)) .nil)))))
  .nil)
noncomputable def oh:CB:=
  (.cons (.asg (.name 15) (.bin .Mod (.bin .FloorDiv (.var 5) (.con (.int 11))) (.bfn .len (.cons (.var 14) .nil))))
  og)
noncomputable def pX:CB:=
  (.cons (.asg (.name 14) (.call "_law_copies" (.cons (.var 2) (.cons (.var 9) (.cons (.var 5) (.cons (.var 7) (.cons (.var 4) .nil)))))))
  oh)
noncomputable def mU:CB:=
  (.cons (.expr (.meth1 .append (.var 10) (.tup (.cons (.idx (.var 12) (.con (.int 0))) (.cons (.idx (.var 12) (.con (.int 1))) (.cons (.bfn .tuple (.cons (.var 13) .nil)) .nil))))))
  .nil)
noncomputable def mV:CB:=
  (.cons (.asgc 13 (.comp ["_law_place"] [11,6] (.name 0) (.range1 (.bfn .len (.cons (.var 6) .nil))) (.yes (.cmp .Eq (.idx (.var 2) (.var 0)) (.var 1))) (.var 0)))
  mU)
noncomputable def pY:CB:=
  (.cons (.forr (.name 11) (.range2 (.con (.int 1)) (.bfn .len (.cons (.var 2) .nil)))
  (.cons (.asg (.name 12) (.bfn .sortl (.cons (.lst (.cons (.idx (.var 9) (.var 11)) (.cons (.idx (.var 9) (.idx (.var 2) (.var 11))) .nil))) .nil)))
  mV))
  pX)
noncomputable def pZ:CB:=
  (.cons (.asg (.name 10) (.lst .nil))
  pY)
noncomputable def p5:CB:=
  (.cons (.asg (.name 9) (.call "_law_nodes" (.cons (.var 2) (.cons (.var 6) (.cons (.call "_law_mixed" (.cons (.var 8) (.cons (.con (.int 2)) .nil))) (.cons (.bin .FloorDiv (.var 8) (.con (.int 7))) (.cons (.var 4) .nil)))))))
  pZ)
noncomputable def p6:CB:=
  (.cons (.asg (.name 8) (.call "_law_cell_at" (.cons (.var 0) (.cons (.con (.int 1)) .nil))))
  p5)
noncomputable def p7:CB:=
  (.cons (.asg (.tup (.cons (.name 6) (.cons (.name 7) .nil))) (.call "_law_owners" (.cons (.var 3) (.cons (.bin .Mod (.var 5) (.con (.int 10007))) (.cons (.bin .FloorDiv (.call "_law_cell_at" (.cons (.var 0) (.cons (.con (.int 0)) .nil))) (.con (.int 98))) (.cons (.var 4) .nil))))))
  p6)
noncomputable def qa:CB:=
  (.cons (.asg (.name 5) (.call "_law_mixed" (.cons (.call "_law_cell_at" (.cons (.var 0) (.cons (.con (.int 0)) .nil))) (.cons (.con (.int 1)) .nil))))
  p7)
noncomputable def qb:CB:=
  (.cons (.asg (.name 4) (.cmp .Eq (.bin .Mod (.call "_law_cell_at" (.cons (.var 0) (.cons (.con (.int 0)) .nil))) (.con (.int 2))) (.con (.int 1))))
  qa)
noncomputable def t5:CB:=
  (.cons (.asg (.tup (.cons (.name 2) (.cons (.name 3) .nil))) (.call "_law_grown" (.cons (.var 0) (.cons (.var 1) .nil))))
  qb)
end Bt
namespace Bt
open PySem PySem.Spec PyProof.Rows L2 R Cp Lt Kc Mt
structure Cb(H:Hp)(seed:Int)(ys:List V)(N:Nat)(vv:List Nat)(cs:List V):Prop where
 len:cs.length=vv.length
 at_:∀(i:Nat) c,cs[i]? =some c->∃b,c=.ref b/\H b=some (.tup [.str (nmB seed i),ys.getD (vv.getD i 0) .non])
 lt:∀v∈vv,v<N
theorem Cb.tk{a:Int}{N:Nat}{vv:List Nat}(d:Cb H a ys N vv cs)(t:K32.Tk H H'):Cb H' a ys N vv cs:=
 {d with at_:=fun i c e=>let⟨b,h1,h2⟩:=d.at_ i c e;⟨b,h1,t _ _ h2⟩}
theorem Cb.snoc{a:Int}{N:Nat}{vv:List Nat}(d:Cb H a ys N vv cs)(f:H b=some (.tup [.str (nmB a cs.length),ys.getD v .non]))(h:v<N):Cb H a ys N (vv++[v]) (cs++[.ref b]):=by
 refine⟨by simp[d.len],fun i c e=>?_,fun w hw=>?_⟩
 ·rw[getD_snoc];by_cases hi:i<cs.length;·rw[cK hi]at e;rw[if_pos (by rw[<-d.len];exact hi)];exact d.at_ i c e
  ·rw[bT (by lia)]at e;have g:i=cs.length:=by have :=(aC.mp e).1;simp at this;lia
   subst g;rw[d.len,if_neg (dJ _),if_pos rfl];simp at e;subst e;rw[<-d.len];exact⟨b,rfl,f⟩
 ·rcases dh.mp hw with hw|hw;·exact d.lt w hw
  ·rw[bg.mp hw];exact h
def vp:Sp:=fun vs H Q _=>∃(a nl:Addr)(b d:Int)(free:Bool)(ps:List Nat)(ys:List V),vs=[.ref a,.ref nl,.int b,.int d,.bl free]/\H a=some (.lst (iN ps))/\H nl=some (.lst ys)/\ys.length=ps.length/\1<=ps.length/\ps.length<=31/\(∀v,1<=v->v<ps.length->ps.getD v 0<v)/\
 ∀(H':Hp)(t:Addr)(cs:List V)(c:List Nat),aQ H H'->H t=none->H' t=some (.lst cs)->cs.length<=40->cs≠[]->Cb H' b ys ps.length c cs->(∀v,v<ps.length->Bm.near (fn ps) ps.length v<=2->v∈c)->Q (.ref t) H'
noncomputable abbrev putE:CE:=.meth1 .append (.var 5) (.tup (.cons (.call "_law_name" (.cons (.bfn .len (.cons (.var 5) .nil)) (.cons (.var 2) .nil))) (.cons (.idx (.var 1) (.var 6)) .nil)))
section
variable {G:Gam}{K:ah}{E:XS}
theorem JZ(g:G.fn "_law_name" 2=some (spNm,[])){t:Addr}{h:Int}{vv:List Nat}{N:Nat}{a d e f x y:Option V}{Q:VK}(o:H t=none)(s:aQ H H1)(j:H1 t=some (.lst cs))(k:H1 nl=some (.lst ys))(hi:i<ys.length)(v:ys.length=N)(w:cs.length<40)(m:Cb H1 h ys N vv cs)
  (q:∀H2 b,aQ H H2->H2 t=some (.lst (cs++[.ref b]))->H2 nl=some (.lst ys)->Cb H2 h ys N (vv++[i]) (cs++[.ref b])->Q .non H2)(u:t≠nl):
  wpE G K E putE [a,some (.ref nl),some (.int h),d,e,some (.ref t),some (.int i),f,x,y] H1 Q:=by
 walk_at "wp";refine⟨.inl ⟨rfl,_,SqL.of j⟩,_,_,g,Or.inl ⟨t,cs,rfl,.inl (SqL.of j),?_⟩⟩;refine⟨cs.length,h,rfl,by lia,?_⟩;have r:ys[i]? =some (ys.getD i .non):=by rw[ae,aa hi];rfl
 refine .inl ⟨nl,ys,i,_,rfl,rfl,SqL.of k,cn r,short (by simp),fun b p=>?_⟩;generalize hX:upd H1 b _=H2;obtain⟨c,n⟩:=kc hX p;clear hX;have l:=c _ _ j;refine⟨t,cs,_,rfl,rfl,l,K32.uw (by lia),?_⟩;have tk:K32.Tk H2 (upd H2 t (.lst (cs++[.ref b]))):=K32.sA l;refine q _ b (eX (s.trans c) o) au ?_ ((m.tk (K32.Tk.of c)).tk tk |>.snoc (tk _ _ n) (by lia));rw[aS (bA u)];exact c _ _ k
theorem KZ{ps:List Nat}(e:1<=ps.length):((iN (ps.drop 1)).filter fun v=>match v with |.int j=>decide (j=(i:Int)) |_=>false).length=(Bm.kids (fn ps) ps.length i).length:=by
 have c:iN (ps.drop 1)=(aG (ps.length-1)).map fun m=>V.int ((ps.getD (m+1) 0:Nat):Int):=by
  unfold iN;apply bS;·simp
  ·intro j a b;simp only[ai,cN]at a;simp only[bH,List.getElem_drop,i5];rw[ae,aa (by lia)];congr 2;simp only[Option.getD_some];congr 1;lia
 have d:aG ps.length=0::(aG (ps.length-1)).map Nat.succ:=by
  conv =>lhs;rw[show ps.length=(ps.length-1)+1 by lia]
  exact Gj
 unfold Bm.kids;rw[c,d,xn,if_neg (by simp),pB,pB,ai,ai];congr 1;refine u7 fun m _=>?_;show decide (((ps.getD (m+1) 0:Nat):Int)=(i:Int))=decide (1<=m.succ/\fn ps m.succ=i);rw[cz,decide_eq_true_eq,decide_eq_true_eq];constructor;·intro h;exact⟨by lia,by show ps.getD (m+1) 0=i;lia⟩
 ·rintro⟨_,h⟩;have h:ps.getD (m+1) 0=i:=h;lia
theorem GC(a4:G.fn "_law_name" 2=some (spNm,[])):Sat G K vp rP qX:=by
 rintro vs H c1 E ⟨q,f,n,l,free,c,J,rfl,ea,B,S,b8,c6,b9,c0⟩;unfold rP;change wpB G K _ _ _ [some (.ref q),some (.ref f),some (.int n),some (.int l),some (.bl free),none,none,none,none,none] H;walk_at "wp";refine⟨short (by simp),fun t s=>?_⟩;have U:aQ H (upd H t (.lst [])):=av s;have g:upd H t (.lst []) t=some (.lst []):=au;have a6:t≠f:=fun z=>by rw[z,B]at s;cases s
 generalize upd H t (.lst [])=H1 at U g⊢;unfold oa;walk_at "wp";refine fJ ?_;walk_at "wp";refine Or.inl ⟨f,_,rfl,.inl (SqL.of (U _ _ B)),_,rfl,by lia,by lia,?_⟩;rw[S,aM];refine K32.BZ cR (fun i σ L=>aQ H L/\∃(cs:List V)(vv:List Nat)(l:Int)(u a8 a9 z:Option V),L t=some (.lst cs)/\Cb L n J c.length vv cs/\cs.length+c.length<=40+i/\(i=c.length->cs≠[])/\(∀v,v<i->Bm.near (fn c) c.length v<=2->v∈vv)/\σ=[some (.ref q),some (.ref f),some (.int n),some (.int l),some (.bl free),some (.ref t),u,a8,a9,z])
  ⟨U,[],[],l,none,none,none,none,g,⟨rfl,fun i c2 b1=>by simp at b1,fun v d=>by cases d⟩,by simp;lia,(fun h=>by lia),(fun v d=>absurd d (dm _)),rfl⟩ (fun _ _ _ _ _=>trivial) ?_ ?_
 ·rintro i a8 σ H2 M p hi ⟨r,cs,vv,l,u,x',y',Z,g,w,b5,_,C,rfl⟩ rfl W hD hC;have g:=W _ _ g;have w:=w.tk (K32.Tk.of W);have r:=r.trans W;have c3:=r _ _ B
  --the last rows,whatever was drawn
  have T:∀(D y x:Int),wpB G K (fun _=>E) gE p [some (.ref q),some (.ref f),some (.int n),some (.int D),some (.bl free),some (.ref t),some (.int i),some (.int y),some (.int x),Z] M:=by
   intro D y x;unfold gE;walk_at "wp";have ec:nO (iN c) (some 1) none=iN (c.drop 1):=by unfold nO iN;rw[HT.qK,show HT.sIx (c.map fun k:Nat=>V.int (k:Int)).length 0 (some 1)=min 1 (c.map fun k:Nat=>V.int (k:Int)).length from HT.oG _ _ 1,ai,show min 1 c.length=1 by lia,eK (by simp),List.map_drop]
   refine dH ⟨_,rfl,_,rfl,.inl ⟨q,_,rfl,SqL.of (r _ _ ea),fun a5 hl=>.inl ⟨a5,rfl,⟨_,SqL.of au⟩,?_⟩⟩⟩;rw[ec];generalize hX:upd M a5 _=H4;obtain⟨X,el⟩:=kc hX hl;clear hX;refine sV (dZ (xs:=iN (c.drop 1))) (K32.eW (by rw[cS,cN];lia)) (fun A F=>F.seq (SqL.of el)) (fun v=>match v with |.int j=>decide (j=(i:Int)) |_=>false) id (fun τ=>∃u,τ=[u,some (.int i)]) ⟨none,rfl⟩ ?_ ?_
   ·rintro a9 τ A Rt Rf hy ⟨u,rfl⟩ F kt kf;unfold iN at hy;obtain⟨j,_,rfl⟩:=aF.mp hy;walk_at "wp";by_cases h:(j:Int)=(i:Int);·rw[decide_eq_true h,if_pos rfl];exact kt _ _ ⟨_,rfl⟩ (aQ.refl _) (decide_eq_true h)
    ·rw[decide_eq_false h,if_neg ao];exact kf _ _ ⟨_,rfl⟩ (aQ.refl _) (decide_eq_false h)
   intro A l2 F b6;have R:((iN (c.drop 1)).filter fun v=>match v with |.int j=>decide (j=(i:Int)) |_=>false).length<=30/\(i+1=c.length->((iN (c.drop 1)).filter fun v=>match v with |.int j=>decide (j=(i:Int)) |_=>false)=[])/\((iN (c.drop 1)).filter fun v=>match v with |.int j=>decide (j=(i:Int)) |_=>false).length=(Bm.kids (fn c) c.length i).length:=by
    refine⟨?_,?_,KZ b8⟩;·refine aP (qd _ _) ?_;rw[cS,cN];lia
    ·intro hN;rw[Gq];intro v d;unfold iN at d;obtain⟨j,hj,rfl⟩:=aF.mp d;obtain⟨m,hm,rfl⟩:=cH.mp hj;rw[cN]at hm;have :=b9 (1+m) (by lia) (by lia);rw[List.getElem_drop];rw[ae,aa (by lia)]at this;have this:c[1+m]<1+m:=this;show ¬decide (((c[1+m]:Nat):Int)=(i:Int))=true;rw[decide_eq_true_eq];lia
   rw[dP];generalize((iN (c.drop 1)).filter fun v=>match v with |.int j=>decide (j=(i:Int)) |_=>false)=fl at R;have Y:=F.trans (av (o:=.lst fl) b6);have a2:upd A l2 (.lst fl) l2=some (.lst fl):=au;have P:=Y _ _ (X _ _ g);have O:=(w.tk (K32.Tk.of X)).tk (K32.Tk.of Y);have I:=r.trans (X.trans Y);generalize upd A l2 (.lst fl)=H6 at a2 P O I⊢;refine Or.inl ⟨l2,_,rfl,.inl (SqL.of a2),?_⟩;refine .inr ⟨_,rfl,wU.mpr ?_⟩;unfold lY;walk_at "wp";have b3:=I _ _ B
   --a copy is put
   have put:wpB G K (fun _=>E) je p [some (.ref q),some (.ref f),some (.int n),some (.int D),some (.bl free),some (.ref t),some (.int i),some (.int y),some (.int x),some (.int ((fl.length:Int)+if decide (0<(i:Int))=true then 1 else 0))] H6:=by
    unfold je;refine JZ (N:=c.length) (vv:=vv) a4 s I P b3 (by lia) S (by lia) O (fun H7 b s8 Q a3 a0=>?_) a6;unfold lX;walk_at "wp";have a7:∀v,v<i+1->Bm.near (fn c) c.length v<=2->v∈vv++[i]:=fun v d e=>by
     rcases ED.mp d with h|h;·exact cJ _ (C v h e)
     ·rw[h];simp
    have a1:p.nx [some (.ref q),some (.ref f),some (.int n),some (.int D),some (.bl free),some (.ref t),some (.int i),some (.int y),some (.int x),some (.int ((fl.length:Int)+if decide (0<(i:Int))=true then 1 else 0))] H7:=hD _ _ ⟨s8,_,_,_,_,_,_,_,Q,a0,by simp;lia,(fun _=>by simp),a7,rfl⟩;by_cases h0:x=0
    ·rw[decide_eq_true h0,if_pos rfl];refine Or.inl ⟨t,_,rfl,.inl (SqL.of Q),Or.inl ⟨f,J,rfl,.inl (SqL.of a3),?_⟩⟩;refine Jn.mpr (wU.mpr (Fu.mpr ⟨_,rfl,?_⟩));by_cases hlt:(((cs++[V.ref b]).length:Nat):Int)<40-(J.length:Int)+(i:Int)
     ·rw[decide_eq_true hlt,if_pos rfl];have c5:(cs++[V.ref b]).length=cs.length+1:=by simp
      unfold lW;refine JZ (N:=c.length) (vv:=vv++[i]) (cs:=cs++[V.ref b]) a4 s s8 Q a3 (show i<J.length by lia) S (by lia) a0 (fun H8 b2 s9 b4 c4 b0=>?_) a6;exact hD _ _ ⟨s9,_,_,_,_,_,_,_,b4,b0,by simp at hlt⊢;lia,(fun _=>by simp),(fun v d e=>cJ _ (a7 v d e)),rfl⟩
     ·rw[decide_eq_false hlt,if_neg ao];exact a1
    ·rw[decide_eq_false h0,if_neg ao];exact a1
   by_cases h2:2<(fl.length:Int)+if decide (0<(i:Int))=true then 1 else 0
   ·rw[decide_eq_true h2,if_pos rfl];by_cases hls:y=0
    ·rw[decide_eq_true hls,if_pos rfl];refine hC _ _ ⟨I,cs,vv,_,_,_,_,_,P,O,by lia,(fun hN=>?_),(fun v d e=>?_),rfl⟩
     ·rw[R.2.1 hN]at h2;exfalso
      split at h2<;>simp at h2
     ·rcases ED.mp d with h|h;·exact C v h e
      ·exfalso
       rw[h]at e;unfold Bm.near at e;rw[<-R.2.2]at e;by_cases h0:i=0;·rw[if_pos h0]at e;rw[if_neg (by simp;lia)]at h2;lia
       ·rw[if_neg h0]at e;rw[if_pos (by simp;lia)]at h2;lia
    ·rw[decide_eq_false hls,if_neg ao];exact put
   ·rw[decide_eq_false h2,if_neg ao];exact put
  walk_at "wp";simp only[eE];refine⟨⟨by lia,by lia⟩,by decide,?_⟩;unfold l5;walk_at "wp";refine⟨⟨by lia,by lia⟩,by decide,?_⟩;unfold lZ;walk_at "wp";refine⟨free,rfl,?_⟩;have more:wpB G K (fun _=>E) iy {nx:=wpB G K (fun _=>E) gE p,rt:=p.rt,bk:=p.bk,ct:=p.ct} [some (.ref q),some (.ref f),some (.int n),some (.int l),some (.bl free),some (.ref t),some (.int i),some (.int (l%2)),some (.int (n/((i:Int)+5)%5)),Z] M:=by unfold iy;walk_at "wp";refine⟨⟨by decide,by decide⟩,by decide,?_⟩;unfold kq;walk_at "wp";exact⟨⟨by decide,by decide⟩,T _ _ _⟩
  cases free with
  |true=>
   rw[if_pos rfl];split;·exact⟨by decide,more⟩
   ·exact T _ _ _
  |false=>rw[if_neg ao,if_neg ao];exact T _ _ _
 ·rintro σ H2 ⟨r,cs,vv,l,u,x',y',Z,g,w,b5,b7,C,rfl⟩;unfold n6;walk_at "wp";exact c0 H2 t cs vv r s g (by lia) (b7 rfl) w C
end
end Bt
namespace Bt
open PySem PySem.Spec PyProof.Rows L2 R Cp Lt Kc Mt K21 K22
structure Blt(H:Hp)(t:Addr)(cs:List V)(nf:Nat->Str)(vf:Nat->Nat)(f:Nat->Int)(ps os:List Nat):Prop where
 et:H t=some (.lst cs)
 l1:1<=cs.length
 l40:cs.length<=40
 ok:∀i,iu (nf i)=true
 inj:∀i j,i<cs.length->j<cs.length->nf i=nf j->i=j
 at_:∀(i:Nat) c,cs[i]? =some c->vf i<ps.length/\∃b r,c=.ref b/\H b=some (.tup [.str (nf i),.ref r])/\H r=some (.tup ((nd f (fn os) (fn ps) os.length (vf i)).map V.int))
 n60:os.length<=60
 bit:∀p,p<os.length->f p=0\/f p=1
 par:∀v,1<=v->v<ps.length->ps.getD v 0<v
theorem sort2{m:Type}{d:m}{a b:List Int}(h:a≠b)(x y:m):∃u v c e,_root_.Q.cj d [a,b] [x,y]=[u,v]/\((u=x/\v=y/\c=a/\e=b)\/(u=y/\v=x/\c=b/\e=a))/\_root_.Q.llt c e=true:=by
 have nd:[a,b].Nodup:=by simp[h]
 obtain⟨P,U,_⟩:=_root_.Q.fo (_root_.Q.GH nd) (by simp);have P2:=eU.mp P.perm;have q:=P.size;have r:=U 0 1 (by decide) (by simp);unfold _root_.Q.cj _root_.Q.vG;rw[if_neg (by simp)];generalize _root_.Q.run (_root_.Q.ltL [a,b]) (jw [a,b].length)=p at *;obtain⟨l⟩:=p;have o:l.length=2:=by simpa using q
 obtain⟨i,j,rfl⟩:∃i j,l=[i,j]:=by
  match l,o with
  | [i,j],_=>exact⟨i,j,rfl⟩
 have f:∀k,(k=i\/k=j)↔k<2:=fun k=>by simpa using P2.mem_iff (a:=k)
 have g:_root_.Q.ltL [a,b] i j=true:=r;have s:=(f 0).mpr (by decide);have t:=(f 1).mpr (by decide);have n:(i=0/\j=1)\/(i=1/\j=0):=by lia
 rcases n with⟨rfl,rfl⟩ |⟨rfl,rfl⟩;·exact⟨x,y,a,b,rfl,.inl ⟨rfl,rfl,rfl,rfl⟩,g⟩
 ·exact⟨y,x,b,a,rfl,.inr ⟨rfl,rfl,rfl,rfl⟩,g⟩
def ends(g:Nat->List Int)(par:Nat->Nat)(e:Nat)(c:List Int×List Int):Prop:=(c=(g e,g (par e))\/c=(g (par e),g e))/\_root_.Q.llt c.1 c.2=true
theorem ends_nd{g:Nat->List Int}{par:Nat->Nat}{N:Nat}{ks:List (List Int×List Int)}(a:∀i j,i<N->j<N->g i=g j->i=j)(p:∀v,(g v).length=m)(hp:∀v,1<=v->v<N->par v<v)(o:∀i c,ks[i]? =some c->i+1<N/\ends g par (i+1) c):(ks.map _root_.Q.kD).Nodup/\∀k∈ks,k.1.length=m/\k.2.length=m:=by
 have len:∀k∈ks,k.1.length=m/\k.2.length=m:=fun k h=>by obtain⟨i,e⟩:=bX.mp h;rcases(o i k e).2.1 with rfl|rfl<;>exact⟨p _,p _⟩
 refine⟨?_,len⟩;refine cY.mpr fun i j hi n s e=>?_;simp only[ai]at hi n;simp only[bH]at e;have q:=len _ (bo hi);have r:=len _ (bo n);obtain⟨b,ei,_⟩:=o i _ (aa hi);obtain⟨d,ej,_⟩:=o j _ (aa n);have t:=hp (i+1) (by lia) b;have u:=hp (j+1) (by lia) d;obtain⟨f,l⟩:=List.append_inj (show ks[i].1++ks[i].2=ks[j].1++ks[j].2 from e) (q.1.trans r.1.symm);rcases ei with ei|ei<;>rcases ej with ej|ej<;>rw[ei,ej]at f l;·have :=a _ _ b d f;lia
 ·have :=a _ _ b (by lia) f;have :=a _ _ (by lia) d l;lia
 ·have :=a _ _ (by lia) d f;have :=a _ _ b (by lia) l;lia
 ·have :=a _ _ b d l;lia
noncomputable abbrev gN(f:Nat->Int)(ps os:List Nat)(v:Nat):List Int:=nd f (fn os) (fn ps) os.length v
noncomputable abbrev nds(f:Nat->Int)(ps os:List Nat):List (List Int):=(aG ps.length).map (gN f ps os)
noncomputable def pls(os:List Nat)(e:Nat):List V:=(nats os.length).filter fun o=>match o with |.int i=>decide (((os.getD i.toNat 0:Nat):Int)=((e:Nat):Int)) |_=>false
def BrV(H:Hp)(f:Nat->Int)(ps os:List Nat)(z:V)(e:Nat):Prop:=∃b a c d x y,z=V.ref b/\H b=some (.tup [.ref a,.ref c,.ref d])/\H a=some (.tup (x.map V.int))/\H c=some (.tup (y.map V.int))/\((x=gN f ps os e/\y=gN f ps os (ps.getD e 0))\/(x=gN f ps os (ps.getD e 0)/\y=gN f ps os e))/\H d=some (.tup (pls os e))
theorem BrV.tk{f:Nat->Int}{ps a:List Nat}{z:V}{e:Nat}(h:BrV H f ps a z e)(t:K32.Tk H H'):BrV H' f ps a z e:=by obtain⟨b,l,m,n,x,y,c,d,g,i,j,k⟩:=h;exact⟨b,l,m,n,x,y,c,t _ _ d,t _ _ g,t _ _ i,j,t _ _ k⟩
structure Bx(H:Hp)(bs:List V)(m:Nat)(vf:Nat->Nat)(f:Nat->Int)(ps os:List Nat):Prop where
 ow:∀p,p<os.length->fn os p<ps.length
 has:∀v,1<=v->v<ps.length->∃p,p<os.length/\fn os p=v
 cp:∀v,v<ps.length->Bm.near (fn ps) ps.length v<=2->∃i,i<m/\vf i=v
 br:∀z∈bs,∃e,1<=e/\e<ps.length/\BrV H f ps os z e
 all:∀e,1<=e->e<ps.length->∃z∈bs,BrV H f ps os z e
 bl:bs.length<=30
 few:∀v,1<=v->os.count v<=3
def zf(K:ah):Sp:=fun vs H Q _=>∃(a:Addr)(ns:List Int)(st:Nat),vs=[.ref a,.int st]/\SqL K H a (ns.map V.int)/\ns.length<=63/\st<=10/\
 ∀(H':Hp)(p t nl br:Addr)(cs ys bs:List V)(nf:Nat->Str)(vf:Nat->Nat)(f:Nat->Int)(ps os:List Nat),aQ H H'->H' p=some (.tup [.ref t,.ref nl,.ref br])->Blt H' t cs nf vf f ps os->1<=ps.length->ps.length<=31->(nds f ps os).Nodup->_root_.Q.IntKeys H' ys (nds f ps os)->H' nl=some (.lst (_root_.Q.cj .non (nds f ps os) ys))->H' br=some (.lst bs)->Bx H' bs cs.length vf f ps os->Q (.ref p) H'
theorem wo{a:List Nat}:∀(k:Nat),(gO a k).count v=if v<k then a.getD v 0 else 0
 | 0=>by simp[gO]
 |k+1=>by
  have h:(gO a k).count v=if v<k then a.getD v 0 else 0:=wo k
  unfold gO at h⊢;rw[kA,Mg,List.count_append,h,List.flatMap_cons,List.flatMap_nil,kB,List.count_replicate];by_cases e:k=v;·subst e;simp
  ·have b:(k==v)=false:=by simpa using e
   rw[b,if_neg ao,Nat.add_zero];by_cases c:v<k;·rw[if_pos c,if_pos (by lia)]
   ·rw[if_neg c,if_neg (by lia)]
theorem own_of{b a:List Nat}(h:a.Perm (gO b b.length))(d:v<b.length)(f:1<=b.getD v 0):∃p,p<a.length/\fn a p=v:=by
 have c:v∈a:=by rw[h.mem_iff];unfold gO;rw[List.mem_flatMap];exact⟨v,aY.mpr d,List.mem_replicate.mpr ⟨by lia,rfl⟩⟩
 obtain⟨p,hp,e⟩:=cH.mp c;exact⟨p,hp,by show a.getD p 0=v;rw[ae,aa hp];exact e⟩
theorem rot(a:k<cs.length)(hi:i<cs.length):(cs.drop k++cs.take k)[i]? =cs[(i+k)%cs.length]? :=by
 by_cases h:i<cs.length-k;·rw[cK (by rw[cN];exact h),fZ,eS (by lia),Nat.add_comm]
 ·rw[bT (by rw[cN];lia),cN,List.getElem?_take,if_pos (by lia),Nat.mod_eq_sub_mod (by lia),eS (by lia)];congr 1
  lia
theorem FF{ks:List (List Int)}(h:_root_.Q.IntKeys H ys ks):∀j,j<ks.length->∃a,ys[j]? =some (V.ref a)/\H a=some (.tup ((ks.getD j []).map V.int)):=by
 unfold _root_.Q.IntKeys at h
 induction h with
 |nil=>intro j b;exact absurd b (dm _)
 |cons r t ih=>
  intro j b;cases j with
  |zero=>obtain⟨a,rfl,f⟩:=r;exact⟨a,rfl,f⟩
  |succ j=>exact ih j (by simpa using b)
theorem two_nd{a b:List Int}(h:a≠b):[a,b].Nodup:=by simp[h]
theorem DM{f:Nat->Int}{ps a:List Nat}(h:j<ps.length):(nds f ps a).getD j []=gN f ps a j:=by rw[ae,aA,b9 h];rfl
section
variable {G:Gam}{K:ah}
theorem IT(g0:G.fn "_law_cell_at" 2=some (vq K,[]))(L:G.fn "_law_mixed" 2=some (A4,[]))(O:G.fn "_law_grown" 2=some (vo K,[]))(g3:G.fn "_law_owners" 4=some (vm,[]))(g4:G.fn "_law_nodes" 5=some (y8,[]))(g5:G.fn "_law_copies" 5=some (vp,[])):
  Sat G K (zf K) t5 tO:=by
 rintro vs f0 j1 j0 ⟨a,C,st,rfl,ha,hn,i0,i4⟩;unfold t5;change wpB G K _ _ _ [some (.ref a),some (.int st),none,none,none,none,none,none,none,none,none,none,none,none,none,none] f0;walk_at "wp";refine⟨_,_,O,a,C,st,rfl,ha,hn,i0,fun H1 p pa X q ms s1 ep ea em s=>?_⟩;refine⟨p,_,rfl,SqT.of ep,rfl,_,_,rfl,_,_,rfl,rfl,?_⟩;unfold qb;walk_at "wp";refine⟨_,_,g0,a,C,0,rfl,s1.seq ha,?_⟩;generalize C.getD 0 0=c0;refine i9.mpr ⟨by decide,kT.mpr ?_⟩;generalize decide (c0%2=1)=free;unfold qa;walk_at "wp";refine⟨_,_,L,_,_,g0,a,C,0,rfl,s1.seq ha,?_⟩;generalize C.getD 0 0=c0;refine⟨c0,1,rfl,by decide,by decide,?_⟩;generalize mx c0 1=seed;unfold p7;walk_at "wp";refine⟨_,_,g3,by decide,_,_,g0,a,C,0,rfl,s1.seq ha,?_⟩;generalize C.getD 0 0=c0;refine div_ii.mpr ⟨⟨by decide,by decide⟩,?_⟩;have b5:=s.n31;have b4:=s.one;have j8:=s.len;refine⟨X,seed%10007,c0/98,free,ms,rfl,em,by lia,s.sum,cC _ (by decide),Int.le_of_lt (bV _ (by decide)),fun H2 p2 lo n e0 s2 b1 j3 eo a7=>?_⟩;refine⟨p2,_,rfl,SqT.of b1,rfl,_,_,rfl,_,_,rfl,rfl,?_⟩;have e4:=s1.trans s2;have b6:n.length<=60:=by rw[a7.length_eq,qm ms _ (az _)];exact aP (m6 ms _) s.sum
 unfold p6;walk_at "wp";refine⟨_,_,g0,a,C,1,rfl,e4.seq ha,?_⟩;generalize C.getD 1 0=c1;unfold p5;walk_at "wp";refine⟨_,_,g4,_,_,L,c1,2,rfl,by decide,by decide,?_⟩;generalize mx c1 2=sd2;refine⟨⟨by decide,by decide⟩,?_⟩;refine⟨pa,lo,sd2,c1/7,free,q,n,rfl,s2 _ _ ea,eo,b4,b5,b6,s.par,fun H3 nl ys f s3 j4 a3 hf ik=>?_⟩;have i6:=e4.trans s3;have b0:=s3 _ _ (s2 _ _ ea);have d2:=s3 _ _ eo;have i2:=K32.fg ik;rw[ai,ba]at i2;have f6:∀v,1<=v->n.count v<=3:=fun v P=>by
  rw[a7.count_eq,wo];split;·exact(s.m0 v P (by assumption)).2
  ·exact aZ _
 have own:∀v,1<=v->v<q.length->∃p,p<n.length/\fn n p=v:=fun v P B=>own_of a7 (by lia) (s.m0 v P (by lia)).1;have b2:∀i j,i<q.length->j<q.length->gN f q n i=gN f q n j->i=j:=fun i j hi r e=>by
  rcases Nat.lt_trichotomy i j with h|h|h;·exact absurd e.symm (Fk (N:=q.length) s.par hf h r (own j (by lia) r))
  ·exact h
  ·exact absurd e (Fk (N:=q.length) s.par hf h hi (own i (by lia) hi))
 have e3:(nds f q n).Nodup:=by refine cY.mpr fun i j hi r j7 e=>?_;simp only[ai,ba]at hi r;simp only[bH,i5]at e;have :=b2 i j hi r e;lia
 unfold pZ;walk_at "wp";refine⟨short (by simp),fun I d5=>?_⟩;generalize hX:upd H3 I _=H4;obtain⟨s4,J⟩:=kc hX d5;clear hX;unfold pY;walk_at "wp";refine fJ ?_;walk_at "wp";refine Or.inl ⟨pa,_,rfl,.inl (SqL.of (s4 _ _ b0)),?_⟩;rw[cS];refine⟨_,_,rfl,⟨by lia,by lia,by lia,by lia⟩,?_⟩;refine eZ cR (fun m σ H'=>aQ H3 H'/\∃(bs:List V)(x:List (List Int×List Int))(c6 a2 z:Option V),H' I=some (.lst bs)/\x.length=m/\_root_.Q.jt H' bs x/\(∀i c,x[i]? =some c->i+1<q.length/\ends (gN f q n) (fn q) (i+1) c)/\(∀(j:Nat) z,bs[j]? =some z->BrV H' f q n z (j+1))/\σ=[some (.ref a),some (.int st),some (.ref pa),some (.ref X),some (.bl free),some (.int seed),some (.ref lo),some (.int e0),some (.int c1),some (.ref nl),some (.ref I),c6,a2,z,none,none])
  ⟨s4,[],[],none,none,none,J,rfl,.nil,(fun i c e=>by cases e),(fun j z e=>by cases e),rfl⟩ (fun _ _ _ _ _=>trivial) ?_ ?_
 ·rintro m c6 σ H5 H D2 W ⟨y,bs,x,x',y',z',J,b3,tk,he,a4,rfl⟩ rfl M hD _;have J:=M _ _ J;have y:=y.trans M;have B:m+1<q.length:=by lia
  have j9:=s.par (m+1) (by lia) B;have d9:=K32.eB (K32.Tk.of y) ik;obtain⟨D,e1,f1⟩:=FF d9 (m+1) (by rw[ai,ba];exact B);obtain⟨E,e2,f2⟩:=FF d9 (q.getD (m+1) 0) (by rw[ai,ba];lia);rw[DM B]at f1;rw[DM (by lia)]at f2;have ev:(1:Int)+(m:Int)=((m+1:Nat):Int):=by lia
  rw[ev];generalize hvv:m+1=v at *;walk_at "wp";refine .inl ⟨nl,_,v,_,rfl,rfl,SqL.of (y _ _ a3),cn e1,?_⟩;refine .inl ⟨pa,_,v,_,rfl,rfl,SqL.of (y _ _ b0),cn (rA B),?_⟩;refine .inl ⟨nl,_,q.getD v 0,_,rfl,rfl,SqL.of (y _ _ a3),cn e2,?_⟩;refine⟨short (by simp),fun l hl=>?_⟩;have d8:gN f q n v≠gN f q n (q.getD v 0):=fun e=>by have :=b2 _ _ B (by lia) e;lia
  refine⟨l,_,[gN f q n v,gN f q n (q.getD v 0)],n.length,rfl,SqL.of au,by simp,two_nd d8,?_,.cons ⟨D,rfl,av hl _ _ f1⟩ (.cons ⟨E,rfl,av hl _ _ f2⟩ .nil),fun l2 g9=>?_⟩;·intro k U;simp at U;rcases U with rfl|rfl<;>exact vP
  obtain⟨u,F,c,e,es,b7,a6⟩:=sort2 (d:=V.non) d8 (V.ref D) (V.ref E);rw[es];have R:aQ H (upd (upd H l (.lst [.ref D,.ref E])) l2 (.lst [u,F])):=(av hl).trans (av g9);have c9:upd (upd H l (.lst [.ref D,.ref E])) l2 (.lst [u,F]) l2=some (.lst [u,F]):=au;generalize upd (upd H l (.lst [.ref D,.ref E])) l2 (.lst [u,F])=H7 at R c9⊢;have c4:=y.trans R;unfold mV;walk_at "wp";refine dH ?_;walk_at "wp";refine Or.inl ⟨lo,_,rfl,.inl (SqL.of (c4 _ _ d2)),_,rfl,by rw[cS];lia,by rw[cS];lia,?_⟩;rw[cS,aM];refine sV (xs:=nats n.length) K32.A7 (K32.eW (by unfold nats;simp;lia)) (fun _ _=>trivial) (fun o=>match o with |.int i=>decide (((n.getD i.toNat 0:Nat):Int)=((v:Nat):Int)) |_=>false) id (fun τ=>∃u,τ=[u,some (.int ((v:Nat):Int)),some (.ref lo)]) ⟨none,rfl⟩ ?_ ?_
  ·rintro c6 τ T Rt Rf hx ⟨u,rfl⟩ Y kt kf;unfold nats at hx;obtain⟨i,hi,rfl⟩:=aF.mp hx;have hi:=aY.mp hi;walk_at "wp";refine .inl ⟨lo,_,i,_,rfl,rfl,SqL.of (Y _ _ (c4 _ _ d2)),cn (rA hi),?_⟩;refine kT.mpr ⟨_,rfl,?_⟩;by_cases h:((n.getD i 0:Nat):Int)=((v:Nat):Int);·rw[decide_eq_true h,if_pos rfl];exact kt _ _ ⟨_,rfl⟩ (aQ.refl _) (decide_eq_true h)
   ·rw[decide_eq_false h,if_neg ao];exact kf _ _ ⟨_,rfl⟩ (aQ.refl _) (decide_eq_false h)
  intro T l3 Y h0;rw[dP];have f9:((nats n.length).filter fun o=>match o with |.int i=>decide (((n.getD i.toNat 0:Nat):Int)=((v:Nat):Int)) |_=>false).length<=60:=by refine aP (qd _ _) ?_;unfold nats;rw[ai,ba];exact b6
  generalize hpl:((nats n.length).filter fun o=>match o with |.int i=>decide (((n.getD i.toNat 0:Nat):Int)=((v:Nat):Int)) |_=>false)=pl at f9⊢;have S:aQ H7 (upd T l3 (.lst pl)):=Y.trans (av h0);have d1:upd T l3 (.lst pl) l3=some (.lst pl):=au;generalize upd T l3 (.lst pl)=H9 at S d1⊢;have i7:=c4.trans S;unfold mU;walk_at "wp";have c8:=S _ _ (R _ _ J);have d0:=S _ _ c9;refine⟨.inl ⟨rfl,_,SqL.of c8⟩,?_⟩;refine .inl ⟨l2,_,0,_,rfl,rfl,SqL.of d0,rfl,?_⟩;refine .inl ⟨l2,_,1,_,rfl,rfl,SqL.of d0,rfl,?_⟩;refine⟨l3,_,rfl,.inl ⟨SqL.of d1,fun z hz=>⟨short (by simp),fun w hw=>?_⟩⟩⟩;have Q:aQ H9 (upd (upd H9 z (.tup pl)) w (.tup [u,F,.ref z])):=(av hz).trans (av hw);have ew:upd (upd H9 z (.tup pl)) w (.tup [u,F,.ref z]) w=some (.tup [u,F,.ref z]):=au;have d3:upd (upd H9 z (.tup pl)) w (.tup [u,F,.ref z]) z=some (.tup pl):=by rw[aS (a9 au hw)];exact au
  generalize upd (upd H9 z (.tup pl)) w (.tup [u,F,.ref z])=H10 at Q ew d3⊢;have c7:=Q _ _ c8;have d4:=_root_.Q.mw tk;have Z:K32.Tk H H10:=K32.Tk.of (R.trans (S.trans Q));have A:K32.Tk H10 (upd H10 I (.lst (bs++[.ref w]))):=K32.sA c7;refine⟨I,_,_,rfl,rfl,c7,K32.uw (by lia),?_⟩;refine hD _ _ ⟨eX (i7.trans Q) d5,bs++[.ref w],x++[(c,e)],_,_,_,au,by simp[b3,hvv],?_,?_,?_,rfl⟩
  ·have L:=A _ _ (Z _ _ f1);have O:=A _ _ (Z _ _ f2);refine K32.Paired.snoc ?_ (Paired.jM tk ?_)
   ·rcases b7 with⟨rfl,rfl,rfl,rfl⟩ |⟨rfl,rfl,rfl,rfl⟩;·exact⟨w,D,E,_,rfl,A _ _ ew,L,O⟩
    ·exact⟨w,E,D,_,rfl,A _ _ ew,O,L⟩
   ·rintro a2 k ⟨a',x1,x2,rs,P,h2,h3,h4⟩;have t:K32.Tk H5 _:=fun b o h=>A b o (Z b o (M _ _ h));exact⟨a',x1,x2,rs,P,t _ _ h2,t _ _ h3,t _ _ h4⟩
  ·intro i k a0;by_cases hi:i<x.length;·rw[cK hi]at a0;exact he i k a0
   ·have g6:=(aC.mp a0).1;rw[bw,dY]at g6;obtain rfl:i=m:=by lia
    rw[bT (by lia),b3,Nat.sub_self]at a0;cases a0;rw[hvv];refine⟨B,?_,a6⟩;rcases b7 with⟨_,_,rfl,rfl⟩ |⟨_,_,rfl,rfl⟩;·exact .inl rfl
    ·exact .inr rfl
  ·intro j a2 r;have t:K32.Tk H5 (upd H10 I (.lst (bs++[.ref w]))):=fun b o h=>A b o (Z b o (M _ _ h));by_cases a5:j<bs.length;·rw[cK a5]at r;exact(a4 j a2 r).tk t
   ·have g7:=(aC.mp r).1;rw[bw,dY]at g7;obtain rfl:j=m:=by lia
    rw[bT (by lia),show j-bs.length=0 by lia]at r;cases r;rw[hvv];have L:=A _ _ (Z _ _ f1);have O:=A _ _ (Z _ _ f2);have g3:upd H10 I (.lst (bs++[.ref w])) z=some (.tup (pls n v)):=by unfold pls;rw[hpl];exact A _ _ d3
    rcases b7 with⟨rfl,rfl,rfl,rfl⟩ |⟨rfl,rfl,rfl,rfl⟩;·exact⟨w,D,E,z,_,_,rfl,A _ _ ew,L,O,.inl ⟨rfl,rfl⟩,g3⟩
    ·exact⟨w,E,D,z,_,_,rfl,A _ _ ew,O,L,.inr ⟨rfl,rfl⟩,g3⟩
 ·rintro σ H5 ⟨y,bs,x,x',y',z',J,b3,tk,he,a4,rfl⟩;unfold pX;walk_at "wp";refine⟨_,_,g5,pa,nl,seed,e0,free,q,ys,rfl,y _ _ b0,y _ _ a3,by lia,b4,b5,s.par,fun H t g vv M ft et j6 f7 cb i1=>?_⟩;have j2:=M _ _ J;have e5:=y.trans M;have j5:1<=g.length:=by
   cases g with
   |nil=>exact absurd rfl f7
   |cons _ _=>simp
  unfold oh;walk_at "wp";refine⟨⟨by decide,by decide⟩,Or.inl ⟨t,_,rfl,.inl (SqL.of et),i9.mpr ⟨by lia,?_⟩⟩⟩;obtain⟨k,U⟩:=b8 (cC (seed/11) (show((g.length:Nat):Int)≠0 by lia));have g8:k<g.length:=by have :=bV (seed/11) (show(0:Int)<((g.length:Nat):Int) by lia);lia
  rw[U];unfold og;walk_at "wp";have e1:nO g (some (k:Int)) none=g.drop k:=by unfold nO;rw[HT.qK,HT.oG,AI (by lia),eK (by rw[cN];lia)]
  have e2:nO g none (some (k:Int))=g.take k:=by unfold nO;rw[HT.qK,HT.oG,AI (by lia),List.drop_zero,Nat.sub_zero]
  refine .inl ⟨t,g,rfl,SqL.of et,fun p1 h5=>?_⟩;rw[e1];generalize hX:upd H p1 _=H7;obtain⟨R,f3⟩:=kc hX h5;clear hX;refine .inl ⟨t,g,rfl,SqL.of (R _ _ et),fun p2 h6=>?_⟩;rw[e2];generalize hX:upd H7 p2 _=T;obtain⟨Y,b1⟩:=kc hX h6;clear hX;have d7:(g.drop k).length+(g.take k).length=g.length:=by rw[cN,dw];lia
  refine .inr (.inr (.inl ⟨p1,p2,_,_,rfl,rfl,Y _ _ f3,b1,K32.eW (by lia),fun p3 h7=>?_⟩));generalize hX:upd T p3 _=H9;obtain⟨S,f4⟩:=kc hX h7;clear hX;have c5:aQ H H9:=R.trans (Y.trans S);have e6:=e5.trans c5;have i3:=K32.eB (K32.Tk.of e6) ik;refine⟨nl,ys,nds f q n,n.length,rfl,SqL.of (e6 _ _ a3),by simp;lia,e3,fun k U=>?_,i3,fun q1 h8=>?_⟩;·obtain⟨v,_,rfl⟩:=aF.mp U;exact vP
  generalize hX:upd H9 q1 _=H10;obtain⟨Q,f5⟩:=kc hX h8;clear hX;have a1:aQ H5 H10:=M.trans (c5.trans Q);have i8:_root_.Q.jt H10 bs x:=Paired.jM tk fun a2 c ⟨a',x1,x2,rs,P,h2,h3,h4⟩=>⟨a',x1,x2,rs,P,a1 _ _ h2,a1 _ _ h3,a1 _ _ h4⟩;obtain⟨kn,kl⟩:=ends_nd (m:=n.length) b2 (fun v=>vP) s.par he;refine⟨I,bs,x,n.length,rfl,SqL.of (a1 _ _ J),by lia,kn,kl,i8,fun q2 h9=>⟨short (by simp),fun w hw=>?_⟩⟩;have c2:=(av (o:=.lst (_root_.Q.cj .non (x.map _root_.Q.kD) bs)) h9).trans (av (o:=.tup [.ref p3,.ref q1,.ref q2]) hw);have e8:=Q.trans c2;have e7:=c5.trans e8;have c3:=e5.trans e7;refine i4 _ w p3 q1 q2 (g.drop k++g.take k) ys _ (fun i=>nmB seed ((i+k)%g.length)) (fun i=>vv.getD ((i+k)%g.length) 0) f q n (i6.trans c3) au ?_ b4 b5 e3 (K32.eB (K32.Tk.of c3) ik) (c2 _ _ f5) (av hw _ _ au) ?_
  rotate_left
  ·have d4:=_root_.Q.mw tk;have X:(_root_.Q.cj V.non (x.map _root_.Q.kD) bs).Perm bs:=K83.mz _ kn (by rw[ai];exact d4);have e9:=K32.Tk.of (a1.trans c2);refine⟨fun p hp=>?_,own,fun v B hn=>?_,fun z hz=>?_,fun e e1 e2=>?_,?_,f6⟩
   ·have W:n.getD p 0∈n:=by rw[ae,aa hp];exact bo hp
    rw[a7.mem_iff]at W;unfold gO at W;obtain⟨e,f8,W⟩:=List.mem_flatMap.mp W;have :=aY.mp f8;have :=(List.mem_replicate.mp W).2;show n.getD p 0<q.length;lia
   ·obtain⟨j,r,ej⟩:=cH.mp (i1 v B hn);have a5:j<g.length:=by rw[cb.len];exact r
    refine⟨(j+(g.length-k))%g.length,by rw[bw,d7];exact CN _ (by lia),?_⟩;have em:((j+(g.length-k))%g.length+k)%g.length=j:=by
     by_cases h:k<=j;·rw[show j+(g.length-k)=(j-k)+g.length by lia,Nat.add_mod_right,eS (show j-k<g.length by lia),Nat.sub_add_cancel h,eS a5]
     ·rw[eS (show j+(g.length-k)<g.length by lia),show j+(g.length-k)+k=j+g.length by lia,Nat.add_mod_right,eS a5]
    show vv.getD (((j+(g.length-k))%g.length+k)%g.length) 0=v;rw[em,ae,aa r];exact ej
   ·obtain⟨j,r⟩:=bX.mp (X.mem_iff.mp hz);have :=(aC.mp r).1;exact⟨j+1,by lia,by lia,(a4 j z r).tk e9⟩
   ·have r:e-1<bs.length:=by lia
    have h:=a4 (e-1) _ (aa r);rw[show e-1+1=e by lia]at h;exact⟨_,X.mem_iff.mpr (bo r),h.tk e9⟩
   ·rw[X.length_eq];lia
  have d6:(g.drop k++g.take k).length=g.length:=by rw[bw,d7]
  have md:∀i,(i+k)%g.length<g.length:=fun i=>CN _ (by lia);refine⟨e8 _ _ f4,by lia,by lia,fun i=>nmB_ok (aT (md i) (by lia)),fun i j hi r e=>?_,fun i c hc=>?_,b6,hf,s.par⟩
  ·have e:=nmB_inj (aT (md i) (by lia)) (aT (md j) (by lia)) e;rw[d6]at hi r;have a8:∀i,i<g.length->(i+k)%g.length=if i+k<g.length then i+k else i+k-g.length:=fun i hi=>by
    by_cases h:i+k<g.length;·rw[if_pos h,eS h]
    ·rw[if_neg h,Nat.mod_eq_sub_mod (by lia),eS (by lia)]
   rw[a8 i hi,a8 j r]at e;split at e<;>split at e<;>lia
  ·have hi:=(aC.mp hc).1;rw[d6]at hi;rw[rot g8 hi]at hc;obtain⟨b,rfl,hb⟩:=cb.at_ _ c hc;have b9:vv.getD ((i+k)%g.length) 0<q.length:=by
    have a6:(i+k)%g.length<vv.length:=by rw[<-cb.len];exact md i
    rw[ae,aa a6];exact cb.lt _ (bo a6)
   obtain⟨a8,er,fr⟩:=FF ik _ (show vv.getD ((i+k)%g.length) 0<(nds f q n).length by rw[ai,ba];exact b9);rw[ae (l:=ys),er]at hb;rw[DM b9]at fr;exact⟨b9,b,a8,rfl,e7 _ _ hb,c3 _ _ fr⟩
end
end Bt
namespace Bm
open Mt
structure Bk(f:Nat->Int)(own par:Nat->Nat)(n N:Nat)(rows:List (List Int)):Prop where
 hp:∀v,1<=v->v<N->par v<v
 hf:∀p,p<n->f p=0\/f p=1
 ow:∀p,p<n->own p<N
 has:∀e,1<=e->e<N->∃p,p<n/\own p=e
 row:∀r∈rows,∃v,v<N/\r=nd f own par n v
 cp:∀v,v<N->near par N v<=2->nd f own par n v∈rows
 tb:M7.Tbl rows n
section
variable {f:Nat->Int}{own par:Nat->Nat}{n N:Nat}{rows:List (List Int)}
theorem qL{u:Nat}(h:on par (own p) u=on par (own p) v):rdv f own par u p=rdv f own par v p:=by unfold rdv;rw[h]
theorem nd_ok(hf:∀p,p<n->f p=0\/f p=1)(v:Nat):M6.Ok n (nd f own par n v):=⟨vP,fun x a=>by unfold nd at a;obtain⟨p,hp,rfl⟩:=aF.mp a;exact rdv_bit (hf p (aY.mp hp))⟩
theorem Bk.fits(b:Bk f own par n N rows)(c:v<N):M7.Fits rows n (nd f own par n v):=by
 refine⟨nd_ok b.hf v,fun i j hi a=>?_⟩;obtain⟨d,m,e,g,l⟩:=there b.hp (cp:=fun v=>nd f own par n v∈rows) (fun v c h=>by
  apply aN
  intro k;exact h (b.cp v c (by lia))) c (b.ow i hi) (b.ow j a)
 exact⟨_,e,by rw[eG hi,eG hi];exact qL g,by rw[eG a,eG a];exact qL l⟩
theorem Bk.Ed(b:Bk f own par n N rows)(hp:p<n)(c:1<=own p):rdv f own par (own p) p≠rdv f own par (par (own p)) p:=fun z=>by have d:=b.ow p hp;have g:=b.hp _ c d;have a:=zw (own:=own) (v:=own p) b.hp b.hf hp;have e:=zw (own:=own) (v:=par (own p)) b.hp b.hf hp;rw[z,<-e,jh b.hp c d]at a;have :=pC b.hp _ (by lia) a.symm;lia
theorem Bk.same(b:Bk f own par n N rows)(hp:p<n)(a:1<=own p)(h:own q≠own p):rdv f own par (own p) q=rdv f own par (par (own p)) q:=
 qL (by rw[jH b.hp a (b.ow p hp),decide_eq_false (fun z=>h z.symm),bO])
theorem Bk.cls(b:Bk f own par n N rows)(hp:p<n)(hq:q<n)(h:own q=own p):M7.Cls rows p q:=by intro r a s c;obtain⟨u,g,rfl⟩:=b.row r a;obtain⟨v,i,rfl⟩:=b.row s c;rw[eG hp,eG hp,eG hq,eG hq];have d:=b.hf p hp;have e:=b.hf q hq;unfold rdv;rw[h];cases on par (own p) u<;>cases on par (own p) v<;>simp <;>lia
theorem Bk.ends(b:Bk f own par n N rows)(hp:p<n)(k:1<=own p):M7.End rows n p (nd f own par n (own p))/\M7.End rows n p (nd f own par n (par (own p))):=by
 have m:=b.ow p hp;have B:=b.hp _ k m;have i:=b.fits m;have j:=b.fits (show par (own p)<N by lia);have y:=b.Ed hp k;have o:∀q,q<n->¬M7.Cls rows p q->∃r∈rows,∃s∈rows,r.getD p 0≠s.getD p 0/\r.getD q 0=rdv f own par (own p) q/\s.getD q 0=rdv f own par (own p) q/\rdv f own par (own p) q=rdv f own par (par (own p)) q:=fun q hq c=>by have A:own q≠own p:=fun z=>c (b.cls hp hq z);have x:=b.same hp k A;obtain⟨r,a,t,u⟩:=i.2 p q hp hq;obtain⟨s,d,v,w⟩:=j.2 p q hp hq;rw[eG hp]at t v;rw[eG hq]at u w;exact⟨r,a,s,d,by rw[t,v];exact y,u,by rw[w,x],x⟩
 refine⟨⟨i.1,fun q hq _=>i.2 p q hp hq,fun q hq c=>?_⟩,⟨j.1,fun q hq _=>j.2 p q hp hq,fun q hq c=>?_⟩⟩;·obtain⟨r,a,s,d,e,g,h,_⟩:=o q hq c;exact⟨r,a,s,d,e,by rw[eG hq];exact g,by rw[eG hq];exact h⟩
 ·obtain⟨r,a,s,d,e,g,h,l⟩:=o q hq c;exact⟨r,a,s,d,e,by rw[eG hq,<-l];exact g,by rw[eG hq,<-l];exact h⟩
theorem Bk.end_iff(b:Bk f own par n N rows)(hp:p<n)(e:1<=own p){x:List Int}:M7.End rows n p x↔x=nd f own par n (own p)\/x=nd f own par n (par (own p)):=by
 obtain⟨a,d⟩:=b.ends hp e;constructor
 ·intro h;have j:=b.Ed hp e;have k:=h.ok.at p;have g:=a.ok.at p;have i:=d.ok.at p;rw[eG hp]at g i;by_cases c:x.getD p 0=rdv f own par (own p) p;·exact .inl (M7.End.one b.tb hp h a (by rw[eG hp];exact c))
  ·exact .inr (M7.End.one b.tb hp h d (by rw[eG hp];lia))
 ·rintro(rfl|rfl);·exact a
  ·exact d
theorem Bk.torn(b:Bk f own par n N rows)(hp:p<n):K32.grp rows p≠0↔1<=own p:=by
 rw[M9.ve b.tb];constructor
 ·rintro⟨r,a,s,c,g⟩;obtain⟨u,k,rfl⟩:=b.row r a;obtain⟨v,l,rfl⟩:=b.row s c;rw[eG hp,eG hp]at g;apply Nat.one_le_iff_ne_zero.mpr;intro z;apply g;have h:∀w,w<N->on par (own p) w=false:=fun w m=>by
   cases q:on par (own p) w with
   |false=>rfl
   |true=>have :=pC b.hp w m q;lia
  exact qL (by rw[h u k,h v l])
 ·intro d;have e:=b.ow p hp;have o:=b.hp _ d e;obtain⟨r,a,i,_⟩:=(b.fits e).2 p p hp hp;obtain⟨s,c,j,_⟩:=(b.fits (show par (own p)<N by lia)).2 p p hp hp;rw[eG hp]at i j;exact⟨r,a,s,c,by rw[i,j];exact b.Ed hp d⟩
theorem Bk.mem(b:Bk f own par n N rows){v:List Int}:M7.Fits rows n v↔∃k,k<N/\v=nd f own par n k:=by
 constructor
 ·intro h;rcases M7.Fc b.tb h with e|⟨p,hp,g,e⟩
  ·have j:M4.bl (K32.fr rows) n (fun _=>false)=rows.getD 0 []:=M7.FQ (M4.iz _ _ _) (b.tb.ok _ b.tb.first).1 fun i hi=>by rw[M7.iD hi,if_neg ao];rfl
   rw[j]at e;obtain⟨k,a,l⟩:=b.row _ b.tb.first;exact⟨k,a,e.trans l⟩
  ·have c:=(b.torn hp).mp g;have d:=b.ow p hp;have m:=b.hp _ c d;rcases(b.end_iff hp c).mp (M7.sU b.tb hp g)with e4|e4;·exact⟨own p,d,e.trans e4⟩
   ·exact⟨par (own p),by lia,e.trans e4⟩
 ·rintro⟨k,a,rfl⟩;exact b.fits a
theorem Bk.inj(b:Bk f own par n N rows)(hi:i<N)(a:j<N)(e:nd f own par n i=nd f own par n j):i=j:=by
 apply aN
 intro c;rcases Nat.lt_or_gt_of_ne c with h|h;·exact Fk b.hp b.hf h a (b.has j (by lia) a) e.symm
 ·exact Fk b.hp b.hf h hi (b.has i (by lia) hi) e
noncomputable def nodes(f:Nat->Int)(own par:Nat->Nat)(n N:Nat):List (List Int):=(aG N).map (nd f own par n)
theorem Bk.Kt(b:Bk f own par n N rows):(nodes f own par n N).Nodup:=by unfold nodes;rw[AO,cZ];refine cY.mpr fun i j hi a c z=>?_;rw[ba]at hi a;rw[i5,i5]at z;exact absurd (b.inj hi a z) (by lia)
theorem Bk.perm(b:Bk f own par n N rows):(M8.nds rows n).Perm (nodes f own par n N):=by
 refine(List.perm_ext_iff_of_nodup (M8.ni b.tb) b.Kt).mpr fun v=>?_;rw[M8.gX b.tb,b.mem];unfold nodes;rw[aF];constructor;·rintro⟨k,a,e⟩;exact⟨k,aY.mpr a,e.symm⟩
 ·rintro⟨k,a,e⟩;exact⟨k,aY.mp a,e.symm⟩
theorem Bk.sorted(b:Bk f own par n N rows):M8.qh (M8.nds rows n)=M8.qh (nodes f own par n N):=M9.xZ (M8.ni b.tb) b.perm
end
end Bm
namespace Bt
open PySem PySem.Spec PyProof.Rows L2 R Cp Lt Kc Mt K21 K22 Lm
section
variable {H:Hp}{t:Addr}{cs bs:List V}{nf:Nat->Str}{vf:Nat->Nat}{f:Nat->Int}{ps os:List Nat}
noncomputable def rws(m:Nat)(vf:Nat->Nat)(f:Nat->Int)(ps os:List Nat):List (List Int):=(aG m).map fun i=>gN f ps os (vf i)
theorem rws_at(h:i<m):(rws m vf f ps os).getD i []=gN f ps os (vf i):=by unfold rws;rw[ae,aA,b9 h];rfl
theorem Blt.vlt(B:Blt H t cs nf vf f ps os)(h:i<cs.length):vf i<ps.length:=(B.at_ i _ (aa h)).1
theorem Blt.row(B:Blt H t cs nf vf f ps os)(h:r∈rws cs.length vf f ps os):∃v,v<ps.length/\r=nd f (fn os) (fn ps) os.length v:=by unfold rws at h;obtain⟨i,hi,rfl⟩:=aF.mp h;exact⟨vf i,B.vlt (aY.mp hi),rfl⟩
theorem Cr{a b:Bool}{x:Int}(c:x=0\/x=1)(h:(if a=true then 1-x else x)=if b=true then 1-x else x):a=b:=by rcases c with rfl|rfl<;>cases a<;>cases b<;>first |rfl| (revert h;decide)
theorem Blt.mis(B:Blt H t cs nf vf f ps os)(E:i<j)(l:j<os.length):M6.Mis (rws cs.length vf f ps os) i j:=by
 have m:=B.bit i (by lia);have n:=B.bit j l;have get:∀{p v:Nat},p<os.length->(nd f (fn os) (fn ps) os.length v).getD p 0=if on (fn ps) (fn os p) v=true then 1-f p else f p:=fun{p v} hp=>by rw[eG hp];rfl
 apply aN
 intro o;have c:∀a b:Bool,∃v,v<ps.length/\on (fn ps) (fn os i) v=a/\on (fn ps) (fn os j) v=b:=fun a b=>by
  apply aN
  intro k;refine o ⟨if a=true then 1-f i else f i,if b=true then 1-f j else f j,by split <;>lia,by split <;>lia,fun r q ⟨g,h⟩=>?_⟩;obtain⟨v,e,rfl⟩:=B.row q;rw[get (by lia)]at g;rw[get l]at h;refine k ⟨v,e,?_,?_⟩;·exact Cr m g
  ·exact Cr n h
 obtain⟨u,s,u1,y⟩:=c true true;obtain⟨v,e,z,A⟩:=c true false;obtain⟨w,x,C,D⟩:=c false true;exact Ks (d:=0) B.par s e x ⟨u1,y⟩ ⟨z,A⟩ ⟨C,D⟩
theorem Blt.tn(B:Blt H t cs nf vf f ps os):K34.Tn H t nf os.length cs (rws cs.length vf f ps os) where
 et:=B.et
 ln:=by unfold rws;rw[ai,ba]
 row:=fun i y e=>by obtain⟨_,b,r,a,c,d⟩:=B.at_ i y e;exact⟨b,r,a,c,by rw[rws_at (aC.mp e).1];exact d⟩
 ok:=B.ok
 inj:=B.inj
 len:=B.l40
 n10:=B.n60
 rd:=fun r k=>by obtain⟨v,_,rfl⟩:=B.row k;exact Bm.nd_ok B.bit v
 mis:=fun i j g h=>B.mis g h
theorem Blt.ne(B:Blt H t cs nf vf f ps os):cs≠[]:=fun z=>by have :=B.l1;rw[z]at this;simp at this
theorem Blt.bk(B:Blt H t cs nf vf f ps os)(x:Bx H bs cs.length vf f ps os):Bm.Bk f (fn os) (fn ps) os.length ps.length (rws cs.length vf f ps os) where
 hp:=B.par
 hf:=B.bit
 ow:=x.ow
 has:=x.has
 row:=fun r b=>B.row b
 cp:=fun v c a=>by obtain⟨i,hi,e⟩:=x.cp v c a;unfold rws;exact aF.mpr ⟨i,aY.mpr hi,by rw[e]⟩
 tb:=B.tn.tbl B.ne
end
end Bt
namespace K62
open PySem R
noncomputable def vD:List Str:=["_law_nodes_here","_law_cell","_law_many"]
noncomputable def nq:List Str:=["_law_nodes_here","_law_cell","_law_many","_law_node","_law_left","_law_drawn","_law_places","_law_k","_law_place"]
noncomputable def lO:CB:=
  (.cons (.ret (.comp ["_law_place"] [3] (.name 0) (.seq (.var 6)) .no (.tup (.cons (.var 0) (.cons (.idx (.var 1) (.var 0)) .nil)))))
  .nil)
noncomputable def gz:CB:=
  (.cons (.iff (.cmp .NotIn (.var 8) (.var 6))
  (.cons (.expr (.meth1 .append (.var 6) (.var 8)))
  .nil)
  .nil)
  .nil)
noncomputable def iW:CB:=
  (.cons (.asg (.name 4) (.bin .FloorDiv (.var 4) (.bfn .len (.cons (.var 3) .nil))))
  .nil)
noncomputable def jq:CB:=
  (.cons (.iff (.and (.cmp .Eq (.bin .Mod (.var 2) (.con (.int 2))) (.con (.int 1))) (.cmp .GtE (.var 4) (.bfn .len (.cons (.var 3) .nil))))
  (.cons (.asg (.name 8) (.bin .Mod (.var 4) (.bfn .len (.cons (.var 3) .nil))))
  iW)
  .nil)
  gz)
noncomputable def lP:CB:=
  (.cons (.forr (.name 7) (.range1 (.var 2))
  (.cons (.iff (.cmp .NotEq (.var 3) (.tup .nil))
  (.cons (.asg (.name 8) (.bin .Mod (.bin .Add (.bin .FloorDiv (.var 5) (.con (.int 20))) (.bin .Mult (.var 7) (.bin .Add (.con (.int 1)) (.bin .Mod (.bin .FloorDiv (.var 5) (.con (.int 1300))) (.con (.int 7)))))) (.bfn .len (.cons (.var 3) .nil))))
  jq)
  .nil)
  .nil))
  lO)
noncomputable def lQ:CB:=
  (.cons (.asg (.name 6) (.lst .nil))
  lP)
noncomputable def lR:CB:=
  (.cons (.asg (.name 5) (.call "_law_mixed" (.cons (.var 1) (.cons (.con (.int 3)) .nil))))
  lQ)
noncomputable def lS:CB:=
  (.cons (.asg (.name 4) (.bin .FloorDiv (.var 1) (.bfn .len (.cons (.var 0) .nil))))
  lR)
noncomputable def nU:CB:=
  (.cons (.asg (.name 3) (.idx (.var 0) (.bin .Mod (.var 1) (.bfn .len (.cons (.var 0) .nil)))))
  lS)
end K62
namespace K62
open PySem PySem.Spec PyProof.Rows L2 R Cp Lt Kc K21 K22 Lm K32 K34 K75
section
variable {G:Gam}{K:ah}
theorem getD_at{xs:List Int}(h:i<xs.length):(xs.map V.int)[i]? =some (.int (xs.getD i 0)):=by rw[aA,ae,aa h];rfl
theorem zr:∀{zs:List V}{ts:List (Nat×Int)},Paired (TgV H) zs ts->fL K H (ts.map fun q=>L2.D.tup [.int q.1,.int q.2]) zs
 |_,_,.nil=>rfl
 |_,_,.cons ⟨a,e,h⟩ t=>⟨_,_,rfl,by rw[e];exact⟨a,_,rfl,SqT.of h,_,_,rfl,rfl,_,_,rfl,rfl,rfl⟩,zr t⟩
theorem zY:∀ts:List (Nat×Int),fX (ts.map fun q=>L2.D.tup [.int q.1,.int q.2])<=1
 | []=>aZ _
 |q::ts=>by
  have :=zY ts;show max (hgt (L2.D.tup [.int q.1,.int q.2])) (fX (ts.map fun q=>L2.D.tup [.int q.1,.int q.2]))<=1;have :hgt (L2.D.tup [.int q.1,.int q.2])<=1:=by simp[hgt,fX]
  lia
theorem Ac{b:Type}(g:b->L2.D)(l:List b):eqD (.lst (l.map g)) (.lst [])=decide (l=[]):=by
 cases l with
 |nil=>rfl
 |cons a l=>rfl
theorem inV_iN(p:Nat)(a:List Nat):inV (.int p) (Bt.iN a)=decide (p∈a):=by
 unfold inV Bt.iN;rw[Gs,cz,cB,decide_eq_true_eq];constructor
 ·rintro⟨x,b,h⟩;have h:((x:Int)==(p:Int))=true:=h;have :(x:Int)=(p:Int):=by simpa using h
  have :x=p:=by lia
  exact this▸b
 ·intro h;exact⟨p,h,by show((p:Int)==(p:Int))=true;simp⟩
theorem flat_iN(a:List Nat):(Bt.iN a).all pI=true:=by unfold Bt.iN;rw[o9,bI];exact fun _ _=>rfl
def spTl(K:ah):Sp:=fun vs H Q _=>∃(nl:Addr)(c:Int)(m n:Nat)(ws:List V)(ns:List (List Int)),vs=[.ref nl,.int c,.int m]/\SqL K H nl ws/\Paired (NdV K H) ws ns/\ns≠[]/\ns.length<=61/\(∀v∈ns,M6.Ok n v)/\n<=60/\m<=7/\
 ∀H' l zs ts v,aQ H H'->H l=none->Tls H' l zs ts->Vt n ts->v∈ns->rdT ts v=true->Q (.ref l) H'
theorem wp_tl(g1:G.fn "_law_mixed" 2=some (Bt.A4,[])):Sat G K (spTl K) nU nq:=by
 rintro Q H b5 a2 ⟨u,c,m,n,l,ns,rfl,C,pn,ne,c0,a6,b9,m7,b3⟩;have wl:l.length=ns.length:=K83.iR pn;have c1:0<ns.length:=iE.mpr ne;unfold nU;change wpB G K _ _ _ [some (.ref u),some (.int c),some (.int m),none,none,none,none,none,none] H;walk_at "wp";refine .inl ⟨u,l,rfl,.inl C,i9.mpr ⟨by lia,?_⟩⟩;have i0:0<=c%(l.length:Int):=cC _ (by lia);have i1:c%(l.length:Int)<(l.length:Int):=bV _ (by lia);obtain⟨z,hz⟩:=b8 i0;rw[hz]at i1⊢;have Y:z<l.length:=by lia
 obtain⟨v,hv,b,eb,F⟩:=iS pn (aa Y);have X:=aI hv;have a0:=a6 v X;have vl:=a0.1;refine .inl ⟨u,l,z,_,rfl,rfl,C,cn (aa Y),?_⟩;rw[eb];unfold lS;walk_at "wp";refine .inl ⟨u,l,rfl,.inl C,div_ii.mpr ⟨⟨by lia,by lia⟩,?_⟩⟩;generalize c/(l.length:Int)=r;unfold lR;walk_at "wp";refine⟨_,_,g1,c,3,rfl,by decide,by decide,?_⟩;have a3:=Bt.mx_nn c 3;generalize Bt.mx c 3=dr at a3⊢;unfold lQ;walk_at "wp";refine⟨short (by simp),fun s W=>?_⟩;have s1:=av (o:=.lst []) W;have A:upd H s (.lst []) s=some (.lst []):=au;generalize upd H s (.lst [])=H1 at s1 A⊢;unfold lP;walk_at "wp";refine fJ ?_;walk_at "wp";refine⟨(m:Int),rfl,by lia,by lia,?_⟩;rw[aM];refine eZ cR (fun i R E=>aQ H E/\∃(d:List Nat)(r:Int)(x b4:Option V),E s=some (.lst (Bt.iN d))/\d.length<=i/\d.Nodup/\(∀p∈d,p<n)/\R=[some (.ref u),some (.int c),some (.int m),some (.ref b),some (.int r),some (.int dr),some (.ref s),x,b4])
  ⟨s1,[],r,none,none,A,az _,.nil,(fun p hp=>nomatch hp),rfl⟩ (fun _ _ _ _ _=>trivial) ?_ ?_
 ·rintro i x R H2 t D2 hi ⟨D,d,r,x',y',g,b2,nd,plt,rfl⟩ rfl k L _;have g:=k _ _ g;have y:=D.trans k;have a5:=y.tup F
  --the last row
  have put:∀(q:Hp),aQ t q->∀(Z:Int)(p:Nat),p<n->wpB G K (fun _=>a2) gz D2 [some (.ref u),some (.int c),some (.int m),some (.ref b),some (.int Z),some (.int dr),some (.ref s),some (.int (i:Int)),some (.int (p:Int))] q:=fun q f Z p hp=>by
   have g:=f _ _ g;have y:=y.trans f;unfold gz;walk_at "wp";refine .inr ⟨s,Bt.iN d,rfl,.inl (SqL.of g),rfl,flat_iN d,_,rfl,?_⟩;rw[if_pos rfl,inV_iN];by_cases cp:p∈d;·rw[decide_eq_true cp,if_neg (by decide)];exact L _ _ ⟨y,d,_,_,_,g,by lia,nd,plt,rfl⟩
   ·rw[decide_eq_false cp,if_pos (by decide)];refine⟨.inl ⟨rfl,_,SqL.of g⟩,s,_,_,rfl,rfl,g,K32.uw (by rw[Bt.cS];lia),L _ _ ⟨eX y W,d++[p],_,_,_,by rw[Bt.uU];exact au,by simp;lia,?_,fun x I=>?_,rfl⟩⟩;·rw[fk];exact⟨nd,by simp,fun a M b F=>by rw[bg.mp F];exact fun z=>cp (z▸M)⟩
    ·rcases dh.mp I with h|h;·exact plt x h
     ·rw[bg.mp h];exact hp
  walk_at "wp";simp only[eE];refine⟨aZ _,fun J a8=>?_⟩;have f:=av (o:=.tup []) a8;have S:upd t J (.tup []) J=some (.tup []):=au;generalize upd t J (.tup [])=q at f S⊢;have B:=f.tup a5;refine⟨K83.nd1 v,K83.nd1 [],⟨b,_,rfl,B,fL.ints _⟩,⟨J,_,rfl,SqT.of S,rfl⟩,?_,_,rfl,?_⟩;·show fX (v.map L2.D.int)+1<=30;rw[oQ];decide
  rw[eqD_nd];by_cases cv:v=[];·rw[decide_eq_true cv,if_neg (by decide)];exact L _ _ ⟨y.trans f,d,_,_,_,f _ _ g,by lia,nd,plt,rfl⟩
  ·rw[decide_eq_false cv,if_pos (by decide)];have n0:0<n:=by rw[<-vl];exact iE.mpr cv
   have P:(v.map V.int).length=n:=by rw[ai,vl]
   have j0:0<=dr/1300%7:=cC _ (by decide);have j1:dr/1300%7<7:=bV _ (by decide);refine⟨⟨by decide,by decide⟩,⟨by decide,by decide⟩,by decide,wC (by lia) (by lia),.inl ⟨b,_,rfl,.inr B,i9.mpr ⟨by lia,?_⟩⟩⟩;rw[P];have w0:0<=(dr/20+(i:Int)*(1+dr/1300%7))%(n:Int):=cC _ (by lia);have w1:(dr/20+(i:Int)*(1+dr/1300%7))%(n:Int)<(n:Int):=bV _ (by lia);obtain⟨p,hp⟩:=b8 w0;rw[hp]at w1⊢;unfold jq;walk_at "wp";refine⟨by decide,?_⟩;by_cases cm:(m:Int)%2=1
   ·rw[if_pos (decide_eq_true cm)];refine .inl ⟨b,_,rfl,.inr B,Lh.mpr ⟨_,rfl,?_⟩⟩;rw[P];by_cases cl:(n:Int)<=r;·rw[if_pos (decide_eq_true cl)];refine .inl ⟨b,_,rfl,.inr B,i9.mpr ⟨by lia,?_⟩⟩;rw[P];have y0:0<=r%(n:Int):=cC _ (by lia);have y1:r%(n:Int)<(n:Int):=bV _ (by lia);obtain⟨p',a7⟩:=b8 y0;rw[a7]at y1⊢;unfold iW;walk_at "wp";refine .inl ⟨b,_,rfl,.inr B,div_ii.mpr ⟨⟨by lia,by lia⟩,?_⟩⟩;exact put q f _ p' (by lia)
    ·rw[if_neg (by simpa using cl)];exact put q f _ p (by lia)
   ·rw[if_neg (by simpa using cm),if_neg ao];exact put q f _ p (by lia)
 ·rintro R H2 ⟨D,d,r,x',y',g,b2,nd,plt,rfl⟩;unfold lO;walk_at "wp";have a4:=D.tup F;refine dH (cT rfl (SqL.of g) (eJ dZ (eW (by rw[Bt.cS];lia)) (fun t k=>SqL.of (k _ _ g)) (fun i w E=>∃a,w=V.ref a/\E a=some (.tup [.int (d.getD i 0:Nat),.int (v.getD (d.getD i 0) 0)])) (fun i w t q f ⟨a,e,h⟩=>⟨a,e,f _ _ h⟩) (fun τ=>∃a1,τ=[a1,some (.ref b)]) ⟨none,rfl⟩ ?_ ?_))
  ·rintro i x τ t b6 hi ⟨a1,rfl⟩ k I b0;rw[Bt.cS]at hi;rw[Bt.rA hi]at I;cases I;have a9:d.getD i 0∈d:=by rw[ae,aa hi];exact bo hi
   have b7:=plt _ a9;walk_at "wp";refine .inr (.inl ⟨b,_,(d.getD i 0:Nat),_,rfl,rfl,k.tup a4,cn (getD_at (by lia)),short (by simp),fun a M=>b0 _ _ _ ⟨_,rfl⟩ (av M) ⟨a,rfl,au⟩⟩)
  ·intro Q t b1 O hF k N;rw[Bt.cS]at O;have f:=k.trans (av (o:=.lst Q) N);refine b3 _ b1 Q (d.map fun p=>(p,v.getD p 0)) v (D.trans f) ((D.trans k).free N) ⟨au,pr_mk (by rw[ai];exact O) fun j z w A T=>?_⟩ ⟨fun w C=>?_,?_⟩ X ?_
   ·obtain⟨a,e,h⟩:=hF j z A;have U:j<d.length:=by rw[<-O];exact(aC.mp A).1
    rw[aA,aa U]at T;cases T;rw[ae,aa U]at h;exact⟨a,e,av N _ _ h⟩
   ·obtain⟨p,hp,rfl⟩:=aF.mp C;exact⟨plt p hp,a0.at p⟩
   ·rw[bD];have e:((fun x:Nat×Int=>x.1)∘fun p=>(p,v.getD p 0))=id:=rfl;rw[e,dP];exact nd
   ·unfold rdT;rw[o9,bI];exact fun p _=>decide_eq_true rfl
end
theorem GN{ks:List (List Int)}(nd:ks.Nodup)(h:_root_.Q.IntKeys H ys ks):Paired (NdV K H) (_root_.Q.cj .non ks ys) (M8.qh ks):=by
 unfold M8.qh _root_.Q.cj;have lt:∀i∈_root_.Q.vG ks,i<ks.length:=fun i hi=>K83.uQ nd hi;generalize _root_.Q.vG ks=o at lt
 induction o with
 |nil=>exact .nil
 |cons i o ih=>obtain⟨a,e,f⟩:=Bt.FF h i (lt i (.head _));refine .cons ⟨a,?_,SqT.of f⟩ (ih fun j b=>lt j (.tail _ b));show ys.getD i V.non=V.ref a;rw[ae,e];rfl
end K62
namespace K64
open PySem PySem.Spec PyProof.Rows L2 R Cp Lt Kc K21 K22 Lm K32 K34 K75 K62
section
variable {G:Gam}{K:ah}{T:Tb}
theorem EH{t:Addr}{E:XK}{Q:VK}(d:Tn H t nf n ys rows)(ne:ys≠[])(tb:Tab T H)
  (q:∀H2 p nl bl b a,Gr T H H2->SqT K H2 p [.ref nl,.ref bl]->SqL K H2 nl b->Paired (NdV K H2) b (M8.qh (M8.nds rows n))->SqL K H2 bl a->Paired (TrV K H2) a (M8.GL (M8.trs rows n))->Q (.ref p) H2):K83.sC T [.ref t] H Q E:=by
 refine tree_n (K:=K) (E:=fun _=>E) d tb (fun H2 p gr _ c=>?_) [];rw[if_neg ne]at c;unfold M9.trD at c;obtain⟨_,_,e,hp,_,_,rfl,⟨nl,b,rfl,g,i⟩,_,_,rfl,⟨bl,a,rfl,f,h⟩,rfl⟩:=c;cases e;exact q _ _ _ _ _ _ gr hp g (Bc i) f (Bb h)
end
end K64
namespace K61
open PySem R
noncomputable def nh:List Str:=["self","one","other"]
noncomputable def kg:List Str:=["self","one","other"]
noncomputable def me:CB:=
  (.cons (.fldX (.var 0) "other" (.var 2))
  .nil)
noncomputable def mf:CB:=
  (.cons (.fldX (.var 0) "one" (.var 1))
  me)
noncomputable def ku:CB:=
  (.cons (.expr (.base "KinError" (.cons (.var 0) (.cons (.var 1) (.cons (.var 2) .nil)))))
  mf)
noncomputable def xC:List Str:=["nodes","tellings"]
noncomputable def pE:List Str:=["nodes","tellings","place","one","other"]
noncomputable def pK:CB:=
  (.cons (.forr (.tup (.cons (.name 2) (.cons (.name 3) .nil))) (.enum (.var 1))
  (.cons (.forr (.name 4) (.seq (.cut (.var 1) (.yes (.var 2)) .no))
  (.cons (.iff (.cmp .Eq (.bfn .len (.cons (.call "that_read" (.cons (.var 0) (.cons (.lst (.cons (.var 3) (.cons (.var 4) .nil))) .nil))) .nil)) (.con (.int 0)))
  (.cons (.raisX "Torn" (.cons (.bfn .tuple (.cons (.bfn .list (.cons (.var 3) .nil)) .nil)) (.cons (.bfn .tuple (.cons (.bfn .list (.cons (.var 4) .nil)) .nil)) .nil)))
  .nil)
  .nil)
  .nil))
  .nil))
  .nil)
noncomputable def zA:List Str:=["nodes","tellings"]
noncomputable def qS:List Str:=["nodes","tellings","found"]
noncomputable def nP:CB:=
  (.cons (.ret (.var 2))
  .nil)
noncomputable def nQ:CB:=
  (.cons (.iff (.cmp .Eq (.bfn .len (.cons (.var 2) .nil)) (.con (.int 0)))
  (.cons (.expr (.call "refuse_torn" (.cons (.var 0) (.cons (.var 1) .nil))))
  .nil)
  .nil)
  nP)
noncomputable def rH:CB:=
  (.cons (.asg (.name 2) (.call "that_read" (.cons (.var 0) (.cons (.var 1) .nil))))
  nQ)
noncomputable def Kl:List Str:=["table","tellings"]
noncomputable def BE:List Str:=["table","tellings"]
noncomputable def wK:CB:=
  (.cons (.ret (.call "told_nodes" (.cons (.idx (.call "tree" (.cons (.var 0) .nil)) (.con (.int 0))) (.cons (.var 1) .nil))))
  .nil)
noncomputable def Cn:CB:=
  (.cons (.expr (.call "need_tellings" (.cons (.var 0) (.cons (.var 1) .nil))))
  wK)
noncomputable def zI:List Str:=["table","tellings"]
noncomputable def rg:List Str:=["table","tellings","whole","nodes","unknown"]
noncomputable def rV:CB:=
  (.cons (.expr (.call "need_tellings" (.cons (.var 0) (.cons (.var 1) .nil))))
  (.cons (.asg (.name 2) (.call "tree" (.cons (.var 0) .nil)))
  (.cons (.asg (.name 3) (.call "told_nodes" (.cons (.idx (.var 2) (.con (.int 0))) (.cons (.var 1) .nil))))
  .hole)))
noncomputable def Bp:List Str:=["_law_node","_law_tellings_here"]
noncomputable def tP:List Str:=["_law_node","_law_tellings_here"]
noncomputable def t7:CB:=
  (.cons (.ret (.cmp .Eq (.comp ["_law_one"] [0] (.name 0) (.seq (.var 1)) (.yes (.cmp .NotEq (.idx (.var 1) (.idx (.var 0) (.con (.int 0)))) (.idx (.var 0) (.con (.int 1))))) (.var 0)) (.lst .nil)))
  .nil)
noncomputable def zD:List Str:=["_law_nodes_here","_law_tellings_here"]
noncomputable def qV:List Str:=["_law_nodes_here","_law_tellings_here"]
noncomputable def rL:CB:=
  (.cons (.ret (.comp ["_law_node"] [1] (.name 0) (.seq (.var 0)) (.yes (.call "_law_bears" (.cons (.var 0) (.cons (.var 1) .nil)))) (.var 0)))
  .nil)
noncomputable def zC:List Str:=["_law_tellings_here","_law_bits"]
noncomputable def qU:List Str:=["_law_tellings_here","_law_bits","_law_found","_law_k","_law_place","_law_elder"]
noncomputable def nS:CB:=
  (.cons (.ret (.var 2))
  .nil)
noncomputable def jc:CB:=
  (.cons (.expr (.meth1 .append (.var 2) (.tup (.cons (.var 4) (.cons (.var 5) .nil)))))
  .nil)
noncomputable def lN:CB:=
  (.cons (.iff (.and (.cmp .Eq (.bin .Mod (.var 1) (.con (.int 3))) (.con (.int 0))) (.cmp .In (.var 3) (.tup (.cons (.bin .Mod (.bin .FloorDiv (.var 1) (.con (.int 3))) (.con (.int 6))) (.cons (.bin .Mod (.bin .FloorDiv (.var 1) (.con (.int 18))) (.con (.int 6))) .nil)))))
  (.cons (.asg (.name 5) (.bin .Sub (.con (.int 1)) (.var 5)))
  .nil)
  .nil)
  jc)
noncomputable def nT:CB:=
  (.cons (.forr (.name 3) (.range1 (.bfn .len (.cons (.var 0) .nil)))
  (.cons (.asg (.tup (.cons (.name 4) (.cons (.name 5) .nil))) (.idx (.var 0) (.var 3)))
  lN))
  nS)
noncomputable def rK:CB:=
  (.cons (.asg (.name 2) (.lst .nil))
  nT)
noncomputable def DE:List Str:=["_law_nodes_here","_law_tellings_here"]
noncomputable def vQ:List Str:=["_law_nodes_here","_law_tellings_here","_law_k","_law_j"]
noncomputable def Ao:CB:=
  (.cons (.ret (.con .none))
  .nil)
noncomputable def wL:CB:=
  (.cons (.forr (.name 2) (.range1 (.bfn .len (.cons (.var 1) .nil)))
  (.cons (.forr (.name 3) (.range2 (.var 2) (.bfn .len (.cons (.var 1) .nil)))
  (.cons (.iff (.cmp .Eq (.call "_law_stands" (.cons (.var 0) (.cons (.lst (.cons (.idx (.var 1) (.var 2)) (.cons (.idx (.var 1) (.var 3)) .nil))) .nil))) (.lst .nil))
  (.cons (.ret (.tup (.cons (.idx (.var 1) (.var 2)) (.cons (.idx (.var 1) (.var 3)) .nil))))
  .nil)
  .nil)
  .nil))
  .nil))
  Ao)
noncomputable def xE:List Str:=["_law_table","_law_tellings_here","_law_way"]
noncomputable def pG:List Str:=["_law_table","_law_tellings_here","_law_way","_law_told","e"]
noncomputable def hJ:CB:=
  (.cons (.ret (.var 3))
  .nil)
noncomputable def mO:CB:=
  (.cons (.tryc "Torn" 4
  (.cons (.iff (.cmp .Eq (.var 2) (.con (.int 0)))
  (.cons (.expr (.call "stands" (.cons (.var 0) (.cons (.var 1) .nil))))
  .nil)
  (.cons (.expr (.call "first_read" (.cons (.var 0) (.cons (.var 1) .nil))))
  .nil))
  .nil)
  (.cons (.iff (.and (.bfn .isx (.cons (.var 4) (.cons (.glo "KinError") .nil))) (.bfn .isx (.cons (.var 4) (.cons (.ty .valueError) .nil))))
  (.cons (.asg (.name 3) (.tup (.cons (.fld (.var 4) "one") (.cons (.fld (.var 4) "other") .nil))))
  .nil)
  .nil)
  .nil))
  hJ)
noncomputable def pM:CB:=
  (.cons (.asg (.name 3) (.con .none))
  mO)
end K61
namespace K61
open PySem PySem.Spec PyProof.Rows L2 R Cp Lt Kc K21 K22 Lm M5 K32 K34 K75 K62
structure Cl2(K:ah)(B C:Addr):Prop where
 bs:BsX K B
 s1:StX K C "one"
 s2:StX K C "other"
 ex:∃f,sR K C f bmV "ValueError.__new__"=true
noncomputable def fl2(x y:V):List (Str×V):=[("one",x),("other",y)]
def zb(C:Addr):Sp:=fun vs H Q _=>∃a x y,vs=[.ref a,x,y]/\H a=some (exO a C none)/\∀dd H',dd≠a->H dd=none->H' a=some (exO a C (some dd))->H' dd=some (xdO dd (fl2 x y))->(∀b,b≠a->b≠dd->H' b=H b)->Q .non H'
section
variable {G:Gam}{K:ah}{B C CT:Addr}{T:Tb}
theorem IM(v1:G.val "KinError"=some (.ref B))(n:Cl2 K B C):
  Sat G K (zb C) ku kg:=by
 rintro j H Q E ⟨a,x,y,rfl,d,q⟩;unfold ku;change wpB G K _ _ _ [some (.ref a),some x,some y] H;walk_at "wp";obtain⟨f,hf⟩:=n.ex;refine⟨B,v1,n.bs,?_⟩;refine⟨_,rfl,_,rfl,_,rfl,a,C,f,[x,y],rfl,d,short (by show 2<=40;decide),hf,?_⟩;unfold mf;refine⟨_,rfl,_,rfl,a,C,rfl,n.s1,.inl ⟨d,fun c g=>?_⟩⟩;have ne:c≠a:=fun e=>by rw[e,d]at g;cases g
 unfold me;refine⟨_,rfl,_,rfl,a,C,rfl,n.s2,.inr ⟨c,_,au,by rw[aS ne];exact au,by simp,?_⟩⟩;rw[put2];refine q c _ ne g ?_ au fun b i h=>?_;·rw[aS (bA ne)];exact au
 ·rw[aS h,aS i,aS h]
theorem HK{z:Nat}(h:z<=ys.length):nO ys (some (z:Int)) none=ys.drop z:=by unfold nO;rw[HT.qK,HT.oG,AI h,eK (by rw[cN];lia)]
structure Nt(K:ah)(H:Hp)(a l:Addr)(n:Nat)(us zs:List V)(ns:List (List Int))(ts:List (Nat×Int)):Prop where
 ha:SqL K H a us
 pn:Paired (NdV K H) us ns
 hv:∀v∈ns,v.length=n
 nl:ns.length<=61
 n60:n<=60
 tl:Tls H l zs ts
 ok:∀q∈ts,q.1<n/\(q.2=0\/q.2=1)
 t60:ts.length<=60
theorem Nt.same{us:List V}{b:List (List Int)}(d:Nt K H a l n us zs b ts)(s:aQ H H'):Nt K H' a l n us zs b ts:=
 {d with ha:=s.seq d.ha,pn:=Paired.jM d.pn fun _ _ h=>h.same s,tl:=d.tl.same s}
theorem Nt.two{us:List V}{o:List (List Int)}{x:V}(d:Nt K H a l n us zs o ts)(s:aQ H H')(c:zs[i]? =some x)(f:zs[j]? =some y)(e:H' b=some (.lst [x,y])):Nt K H' a b n us [x,y] o (tw ts i j):=by
 obtain⟨q,hq,c⟩:=iS d.tl.pr c;obtain⟨r,m,f⟩:=iS d.tl.pr f;have g:ts.getD i (0,0)=q:=by rw[ae,hq];rfl
 have k:ts.getD j (0,0)=r:=by rw[ae,m];rfl
 have p:∀{x:V}{q:Nat×Int},TgV H x q->TgV H' x q:=fun⟨a,e,h⟩=>⟨a,e,s _ _ h⟩;refine{d.same s with tl:=⟨e,?_⟩,ok:=fun z hz=>?_,t60:=by show 2<=60;decide};·unfold tw;rw[g,k];exact .cons (p c) (.cons (p f) .nil)
 ·unfold tw at hz;rw[g,k]at hz;rcases aH.mp hz with rfl|hz;·exact d.ok _ (aI hq)
  ·rw[bg.mp hz];exact d.ok _ (aI m)
theorem Nt.thr{us:List V}{c:List (List Int)}(d:Nt K H a l n us zs c ts){Q:VK}{E:XK}(q:∀H' b ws,aQ H H'->H b=none->H' b=some (.lst ws)->Paired (NdV K H') ws (c.filter (rdT ts))->Q (.ref b) H'):qI K [.ref a,.ref l] H Q E:=
 ⟨a,l,n,us,zs,c,ts,rfl,d.ha,d.pn,d.hv,d.nl,d.n60,d.tl,d.ok,d.t60,q⟩
def Tw(H:Hp)(ts:List (Nat×Int))(i j:Nat)(x y:V):Prop:=TgV H x (ts.getD i (0,0))/\TgV H y (ts.getD j (0,0))
def EKt(T:Tb)(CT:Addr)(H:Hp)(ns:List (List Int))(ts:List (Nat×Int))(E:XK):Prop:=∀H' i j x y dd,Gr T H H'->Fp ns ts i j->Tw H' ts i j x y->H' dd=some (xdO dd (fl2 x y))->E (.ref CT) (some dd) H'
def Un(ns:List (List Int))(ts:List (Nat×Int)):Prop:=∃i j,i<=j/\j<ts.length/\ns.filter (rdT (tw ts i j))=[]
def spRt(K:ah)(T:Tb)(CT:Addr):Sp:=fun vs H _ E=>∃(a l:Addr)(n:Nat)(us zs:List V)(ns:List (List Int))(ts:List (Nat×Int)),vs=[.ref a,.ref l]/\Nt K H a l n us zs ns ts/\Un ns ts/\EKt T CT H ns ts E
def Lo(ns:List (List Int))(ts:List (Nat×Int))(i j:Nat):Prop:=∀a b,a<=b->b<ts.length->a<i\/a=i/\b<j->ns.filter (rdT (tw ts a b))≠[]
theorem wp_rt(g1:G.fn "that_read" 2=some (qI K,[]))(gI:G.ini "Torn" 2=some (CT,zb CT,[])):
  Sat G K (spRt K T CT) pK pE:=by
 rintro vs H c1 c0 ⟨a,l,c2,us,h,O,j,rfl,d,⟨i0,j0,h1,h2,h3⟩,qe⟩;have zl:h.length=j.length:=K83.iR d.tl.pr;unfold pK;change wpB G K _ _ _ [some (.ref a),some (.ref l),none,none,none] H;walk_at "wp";refine fJ ?_;walk_at "wp";refine⟨l,rfl,⟨h,SqL.of d.tl.hl⟩,?_⟩;refine eZ (Jy (xs:=h)) (fun i k J=>aQ H J/\Lo O j i i/\∃u a7 w,k=[some (.ref a),some (.ref l),u,a7,w]) ⟨aQ.refl _,fun _ _ _ _ z=>by lia,_,_,_,rfl⟩ (fun _ _ _ _ ⟨s,_⟩=>SqL.of (s _ _ d.tl.hl)) ?_ ?_
 ·rintro i c3 k H3 Y D2 hi ⟨s3,lo,u,a7,w,rfl⟩ ⟨p,X,rfl,hp,D⟩ s4 a8 _;obtain⟨f,b6,B,r,b1⟩:=iS d.tl.pr D;subst r;refine⟨p,_,rfl,SqT.of hp,rfl,_,_,rfl,_,_,rfl,rfl,?_⟩;have a4:=s3.trans s4;refine fJ ?_;refine⟨_,rfl,_,rfl,_,rfl,.inl ⟨l,h,rfl,SqL.of (a4 _ _ d.tl.hl),fun E b5=>.inl ⟨E,rfl,⟨_,SqL.of au⟩,?_⟩⟩⟩;rw[HK (jx hi)];have s5:=av (o:=.lst (h.drop i)) b5;have f5:upd Y E (.lst (h.drop i)) E=some (.lst (h.drop i)):=au;generalize upd Y E (.lst (h.drop i))=H5 at s5 f5⊢;have a5:=a4.trans s5;refine eZ (dZ (xs:=h.drop i)) (fun m k J=>aQ H5 J/\Lo O j i (i+m)/\∃w,k=[some (.ref a),some (.ref l),some (.int i),some (.ref B),w]) ⟨aQ.refl _,fun n q a b c=>lo n q a b (by lia),_,rfl⟩ (fun _ _ _ _ ⟨s,_⟩=>SqL.of (s _ _ f5)) ?_ ?_
  ·rintro m b9 k H6 H7 D3 hm ⟨F,x,w',rfl⟩ v s7 b0 _;have a6:=a5.trans (F.trans s7);have v:h[i+m]? =some b9:=by rw[<-v,fZ]
   obtain⟨g,b7,L,t,b2⟩:=iS d.tl.pr v;subst t;have jl:i+m<j.length:=by rw[<-zl];exact(aC.mp v).1
   walk_at "wp";refine⟨_,_,g1,short (by simp),fun p2 b4=>?_⟩;have I:=av (o:=.lst [V.ref B,V.ref L]) b4;have Z:=d.two (a6.trans I) D v au;generalize upd H7 p2 (.lst [V.ref B,V.ref L])=H8 at I Z⊢;refine Z.thr fun H9 l9 ws s9 n9 h9 p9=>?_;have W:=K83.iR p9;have P:=a6.trans (I.trans s9);refine .inl ⟨l9,_,rfl,.inl (SqL.of h9),kT.mpr ⟨_,rfl,?_⟩⟩;by_cases c:O.filter (rdT (tw j i (i+m)))=[]
   ·rw[c]at W;rw[W,if_pos (by rfl)];refine⟨CT,_,_,gI,?_⟩;refine⟨_,rfl,B,_,rfl,.inr (SqT.of (P _ _ b1)),fun X D=>⟨X,_,rfl,.inl ⟨SqL.of au,fun y a0=>?_⟩⟩⟩;have R:=av (o:=.lst [V.int f.1,V.int f.2]) D;generalize upd H9 X (.lst [V.int f.1,V.int f.2])=G1 at R a0⊢;have S:=av (o:=.tup [V.int f.1,V.int f.2]) a0;have u2:upd G1 y (.tup [V.int f.1,V.int f.2]) y=some (.tup [V.int f.1,V.int f.2]):=au;generalize upd G1 y (.tup [V.int f.1,V.int f.2])=G2 at S u2⊢;refine⟨_,rfl,L,_,rfl,.inr (SqT.of ((P.trans (R.trans S)) _ _ b2)),fun x3 b8=>⟨x3,_,rfl,.inl ⟨SqL.of au,fun A a3=>?_⟩⟩⟩;have t3:=av (o:=.lst [V.int g.1,V.int g.2]) b8;generalize upd G2 x3 (.lst [V.int g.1,V.int g.2])=G3 at t3 a3⊢;have U:=av (o:=.tup [V.int g.1,V.int g.2]) a3;have u4:upd G3 A (.tup [V.int g.1,V.int g.2]) A=some (.tup [V.int g.1,V.int g.2]):=au;generalize upd G3 A (.tup [V.int g.1,V.int g.2])=G4 at U u4⊢;refine⟨short (by show 2<=40;decide),fun p hp=>⟨p,_,_,rfl,au,fun C H2 ne hd r t e3=>⟨rfl,some C,r,?_⟩⟩⟩;have b3:G4 C=none:=by rw[aS ne]at hd;exact hd
    have Q:aQ G4 (del H2 p):=fun b u M=>by have N:b≠p:=a9 M hp;have n2:b≠C:=a9 M b3;rw[jD N,e3 b N n2,aS N];exact M
    refine qe _ i (i+m) (.ref y) (.ref A) C (Gr.of (P.trans (R.trans (S.trans (t3.trans (U.trans Q)))))) ⟨by lia,jl,c,x⟩ ?_ (by rw[jD ne];exact t);have r:j.getD i (0,0)=f:=by rw[ae,b6];rfl
    have t:j.getD (i+m) (0,0)=g:=by rw[ae,b7];rfl
    unfold Tw;rw[r,t];exact⟨⟨y,rfl,(t3.trans (U.trans Q)) _ _ u2⟩,⟨A,rfl,Q _ _ u4⟩⟩
   ·rw[if_neg (by rw[W];exact fun z=>c (aV.mp (by have :=of_decide_eq_true z;lia)))];refine b0 _ _ ⟨F.trans (s7.trans (I.trans s9)),fun n q a b z=>?_,_,rfl⟩;by_cases e:n=i/\q=i+m;·rw[e.1,e.2];exact c
    ·exact x n q a b (by lia)
  ·rintro k H6 ⟨F,x,w',rfl⟩;rw[cN]at x;exact a8 _ _ ⟨a5.trans F,fun n q a b c=>x n q a b (by lia),_,_,_,rfl⟩
 ·rintro k H3 ⟨_,lo,_⟩;exact absurd h3 (lo i0 j0 h1 h2 (.inl (by lia)))
def EK(K:ah)(T:Tb)(CT:Addr):Sp:=fun vs H Q E=>∃(a l:Addr)(n:Nat)(us zs:List V)(ns:List (List Int))(ts:List (Nat×Int)),vs=[.ref a,.ref l]/\Nt K H a l n us zs ns ts/\
 (ns.filter (rdT ts)≠[]->∀H' b ws,aQ H H'->H b=none->H' b=some (.lst ws)->Paired (NdV K H') ws (ns.filter (rdT ts))->Q (.ref b) H')/\
 (ns.filter (rdT ts)=[]->Un ns ts/\EKt T CT H ns ts E)
theorem EKt.gr{a:List (List Int)}{E:XK}(h:EKt T CT H a ts E)(g:Gr T H H'):EKt T CT H' a ts E:=fun _ _ _ _ _ _ b f t e=>h _ _ _ _ _ _ (g.trans b) f t e
theorem wp_tn1(k:G.fn "that_read" 2=some (qI K,[]))(m:G.fn "refuse_torn" 2=some (spRt K T CT,[])):
  Sat G K (EK K T CT) rH qS:=by
 rintro v H Q E ⟨a,l,n,r,s,h,j,rfl,d,p,q⟩;unfold rH;change wpB G K _ _ _ [some (.ref a),some (.ref l),none] H;walk_at "wp";refine⟨_,_,k,d.thr fun t l1 w b o g i=>?_⟩;unfold nQ;walk_at "wp";have f:=K83.iR i;refine .inl ⟨l1,_,rfl,.inl (SqL.of g),kT.mpr ⟨_,rfl,?_⟩⟩;by_cases c:h.filter (rdT j)=[];·rw[c]at f;rw[f,if_pos (by rfl)];obtain⟨u,e⟩:=q c;exact⟨_,_,m,a,l,n,r,s,h,j,rfl,d.same b,u,e.gr (Gr.of b)⟩
 ·rw[if_neg (by rw[f];exact fun z=>c (aV.mp (by have :=of_decide_eq_true z;lia)))];unfold nP;walk_at "wp";exact p c _ _ _ b o g i
structure Tt(H:Hp)(T:Tb)(t l:Addr)(nf:Nat->Str)(n:Nat)(ys zs:List V)(rows:List (List Int))(ts:List (Nat×Int)):Prop where
 tn:Tn H t nf n ys rows
 ne:ys≠[]
 tb:Tab T H
 tl:Tls H l zs ts
 vt:Vt n ts
theorem Tt.gr{t:Addr}(d:Tt H T t l nf n ys zs rows ts)(g:Gr T H H'):Tt H' T t l nf n ys zs rows ts:=⟨d.tn.gr g d.tb,d.ne,g.tab d.tb,d.tl.gr g d.tb,d.vt⟩
noncomputable def ndl(rows:List (List Int))(n:Nat):List (List Int):=M8.qh (M8.nds rows n)
theorem Tt.nt{t:Addr}{us:List V}(d:Tt H T t l nf n ys zs rows ts)(a:SqL K H nl us)(c:Paired (NdV K H) us (ndl rows n)):Nt K H nl l n us zs (ndl rows n) ts:=by have tbl:=d.tn.tbl d.ne;have e:=d.tn.n10;have b:=M9.vk (M8.ni tbl);refine⟨a,c,fun u a=>((M8.gX tbl).mp (b.mem_iff.mp a)).1.1,?_,by lia,d.tl,d.vt.ok,aP d.vt.len (by lia)⟩;have :=M9.Fi rows n;show(M8.qh (M8.nds rows n)).length<=61;rw[b.length_eq];lia
def EL(K:ah)(T:Tb)(CT:Addr):Sp:=fun vs H Q E=>∃(t l:Addr)(nf:Nat->Str)(n:Nat)(ys zs:List V)(rows:List (List Int))(ts:List (Nat×Int)),vs=[.ref t,.ref l]/\Tt H T t l nf n ys zs rows ts/\
 (stn rows n ts≠[]->∀H' f ws,Gr T H H'->H f=none->H' f=some (.lst ws)->Paired (NdV K H') ws (stn rows n ts)->Q (.ref f) H')/\(stn rows n ts=[]->EKt T CT H (ndl rows n) ts E)
theorem wp_st1(k:G.fn "need_tellings" 2=some (spNt K,[]))(m:G.fn "tree" 1=some (K83.sC T,[]))(o:G.fn "told_nodes" 2=some (EK K T CT,[])):
  Sat G K (EL K T CT) Cn BE:=by
 rintro L H Q E ⟨t,l,s,n,F,h,B,g,rfl,d,z,A⟩;unfold Cn;change wpB G K _ _ _ [some (.ref t),some (.ref l)] H;walk_at "wp";refine⟨_,_,k,t,l,s,n,F,h,B,g,rfl,d.tn,d.ne,d.tl,d.vt,fun I f=>?_⟩;have a:=d.gr (Gr.of f);unfold wK;walk_at "wp";refine⟨_,_,o,_,_,m,K64.EH (K:=K) a.tn d.ne a.tb fun i p u bl w J gr hp r x _ _=>?_⟩;have c:=a.gr gr;have b:Gr T H i:=(Gr.of f).trans gr;refine .inr (.inl ⟨p,_,0,_,rfl,rfl,hp,rfl,u,l,n,w,h,_,g,rfl,c.nt r x,fun ne j l1 D C v q y=>z ne j l1 D (b.trans (Gr.of C)) ?_ q y,fun e=>⟨eF (d.tn.tbl d.ne) d.vt e,(A e).gr b⟩⟩);exact K32.FH b c.tb v
def Jr(T:Tb)(CT:Addr):Sp:=fun vs H _ E=>∃(t l:Addr)(nf:Nat->Str)(n:Nat)(ys zs:List V)(rows:List (List Int))(ts:List (Nat×Int)),vs=[.ref t,.ref l]/\Tt H T t l nf n ys zs rows ts/\stn rows n ts=[]/\EKt T CT H (ndl rows n) ts E
theorem wp_fr1(j:G.fn "need_tellings" 2=some (spNt K,[]))(k:G.fn "tree" 1=some (K83.sC T,[]))(m:G.fn "told_nodes" 2=some (EK K T CT,[])):
  Sat G K (Jr T CT) rV rg:=by
 rintro A H Q E ⟨t,l,r,n,x,f,w,c,rfl,d,e,q⟩;unfold rV;change wpB G K _ _ _ [some (.ref t),some (.ref l),none,none,none] H;walk_at "wp";refine⟨_,_,j,t,l,r,n,x,f,w,c,rfl,d.tn,d.ne,d.tl,d.vt,fun y b=>?_⟩;have a:=d.gr (Gr.of b);refine⟨_,_,k,K64.EH (K:=K) a.tn d.ne a.tb fun g p s bl u z gr hp o v _ _=>?_⟩;have h:=a.gr gr;have i:Gr T H g:=(Gr.of b).trans gr;exact⟨_,_,m,.inr (.inl ⟨p,_,0,_,rfl,rfl,hp,rfl,s,l,n,u,f,_,c,rfl,h.nt o v,fun ne=>absurd e ne,fun _=>⟨eF (d.tn.tbl d.ne) d.vt e,q.gr i⟩⟩)⟩
def spBr(K:ah):Sp:=fun vs H Q _=>∃(b l:Addr)(n:Nat)(zs:List V)(v:List Int)(ts:List (Nat×Int)),vs=[.ref b,.ref l]/\SqT K H b (v.map V.int)/\v.length=n/\Tls H l zs ts/\(∀q∈ts,q.1<n/\(q.2=0\/q.2=1))/\ts.length<=60/\∀H',aQ H H'->Q (.bl (rdT ts v)) H'
theorem wp_br:Sat G K (spBr K) t7 tP:=by
 rintro vs H Q E ⟨b,l,n,j,v,f,rfl,L,T,d,ok,Z,q⟩;have U:j.length=f.length:=K83.iR d.pr;unfold t7;change wpB G K _ _ _ [some (.ref b),some (.ref l)] H;walk_at "wp";refine dH (cT rfl (SqL.of d.hl) (uV (ds:=f) U dZ (eW (by lia)) (fun V R=>SqL.of (R _ _ d.hl)) (fun q=> !decide (v.getD q.1 0=q.2)) (fun x _=>x) (fun J=>∃u,J=[u,some (.ref b)]) ⟨none,rfl⟩ ?_ ?_))
 ·rintro i x k J t X W N C ⟨u,rfl⟩ g P kf;obtain⟨Y,D,a,rfl,m⟩:=iS d.pr N;rw[C]at D;cases D;have O:=(ok k (aI C)).1;have m:=g _ _ m;walk_at "wp";refine .inr (.inl ⟨a,_,0,_,rfl,rfl,SqT.of m,rfl,.inr (.inl ⟨b,_,_,_,rfl,rfl,g.tup L,cn (K62.getD_at (by rw[T];exact O)),.inr (.inl ⟨a,_,1,_,rfl,rfl,SqT.of m,rfl,Fh.mpr ⟨_,rfl,?_⟩⟩)⟩)⟩);cases c:decide (v.getD k.1 0=k.2)with
  |true=>rw[if_neg (by decide)];exact kf _ _ ⟨_,rfl⟩ (aQ.refl _) (by rw[c];rfl)
  |false=>rw[if_pos (by decide)];exact P _ _ ⟨_,rfl⟩ (aQ.refl _) (by rw[c];rfl)
 ·intro A l2 S M;refine⟨aZ _,fun s y=>?_⟩;have g:=av (o:=.lst (((j.zip f).filter fun p=> !decide (v.getD p.2.1 0=p.2.2)).map fun p=>p.1)) M;have w:upd A l2 (.lst (((j.zip f).filter fun p=> !decide (v.getD p.2.1 0=p.2.2)).map fun p=>p.1)) l2=some (.lst (((j.zip f).filter fun p=> !decide (v.getD p.2.1 0=p.2.2)).map fun p=>p.1)):=au;have F:=uI (fun q:Nat×Int=> !decide (v.getD q.1 0=q.2)) d.pr;generalize((j.zip f).filter fun p=> !decide (v.getD p.2.1 0=p.2.2)).map (fun p=>p.1)=fs at g w F y⊢;generalize upd A l2 (.lst fs)=t at g w y⊢;have z:=av (o:=.lst []) y;have B:upd t s (.lst []) s=some (.lst []):=au;generalize upd t s (.lst [])=H4 at z B⊢;have I:=S.trans (g.trans z);have r:=zr (K:=K) (H:=H4) (Paired.jM F fun _ _ ⟨a,e,h⟩=>⟨a,e,I _ _ h⟩);refine⟨.lst _,.lst [],⟨l2,fs,rfl,SqL.of (z _ _ w),r⟩,⟨s,[],rfl,SqL.of B,rfl⟩,aP (iB (zY _)) (by decide),?_⟩;rw[Ac];have e:decide (f.filter (fun q=> !decide (v.getD q.1 0=q.2))=[])=rdT f v:=by rw[cz,decide_eq_true_eq,Gq];unfold rdT;rw[bI];refine forall_congr' fun q=>forall_congr' fun _=>?_;cases decide (v.getD q.1 0=q.2)<;>simp
  rw[e];exact q _ I
theorem wp_ls(B:G.fn "_law_bears" 2=some (spBr K,[])):Sat G K (qI K) rL qV:=by
 rintro Y H Q E ⟨a,l,n,z,N,t,f,rfl,j,g,D,W,X,d,v,L,q⟩;have M:z.length=t.length:=K83.iR g;unfold rL;change wpB G K _ _ _ [some (.ref a),some (.ref l)] H;walk_at "wp";refine dH (cT rfl j (uV M dZ (eW (by lia)) (fun O J=>J.seq j) (rdT f) (fun x _=>x) (fun A=>∃u,A=[u,some (.ref l)]) ⟨none,rfl⟩ ?_ ?_))
 ·rintro i x k A R U T F m ⟨u,rfl⟩ e I kf;obtain⟨V,r,b,rfl,C⟩:=iS g F;rw[m]at r;cases r;walk_at "wp";refine⟨_,_,B,b,l,n,N,k,f,rfl,e.tup C,D k (aI m),d.same e,v,L,fun S y=>⟨_,rfl,?_⟩⟩;cases c:rdT f k with
  |true=>rw[if_pos rfl];exact I _ _ ⟨_,rfl⟩ y c
  |false=>rw[if_neg (by decide)];exact kf _ _ ⟨_,rfl⟩ y c
 ·intro P l2 w s;have e:=w.trans (av (o:=.lst (((z.zip t).filter fun p=>rdT f p.2).map fun p=>p.1)) s);exact q _ l2 _ e (w.free s) au (uI (rdT f) (Paired.jM g fun _ _ h=>h.same e))
def spTu(K:ah):Sp:=fun vs H Q _=>∃(l:Addr)(b:Int)(n:Nat)(zs:List V)(ts:List (Nat×Int)),vs=[.ref l,.int b]/\Tls H l zs ts/\Vt n ts/\n<=60/\∀H' a ys us,aQ H H'->H a=none->Tls H' a ys us->Vt n us->Q (.ref a) H'
theorem wp_tu:Sat G K (spTu K) rK qU:=by
 rintro vs H a2 E ⟨l,b,a3,O,N,rfl,d,v,a4,q⟩;have zl:O.length=N.length:=K83.iR d.pr;have tl:=v.len;unfold rK;change wpB G K _ _ _ [some (.ref l),some (.int b),none,none,none,none] H;walk_at "wp";refine⟨aZ _,fun g C=>?_⟩;have J:=av (o:=.lst []) C;have S:upd H g (.lst []) g=some (.lst []):=au;generalize upd H g (.lst [])=H1 at J S⊢;unfold nT;walk_at "wp";refine fJ ?_;walk_at "wp";refine .inl ⟨l,O,rfl,.inl (SqL.of (J _ _ d.hl)),_,rfl,by lia,by lia,?_⟩;rw[aM];refine eZ cR (fun i P y=>aQ H y/\∃(r:List V)(m:List (Nat×Int))(x a1 z:Option V),y g=some (.lst r)/\Paired (TgV y) r m/\m.map (·.1)=(N.map (·.1)).take i/\(∀q∈m,q.2=0\/q.2=1)/\P=[some (.ref l),some (.int b),some (.ref g),x,a1,z])
  ⟨J,[],[],none,none,none,S,.nil,rfl,(fun _ h=>nomatch h),rfl⟩ (fun _ _ _ _ _=>trivial) ?_ ?_
 ·rintro i x P Q s X hi ⟨L,r,m,x',y',z',A,F,j,D,rfl⟩ rfl M hD _;have I:=L.trans M;obtain⟨k,T,a,Y,ha⟩:=iS d.pr (aa hi);obtain⟨k1,U⟩:=v.ok k (aI T);walk_at "wp";simp only[eE];refine .inl ⟨l,O,_,.ref a,rfl,rfl,SqL.of (I _ _ d.hl),cn (by rw[aa hi,Y]),?_⟩;refine⟨a,_,rfl,SqT.of (I _ _ ha),rfl,_,_,rfl,_,_,rfl,rfl,?_⟩;have Z:=M _ _ A;have p3:=Paired.jM F fun _ _ (h:TgV Q _ _)=>(let⟨a,e,h⟩:=h;⟨a,e,M _ _ h⟩:TgV s _ _)
  --the last row
  have put:∀(f:Hp)(w:Int),aQ s f->(w=0\/w=1)->wpB G K (fun _=>E) jc X [some (.ref l),some (.int b),some (.ref g),some (.int (i:Int)),some (.int (k.1:Int)),some (.int w)] f:=fun f w n hw=>by
   have t:=n _ _ Z;have W:=Paired.jM p3 fun _ _ (h:TgV s _ _)=>(let⟨a,e,h⟩:=h;⟨a,e,n _ _ h⟩:TgV f _ _);unfold jc;walk_at "wp";refine⟨.inl ⟨rfl,_,SqL.of t⟩,short (by simp),fun p hp=>?_⟩;have u:=av (o:=.tup [V.int (k.1:Int),V.int w]) hp;have B:upd f p (.tup [V.int (k.1:Int),V.int w]) p=some (.tup [V.int (k.1:Int),V.int w]):=au;generalize upd f p (.tup [V.int (k.1:Int),V.int w])=H5 at u B⊢;have yl:=K83.iR W;have ul:m.length=i:=by have :=congrArg jZ j;rw[ai,dw,ai]at this;lia
   refine⟨g,r,_,rfl,rfl,u _ _ t,K32.uw (by lia),hD _ _ ⟨eX (I.trans (n.trans u)) C,r++[.ref p],m++[(k.1,w)],_,_,_,au,?_,?_,fun q hq=>?_,rfl⟩⟩
   ·have ne:∀{c:Addr}{z:List V},H5 c=some (.tup z)->c≠g:=fun R j=>by rw[j,u _ _ t]at R;cases R
    refine K32.Paired.snoc ⟨p,rfl,by rw[aS (ne B)];exact B⟩ (Paired.jM W fun _ _ ⟨a,e,h⟩=>⟨a,e,?_⟩);rw[aS (ne (u _ _ h))];exact u _ _ h
   ·rw[dQ,j,dM,aA,T];rfl
   ·rcases dh.mp hq with h|h;·exact D q h
    ·rw[bg.mp h];exact hw
  unfold lN;walk_at "wp";refine⟨by decide,?_⟩;split
  ·refine⟨⟨by decide,by decide⟩,by decide,⟨by decide,by decide⟩,by decide,short (by simp),fun p hp=>?_⟩;have n:=av (o:=.tup [V.int (b/3%6),V.int (b/18%6)]) hp;have t:upd s p (.tup [V.int (b/3%6),V.int (b/18%6)]) p=some (.tup [V.int (b/3%6),V.int (b/18%6)]):=au;generalize upd s p (.tup [V.int (b/3%6),V.int (b/18%6)])=f at n t⊢;refine .inr ⟨p,_,rfl,.inr (SqT.of t),rfl,rfl,_,rfl,?_⟩;rw[if_neg ao];split;·exact put f _ n (by lia)
   ·exact put f _ n U
  ·rw[if_neg ao];exact put s _ (aQ.refl _) U
 ·rintro P Q ⟨L,r,m,x',y',z',A,F,j,D,rfl⟩;unfold nS;walk_at "wp";rw[eK (by rw[ai];lia)]at j;refine q _ g r m L C ⟨A,F⟩ ⟨fun q hq=>⟨?_,D q hq⟩,by rw[j];exact v.nd⟩;have :q.1∈N.map (·.1):=by rw[<-j];exact aF.mpr ⟨q,hq,rfl⟩
  obtain⟨a0,hr,e⟩:=aF.mp this;rw[<-e];exact(v.ok a0 hr).1
def spTo(K:ah):Sp:=fun vs H Q _=>∃(a l:Addr)(n:Nat)(us zs:List V)(ns:List (List Int))(ts:List (Nat×Int)),vs=[.ref a,.ref l]/\Nt K H a l n us zs ns ts/\Un ns ts/\
 ∀H' p i j x y,aQ H H'->H' p=some (.tup [x,y])->Fp ns ts i j->Tw H' ts i j x y->Q (.ref p) H'
theorem Nt.tw{us:List V}{o:List (List Int)}{x:V}(d:Nt K H a l n us zs o ts)(s:aQ H H')(k:zs[i]? =some x)(m:zs[j]? =some y):Tw H' ts i j x y:=by obtain⟨q,hq,a,e,h⟩:=iS d.tl.pr k;obtain⟨r,g,b,c,f⟩:=iS d.tl.pr m;unfold Tw;rw[ae,ae,hq,g];exact⟨⟨a,e,s _ _ h⟩,⟨b,c,s _ _ f⟩⟩
theorem wp_to(Q:G.fn "_law_stands" 2=some (qI K,[])):Sat G K (spTo K) wL vQ:=by
 rintro vs H a3 a2 ⟨a,l,a4,us,f,z,x,rfl,d,⟨i0,j0,R,S,T⟩,a0⟩;have zl:f.length=x.length:=K83.iR d.tl.pr;have a5:=d.t60;unfold wL;change wpB G K _ _ _ [some (.ref a),some (.ref l),none,none] H;walk_at "wp";refine fJ ?_;walk_at "wp";refine .inl ⟨l,f,rfl,.inl (SqL.of d.tl.hl),_,rfl,by lia,by lia,?_⟩;rw[aM];refine eZ cR (fun i g y=>aQ H y/\Lo z x i i/\∃u v,g=[some (.ref a),some (.ref l),u,v]) ⟨aQ.refl _,fun _ _ _ _ a1=>by lia,_,_,rfl⟩ (fun _ _ _ _ _=>trivial) ?_ ?_
 ·rintro i a6 g M H4 D2 hi ⟨s3,lo,u,v,rfl⟩ rfl s4 V Y;have L:=s3.trans s4;walk_at "wp";simp only[eE];refine fJ ?_;walk_at "wp";refine .inl ⟨l,f,rfl,.inl (SqL.of (L _ _ d.tl.hl)),?_⟩;refine⟨_,_,rfl,⟨by lia,by lia,by lia,by lia⟩,?_⟩;refine eZ cR (fun m g y=>aQ H y/\Lo z x i (i+m)/\∃v,g=[some (.ref a),some (.ref l),some (.int i),v]) ⟨L,fun k n a b c=>lo k n a b (by lia),_,rfl⟩ (fun _ _ _ _ _=>trivial) ?_ ?_
  ·rintro m a7 g N O D3 hm ⟨B,r,v,rfl⟩ rfl s6 W Z;have q:i+m<f.length:=by lia
   have P:(i:Int)+(m:Int)=((i+m:Nat):Int):=by lia
   have A:=B.trans s6;have I:=SqL.of (K:=K) (A _ _ d.tl.hl);walk_at "wp";rw[P];generalize hjj:i+m=j at q r⊢;refine⟨_,_,Q,.inl ⟨l,f,_,_,rfl,rfl,I,cn (aa hi),.inl ⟨l,f,_,_,rfl,rfl,I,cn (aa q),short (by simp),fun p hp=>?_⟩⟩⟩;have C:=av (o:=.lst [f[i],f[j]]) hp;have E:=d.two (A.trans C) (aa hi) (aa q) au;generalize upd O p (.lst [f[i],f[j]])=H7 at C E⊢;refine E.thr fun D l8 ws s8 n8 U p8=>⟨aZ _,fun s X=>?_⟩;have w:=av (o:=.lst []) X;have F:upd D s (.lst []) s=some (.lst []):=au;generalize upd D s (.lst [])=H9 at w F⊢;have t:=A.trans (C.trans (s8.trans w));have s:=Paired.jM p8 fun _ _ h=>h.same w;obtain⟨r1,r2⟩:=mC s;refine⟨.lst _,.lst [],⟨l8,ws,rfl,SqL.of (w _ _ U),r1⟩,⟨_,[],rfl,SqL.of F,rfl⟩,aP (iB (nG _)) (by decide),_,rfl,?_⟩;rw[Ac];by_cases c:z.filter (rdT (tw x i j))=[];·rw[decide_eq_true c,if_pos rfl];have J:=SqL.of (K:=K) (t _ _ d.tl.hl);refine .inl ⟨l,f,_,_,rfl,rfl,J,cn (aa hi),.inl ⟨l,f,_,_,rfl,rfl,J,cn (aa q),short (by simp),fun p hp=>?_⟩⟩;rw[Z,Y];exact a0 _ p i j _ _ (t.trans (av hp)) au ⟨by lia,by lia,c,r⟩ (d.tw (t.trans (av hp)) (aa hi) (aa q))
   ·rw[decide_eq_false c,if_neg (by decide)];refine W _ _ ⟨t,fun k n a b a1=>?_,_,rfl⟩;by_cases e:k=i/\n=j;·rw[e.1,e.2];exact c
    ·exact r k n a b (by lia)
  ·rintro g N ⟨B,r,v,rfl⟩;refine V _ _ ⟨B,fun k n a b c=>r k n a b (by lia),_,_,rfl⟩
 ·rintro g M ⟨_,lo,_⟩;exact absurd T (lo i0 j0 R S (.inl (by lia)))
noncomputable def su:CB:=
  (.cons (.iff (.and (.bfn .isx (.cons (.var 4) (.cons (.glo "KinError") .nil))) (.bfn .isx (.cons (.var 4) (.cons (.ty .valueError) .nil))))
  (.cons (.asg (.name 3) (.tup (.cons (.fld (.var 4) "one") (.cons (.fld (.var 4) "other") .nil))))
  .nil)
  .nil)
  .nil)
theorem lkO{x:V}:(fl2 x y).lookup (bf "other")=some y:=by unfold fl2;rw[a6,show((bf "other")==(bf "one"))=false by decide+kernel,a6,beq_self_eq_true]
theorem Tw.same{x:V}(t:Tw H ts i j x y)(s:aQ H H'):Tw H' ts i j x y:=⟨let⟨a,e,h⟩:=t.1;⟨a,e,s _ _ h⟩,let⟨a,e,h⟩:=t.2;⟨a,e,s _ _ h⟩⟩
structure Xn(G:Gam)(K:ah)(CT CK:Addr):Prop where
 v1:G.val "Torn"=some (.ref CT)
 v2:G.val "KinError"=some (.ref CK)
 ex:PySem.W.exmOne K (.ref CT) (.ref CT)=some true
 ok:lK K CT=true
 k1:cP K (.ref CT) (.ref CK)=some true
 k2:cP K (.ref CT) (.type "ValueError")=some true
 f1:nJ K CT "one"=true
 f2:nJ K CT "other"=true
def spRf(T:Tb):Sp:=fun vs H Q _=>∃(t l:Addr)(w:Int)(nf:Nat->Str)(n:Nat)(ys zs:List V)(rows:List (List Int))(ts:List (Nat×Int)),vs=[.ref t,.ref l,.int w]/\Tt H T t l nf n ys zs rows ts/\stn rows n ts=[]/\
 ∀H' p i j x y,Gr T H H'->H' p=some (.tup [x,y])->Fp (ndl rows n) ts i j->Tw H' ts i j x y->Q (.ref p) H'
theorem wp_rf{B:Addr}(X:Xn G K CT B)(F:G.fn "stands" 2=some (EL K T CT,[]))(I:G.fn "first_read" 2=some (Jr T CT,[])):Sat G K (spRf T) pM pG:=by
 rintro M H Q E ⟨t,l,w,u,n,z,A,g,k,rfl,d,e,q⟩;unfold pM mO;change wpB G K _ _ _ [some (.ref t),some (.ref l),some (.int w),none,none] H;walk_at "wp";refine⟨CT,X.v1,?_⟩;have r:EKt T CT H (ndl g n) k (qp K CT 4 (wpB G K N0 su) {nx:=wpB G K (fun _=>E) hJ {nx:=fun _ C=>Q .non C,rt:=Q},rt:=Q} [some (.ref t),some (.ref l),some (.int w),some .non,none]):=fun m i j x y b gr D tw f=>by
  refine⟨rfl,X.ex,fun a J=>?_⟩;have h:=av (o:=kR a (.ref CT) (some b)) J;have c:upd m a (kR a (.ref CT) (some b)) a=some (kR a (.ref CT) (some b)):=au;generalize upd m a (kR a (.ref CT) (some b))=H2 at h c⊢;have f:=h _ _ f;have s:Dk H2 (some b):=fun L e=>by cases e;exact⟨_,f⟩
  unfold su;walk_at "wp";refine⟨_,X.v2,isxX c s X.ok X.k1 ⟨true,rfl,?_⟩⟩;rw[if_pos rfl];refine isxV c s X.ok X.k2 ⟨true,rfl,?_⟩;rw[if_pos rfl];refine⟨a,CT,b,_,x,rfl,c,f,X.f1,rfl,?_⟩;refine⟨a,CT,b,_,y,rfl,c,f,X.f2,lkO,⟨short (by simp),fun p hp=>?_⟩⟩;change wpB G K (fun _=>E) hJ _ [some (.ref t),some (.ref l),some (.int w),some (.ref p),none] _;unfold hJ;walk_at "wp";have v:=h.trans (av (o:=.tup [x,y]) hp);exact q _ p i j x y (gr.trans (Gr.of v)) au D (tw.same v)
 split;·exact⟨_,_,F,t,l,u,n,z,A,g,k,rfl,d,fun ne=>absurd e ne,fun _=>r⟩
 ·exact⟨_,_,I,t,l,u,n,z,A,g,k,rfl,d,e,r⟩
end
end K61
namespace K61
open PySem R
noncomputable def p_law:List Str:=["_law_script"]
noncomputable def Ky:List Str:=["_law_script","_law_table","_law_nodes_here","_law_branches","_law_bits","_law_tellings_here","_law_due","_law_handed","_law_pair","_law_way","_law_found"]
noncomputable def Co:CB:=
  (.cons (.ret (.cmp .Eq (.call "stands" (.cons (.var 1) (.cons (.var 5) .nil))) (.var 6)))
  .nil)
noncomputable def Cq:CB:=
  (.cons (.expr (.meth0 .clear (.var 10)))
  Co)
noncomputable def FX:CB:=
  (.cons (.iff (.or (.not (.bfn .isinstance (.cons (.var 10) (.cons (.ty .list) .nil)))) (.or (.cmp .NotEq (.var 10) (.var 6)) (.cmp .NotEq (.var 7) (.lst (.cons (.var 1) (.cons (.var 5) .nil))))))
  (.cons (.ret (.con (.bool false)))
  .nil)
  .nil)
  Cq)
noncomputable def FY:CB:=
  (.cons (.asg (.name 10) (.call "stands" (.cons (.idx (.var 7) (.con (.int 0))) (.cons (.idx (.var 7) (.con (.int 1))) .nil))))
  FX)
noncomputable def yz:CB:=
  (.cons (.ret (.cmp .Eq (.var 7) (.lst (.cons (.var 1) (.cons (.var 5) .nil)))))
  .nil)
noncomputable def yA:CB:=
  (.cons (.forr (.name 9) (.range1 (.con (.int 2)))
  (.cons (.iff (.cmp .NotEq (.call "_law_refused" (.cons (.idx (.var 7) (.con (.int 0))) (.cons (.idx (.var 7) (.con (.int 1))) (.cons (.var 9) .nil)))) (.var 8))
  (.cons (.ret (.con (.bool false)))
  .nil)
  .nil)
  .nil))
  yz)
noncomputable def FZ:CB:=
  (.cons (.iff (.cmp .Eq (.var 6) (.lst .nil))
  (.cons (.asg (.name 8) (.call "_law_torn" (.cons (.var 2) (.cons (.var 5) .nil))))
  yA)
  .nil)
  FY)
noncomputable def F0:CB:=
  (.cons (.asg (.name 7) (.lst (.cons (.bfn .list (.cons (.var 1) .nil)) (.cons (.bfn .list (.cons (.var 5) .nil)) .nil))))
  FZ)
noncomputable def F3:CB:=
  (.cons (.asg (.name 6) (.call "_law_stands" (.cons (.var 2) (.cons (.var 5) .nil))))
  F0)
noncomputable def F4:CB:=
  (.cons (.asg (.name 5) (.call "_law_turned" (.cons (.var 5) (.cons (.bin .FloorDiv (.var 4) (.con (.int 7))) .nil))))
  F3)
noncomputable def F5:CB:=
  (.cons (.asg (.name 5) (.call "_law_tellings" (.cons (.var 2) (.cons (.call "_law_cell_at" (.cons (.var 0) (.cons (.con (.int 3)) .nil))) (.cons (.bin .Mod (.var 4) (.con (.int 7))) .nil)))))
  F4)
noncomputable def F6:CB:=
  (.cons (.asg (.name 4) (.call "_law_cell_at" (.cons (.var 0) (.cons (.con (.int 2)) .nil))))
  F5)
noncomputable def LQ:CB:=
  (.cons (.asg (.tup (.cons (.name 1) (.cons (.name 2) (.cons (.name 3) .nil)))) (.call "_law_built" (.cons (.var 0) (.cons (.con (.int 4)) .nil))))
  F6)
end K61
namespace K61
open PySem PySem.Spec PyProof.Rows L2 R Cp Lt Kc K21 K22 Lm K32 K34 K75 K62
section
variable {G:Gam}{K:ah}{T:Tb}{CT CK:Addr}
structure G61(G:Gam)(K:ah)(T:Tb)(CT:Addr):Prop where
 gc:G.fn "_law_cell_at" 2=some (vq K,[])
 gb:G.fn "_law_built" 2=some (Bt.zf K,[])
 gt:G.fn "_law_tellings" 3=some (spTl K,[])
 gu:G.fn "_law_turned" 2=some (spTu K,[])
 gl:G.fn "_law_stands" 2=some (qI K,[])
 go:G.fn "_law_torn" 2=some (spTo K,[])
 gs:G.fn "stands" 2=some (EL K T CT,[])
 gr:G.fn "_law_refused" 3=some (spRf T,[])
theorem wD{op:PySem.CmpOp}{x y t g l2:Addr}{Q:VK}(tn:Tn H t nf n cs rows)(d:Tls H l zs ts)(h:H g=some (.lst cs))(i:H l2=some (.lst zs))(e:H x=some (.lst [V.ref g,V.ref l2]))(p:H y=some (.lst [V.ref t,V.ref l]))(q:Q (.bl (op== .Eq)) H)(o:op=.Eq\/op=.NotEq):iF K op (.ref x) (.ref y) H Q:=by
 obtain⟨c,r,v⟩:=tI (K:=K) (H:=H) cs tn.tab.2.2.1;have s:=zr (K:=K) d.pr;have u:=zY ts;have f:∀{x a b:Addr},H x=some (.lst [V.ref a,V.ref b])->H a=some (.lst cs)->H b=some (.lst zs)->Rep K H (.lst [.lst c,.lst (ts.map fun q=>L2.D.tup [.int q.1,.int q.2])]) (.ref x):=fun{x a b} e j k=>⟨x,_,rfl,SqL.of e,_,_,rfl,⟨a,_,rfl,SqL.of j,r⟩,_,_,rfl,⟨b,_,rfl,SqL.of k,s⟩,rfl⟩;have m:hgt (.lst [.lst c,.lst (ts.map fun q=>L2.D.tup [.int q.1,.int q.2])])<=30:=by show max (fX c+1) (max (fX _+1) 0)+1<=30;lia
 rcases o with rfl|rfl<;>refine⟨_,_,f e h i,f p tn.et d.hl,m,?_⟩<;>rw[nN]<;>exact q
noncomputable def twD(ts:List (Nat×Int))(i j:Nat):L2.D:=.tup [.tup [.int (ts.getD i (0,0)).1,.int (ts.getD i (0,0)).2],.tup [.int (ts.getD j (0,0)).1,.int (ts.getD j (0,0)).2]]
theorem IY{p:Addr}{x:V}(h:H p=some (.tup [x,y]))(t:Tw H ts i j x y):Rep K H (twD ts i j) (.ref p):=by obtain⟨⟨a,rfl,c⟩,b,rfl,d⟩:=t;exact⟨p,_,rfl,SqT.of h,_,_,rfl,⟨a,_,rfl,SqT.of c,_,_,rfl,rfl,_,_,rfl,rfl,rfl⟩,_,_,rfl,⟨b,_,rfl,SqT.of d,_,_,rfl,rfl,_,_,rfl,rfl,rfl⟩,rfl⟩
theorem Tw.gr{x:V}(t:Tw H ts i j x y)(g:Gr T H H')(tb:Tab T H):Tw H' ts i j x y:=⟨let⟨a,e,h⟩:=t.1;⟨a,e,g.ur tb h⟩,let⟨a,e,h⟩:=t.2;⟨a,e,g.ur tb h⟩⟩
def Jq(K:ah)(T:Tb):Sp:=fun vs H Q _=>∃(a:Addr)(ns:List Int),vs=[.ref a]/\SqL K H a (ns.map V.int)/\ns.length<=63/\Tab T H/\∀H',Q (.bl true) H'
theorem wp_law(g:G61 G K T CT):Sat G K (Jq K T) LQ Ky:=by
 rintro vs c3 g1 g0 ⟨a,S,rfl,ha,c8,tb,qq⟩;unfold LQ;change wpB G K _ _ _ [some (.ref a),none,none,none,none,none,none,none,none,none,none] c3;walk_at "wp";refine⟨_,_,g.gb,a,S,4,rfl,ha,c8,by decide,fun H1 p t nl br j ys bs E vf f F C X ep B n1 g4 d6 ik a0 g2 bx=>?_⟩;refine⟨p,_,rfl,SqT.of ep,rfl,_,_,rfl,_,_,rfl,_,_,rfl,rfl,?_⟩;have bk:=B.bk bx;have tn:=B.tn;have ne:=B.ne;have tbl:=bk.tb;have ol:=B.n60;have W:Paired (NdV K H1) (_root_.Q.cj .non (Bt.nds f F C) ys) (ndl (Bt.rws j.length vf f F C) C.length):=by unfold ndl;rw[bk.sorted];exact GN d6 ik
 have fits:=bk.fits (show 0<F.length by lia);generalize Bt.rws j.length vf f F C=rows at fits tn tbl W;generalize _root_.Q.cj .non (Bt.nds f F C) ys=ws at a0 W;generalize C.length=n at *;have mem:=M9.vk (M8.ni tbl);have e0:(ndl rows n).length<=61:=by have :=M9.Fi rows n;show(M8.qh (M8.nds rows n)).length<=61;rw[mem.length_eq];lia
 have e1:ndl rows n≠[]:=fun z=>by have h:=mem.mem_iff.mpr ((M8.gX tbl).mpr fits);change _∈ndl rows n at h;rw[z]at h;cases h
 unfold F6;walk_at "wp";refine⟨_,_,g.gc,a,S,2,rfl,X.seq ha,?_⟩;generalize S.getD 2 0=bits;unfold F5;walk_at "wp";refine⟨_,_,g.gt,_,_,g.gc,a,S,3,rfl,X.seq ha,by decide,?_⟩;have i0:0<=bits%7:=cC _ (by decide);have i1:bits%7<7:=bV _ (by decide);obtain⟨c1,hm⟩:=b8 i0;rw[hm]at i1⊢;refine⟨nl,_,c1,n,ws,_,rfl,SqL.of a0,W,e1,e0,(fun f2 hv=>((M8.gX tbl).mp (mem.mem_iff.mp hv)).1),ol,by lia,fun H2 l0 f9 f0 f2 s2 g5 d0 f3 hv hr=>?_⟩;unfold F4;walk_at "wp";refine⟨_,_,g.gu,⟨by decide,by decide⟩,?_⟩;refine⟨l0,_,n,f9,f0,rfl,d0,f3,ol,fun H3 l k i s3 _ d3 vt=>?_⟩;have H:=s2.trans s3;have g3:=Gr.of (T:=T) H;have g7:=(Gr.of (T:=T) X).tab tb;have d:Tt H3 T t l E n j k rows i:=⟨tn.same H,ne,(Gr.of (T:=T) (X.trans H)).tab tb,d3,vt⟩;have nt:=d.nt (K:=K) (SqL.of (H _ _ a0)) (Paired.jM W fun _ _ h=>h.same H);unfold F3;walk_at "wp";refine⟨_,_,g.gl,nt.thr fun H4 R x s4 _ h4 pd=>?_⟩;have d:=d.gr (Gr.of s4);have nt:=nt.same s4;have pd:Paired (NdV K H4) x (stn rows n i):=pd;unfold F0;walk_at "wp";refine⟨t,j,rfl,.inl (SqL.of d.tn.et),fun q b9=>⟨l,k,rfl,.inl (SqL.of (av b9 _ _ d.tl.hl)),fun m b7=>⟨short (by simp),fun u a4=>?_⟩⟩⟩;have s5:=av (o:=.lst j) b9;have f5:upd H4 q (.lst j) q=some (.lst j):=au;generalize upd H4 q (.lst j)=H5 at s5 f5 b7 a4⊢;have s6:=av (o:=.lst k) b7;have f6:upd H5 m (.lst k) m=some (.lst k):=au;generalize upd H5 m (.lst k)=H6 at s6 f6 a4⊢;have Z:=av (o:=.lst [V.ref q,V.ref m]) a4;have f7:upd H6 u (.lst [V.ref q,V.ref m]) u=some (.lst [V.ref q,V.ref m]):=au;generalize upd H6 u (.lst [V.ref q,V.ref m])=H7 at Z f7⊢;have Y:=s5.trans (s6.trans Z);have J:=d.gr (Gr.of Y);have e2:=nt.same Y;have e6:=Paired.jM pd fun _ _ h=>h.same Y;have h7:=Y _ _ h4;have eT:=(s6.trans Z) _ _ f5;have eL:=Z _ _ f6;have M:Tt H7 T q m E n j k rows i:=⟨{J.tn with et:=eT},ne,J.tb,⟨eL,J.tl.pr⟩,vt⟩;unfold FZ;walk_at "wp";refine⟨aZ _,fun U d2=>?_⟩;have w:=av (o:=.lst []) d2;have f8:upd H7 U (.lst []) U=some (.lst []):=au;generalize upd H7 U (.lst [])=H8 at w f8⊢;have L:=J.gr (Gr.of w);have N:=M.gr (Gr.of w);have e3:=e2.same w;have a6:=Paired.jM e6 fun _ _ h=>h.same w;have h8:=w _ _ h7;have D:=w _ _ f7;have r:=L.tb;obtain⟨r1,r2⟩:=mC a6;refine⟨.lst _,.lst [],⟨R,x,rfl,SqL.of h8,r1⟩,⟨U,[],rfl,SqL.of f8,rfl⟩,aP (iB (nG _)) (by decide),_,rfl,?_⟩;rw[Ac];by_cases c:stn rows n i=[]
 ·rw[decide_eq_true c,if_pos rfl];refine⟨_,_,g.go,nl,l,n,ws,k,ndl rows n,i,rfl,e3,eF tbl vt c,fun v pt a5 c0 g8 h0 s9 d4 fp tw=>?_⟩;have a8:=(Gr.of (T:=T) s9).tab r;unfold yA;walk_at "wp";refine fJ ?_;walk_at "wp";refine⟨2,rfl,by decide,by decide,?_⟩;refine eZ cR (fun a5 σ H'=>Gr T v H'/\∃a9,σ=[some (.ref a),some (.ref t),some (.ref nl),some (.ref br),some (.int bits),some (.ref l),some (.ref R),some (.ref u),some (.ref pt),a9,none]) ⟨Gr.refl _ _,_,rfl⟩ (fun _ _ _ _ _=>trivial) ?_ ?_;·rintro c1 z σ I b0 D2 hm ⟨a1,a9,rfl⟩ rfl e9 hD _;have s:=a1.trans (Gr.of e9);have b6:=(Gr.of s9).trans s;have b5:=SqL.of (K:=K) (b6.lst r D);walk_at "wp";refine⟨_,_,g.gr,.inl ⟨u,_,0,_,rfl,rfl,b5,rfl,.inl ⟨u,_,1,_,rfl,rfl,b5,rfl,q,m,_,E,n,j,k,rows,i,rfl,N.gr b6,c,fun b1 g6 i2 j2 x2 y2 O d1 c5 f1=>?_⟩⟩⟩;obtain⟨rfl,rfl⟩:=fp.one c5;have a2:=s.trans O;refine⟨twD i a5 c0,twD i a5 c0,IY d1 f1,IY (a2.ur a8 d4) (tw.gr a2 a8),by simp[twD,hgt,fX],_,rfl,?_⟩;rw[nN,if_neg (by decide)];exact hD _ _ ⟨a2,_,rfl⟩
  ·rintro σ I ⟨a1,a9,rfl⟩;have y:=(Gr.of s9).trans a1;unfold yz;walk_at "wp";refine⟨short (by simp),fun p hp=>?_⟩;have g:=y.trans (Gr.of (T:=T) (av (o:=.lst [V.ref t,V.ref l]) hp));have d:=L.gr g;have M:=N.gr g;exact wD d.tn d.tl M.tn.et M.tl.hl (g.lst r D) au (qq _) (.inl rfl)
 ·rw[decide_eq_false c,if_neg ao];unfold FY;walk_at "wp";refine⟨_,_,g.gs,.inl ⟨u,_,0,_,rfl,rfl,SqL.of D,rfl,.inl ⟨u,_,1,_,rfl,rfl,SqL.of D,rfl,q,m,E,n,j,k,rows,i,rfl,N,fun _ v A wf P d9 Q pf=>?_,fun z=>absurd z c⟩⟩⟩;have a8:=P.tab r;have c9:=P.lst r h8;have e7:Paired (NdV K v) x (stn rows n i):=Paired.jM a6 fun _ _ ⟨b,e,h⟩=>⟨b,e,P.tup r h⟩;unfold FX;walk_at "wp";refine isi (DX Q) .list ⟨_,rfl,?_⟩;rw[show tyName v (.ref A)="list" by show jC (v A)=_;rw[Q];rfl,if_neg (by decide)];refine⟨.lst _,.lst _,⟨A,wf,rfl,SqL.of Q,(mC pf).1⟩,⟨R,x,rfl,SqL.of c9,(mC e7).1⟩,aP (iB (nG _)) (by decide),_,rfl,?_⟩;rw[nN,if_neg (by decide)];refine⟨short (by simp),fun p hp=>?_⟩;have a7:=av (o:=.lst [V.ref t,V.ref l]) hp;have b4:upd v p (.lst [V.ref t,V.ref l]) p=some (.lst [V.ref t,V.ref l]):=au;generalize upd v p (.lst [V.ref t,V.ref l])=I at a7 b4⊢;have y:=P.trans (Gr.of (T:=T) a7);have b2:=L.gr y;have b3:=N.gr y;refine wD b2.tn b2.tl b3.tn.et b3.tl.hl (y.lst r D) b4 ⟨_,rfl,?_⟩ (.inr rfl);rw[if_neg (by decide)];unfold Cq;walk_at "wp";have a3:=a7 _ _ Q;refine⟨.inl ⟨rfl,_,SqL.of a3⟩,A,_,rfl,rfl,a3,?_⟩;have s:Gr T H8 (upd I A (.lst [])):=K02.Gr.new y d9 a3;generalize upd I A (.lst [])=b0 at s⊢;have c4:=L.gr s;have c6:=s.lst r h8;have c2:=s.tab r;have e4:Paired (NdV K b0) x (stn rows n i):=Paired.jM a6 fun _ _ ⟨b,e,h⟩=>⟨b,e,s.tup r h⟩;unfold Co;walk_at "wp";refine⟨_,_,g.gs,t,l,E,n,j,k,rows,i,rfl,c4,fun _ b1 d5 f4 O _ c7 e8=>?_,fun z=>absurd z c⟩;have e5:Paired (NdV K b1) x (stn rows n i):=Paired.jM e4 fun _ _ ⟨b,e,h⟩=>⟨b,e,O.tup c2 h⟩;refine⟨.lst _,.lst _,⟨d5,f4,rfl,SqL.of c7,(mC e8).1⟩,⟨R,x,rfl,SqL.of (O.lst c2 c6),(mC e5).1⟩,aP (iB (nG _)) (by decide),?_⟩;rw[nN];exact qq _
end
end K61
set_option maxHeartbeats 0
namespace K61
open PySem PySem.Spec PySem.Calls PyProof.Rows L2 R Cp Lt Lm
theorem FJ(h:us.length=4):∃a b c d,us=[a,b,c,d]:=by
 cases us with
 |nil=>exact nomatch h
 |cons a r=>obtain⟨b,c,d,e⟩:=Kc.m5 (i4 h);exact⟨a,b,c,d,by rw[e]⟩
theorem fQ{f g i j:Type}{P:f->g->i->j->Prop}{q:Prop}(h:∃a b c d,P a b c d)(k:∀a b c d,P a b c d->q):q:=let⟨a,b,c,d,e⟩:=h;k a b c d e
theorem FP(h:us.length=5):∃a b c d e,us=[a,b,c,d,e]:=by
 cases us with
 |nil=>exact nomatch h
 |cons a r=>obtain⟨b,c,d,e,f⟩:=FJ (i4 h);exact⟨a,b,c,d,e,by rw[f]⟩
noncomputable def KS(st:Stmt):Pos:=match aX st with
 |_::.Assign _ (.Call _ _ [⟨_,.Lambda _ _ _ p,_⟩] _) _::_=>p
 |_=>⟨0,0,0,0⟩
noncomputable def tb(p:Addr):Tb:=⟨p,KS (top 18),"table_list.<locals>.<lambda>"⟩
theorem tl_ok:(pD jL qO (aO (top 18))&&chkK (aO (top 18)) jL lq 1 (.var 0) "copy" (KS (top 18)) ll (aX (top 18)))=true:=by decide+kernel
theorem tl_q:("table_list":Str)++".<locals>."++"<lambda>"="table_list.<locals>.<lambda>":=by decide+kernel
noncomputable def vals(C CE CT kd:Addr):List (Str×V):=[("LETTERS",.str LETTERS),("LONGEST_NAME",.int 8),("MOST_PLACES",.int 60),("MOST_COPIES",.int 40),("NoTable",.ref C),("KinError",.ref CE),("Torn",.ref CT),("KINDS",.ref kd)]
theorem uP{i j:Int}{t u:Tok}(l:K.lookup a=some ⟨.type "tuple",od,.seq #[.int i t,.int j u] n,sl⟩)(H:Hp):SqT K H a [.int i,.int j]:=
 .inr ⟨_,_,_,l,rfl,rfl,by show 2<=sizeLine;decide,.cons ⟨t,rfl⟩ (.cons ⟨u,rfl⟩ .nil)⟩
theorem KY{a b c d:Addr}{g h i j:Nat}{k:Array (Option Value)}{m o p t3 q u1 r s:Tok}(l:K.lookup kd=some ⟨.type "tuple",od,.seq #[.ref a,.ref b,.ref c,.ref d] n,sl⟩)
  (e:K.lookup a=some ⟨.type "tuple",o0,.seq #[.int 0 m,.int 0 q] g,s0⟩)(l1:K.lookup b=some ⟨.type "tuple",o1,.seq #[.int 0 o,.int 1 u1] h,k⟩)(l2:K.lookup c=some ⟨.type "tuple",o2,.seq #[.int 1 p,.int 0 r] i,s2⟩)(f:K.lookup d=some ⟨.type "tuple",o3,.seq #[.int 1 t3,.int 1 s] j,s3⟩):Kc.Kinds K kd:=
 ⟨a,b,c,d,fun H=>⟨.inr ⟨_,_,_,l,rfl,rfl,by show 4<=sizeLine;decide,.cons rfl (.cons rfl (.cons rfl (.cons rfl .nil)))⟩,uP e H,uP l1 H,uP l2 H,uP f H⟩⟩
theorem wx{cd:ClassData}(a:eN K (.ref C) "__getattribute__"=some (some (.builtin "BaseException.__getattribute__")))(b:eN K (.ref C) "__getattr__"=some none)(c:eN K (.ref C) "__class__"=some (some (.builtin "object.__class__")))
  (d:tm K (.builtin "object.__class__") "__get__"=some (some (.builtin "getset_descriptor.__get__")))(e:PySem.W.takesIn K (.builtin "object.__class__")=some true)(f:AF K C (.type "object")=some true)(g:AF K C (.type "BaseException")=some true)(h:PySem.W.clsIn K C=some cd):lK K C=true:=by
 unfold lK;rw[a,b,c,d,e,f,g,h];simp only[beq_self_eq_true,Bool.and_self,fW]
theorem B3{f:Str}{cd:ClassData}(a:lK K C=true)(b:eN K (.ref C) f=some none)(c:PySem.W.clsIn K C=some cd)(d:cd.hasDict=true):nJ K C f=true:=by unfold nJ;rw[a,b,c];simp only[beq_self_eq_true,Bool.and_self,d]
def Aw(K:ah)(x:Str)(st:Stmt)(c p:Addr):Prop:=∃(f:Addr)(oc:Value)(od an:Option Addr)(osl:Array (Option Value))(kV doc pm ct:Value),dD K bF x=some (some (.ref f))/\
 K.lookup f=some ⟨oc,od,.func (aD x x (bh st) (aX st) (aO st) .none kV doc pm an (.ref c) ct),osl⟩/\eO K (.ref c) x=true/\cL K (.ref f)=true/\Md K c p=true
theorem yt{st:Stmt}{p:Addr}{an:Option Addr}{kV:Value}(a:dD K bF x=some (some (.ref f)))
  (l:K.lookup f=some ⟨oc,od,.func (aD x x (bh st) (aX st) (aO st) .none kV doc pm an (.ref c) ct),osl⟩)(k:eO K (.ref c) x=true)(q:cL K (.ref f)=true)(h:Md K c p=true):∃c,Aw K x st c p:=
 ⟨c,f,oc,od,an,osl,kV,doc,pm,ct,a,l,k,q,h⟩
theorem add_fnK{vals:List (Str×V)}{e:List ((Str×Nat)×(Sp×List V))}{st:Stmt}{sp:Sp}{o:CS}{r:R.CE}{q:CB}{T:Tb}{j:List ((Str×Nat)×(Addr×Sp×List V))}{b:List (Addr×List (Key×V))}
  (g:GOk P w K mg base (CXx P w) k (gam vals e j b))(X:K.In h)(u:K.In base)(t:h.Ns bF mg)(d:Aw K x st c T.P)(m:(pD N ps (aO st)&&chkK (aO st) N o i r lx T.pos q (aX st))=true)(hq:x++".<locals>."++"<lambda>"=T.q)(z:BM mg base)
  (B:∀(p:Pos)(y:Expr)(scope:Scope)(qual:Str)(pm ctv v:Value)(c':Addr),qB (PySem.W.kla_fn "<lambda>" qual (rq lx p) y scope [] pm (.ref c') ctv) ⟨[v],[]⟩=pure [(lx,v)])
  (A:∀(kV doc pm:Value)(an:Option Addr)(cdv ct:Value)(us:List Value),us.length=ps.length->qB (aD x x (bh st) (aX st) (aO st) .none kV doc pm an cdv ct) ⟨us,[]⟩=pure (ps.zip us))(len:∀vs H Q E,sp vs H Q E->vs.length=ps.length)
  (C:∀vs H Q E,sp vs H Q E->xx (R.wpS (gam vals e j b) K (fun _=>E) o) (xx (yZ (vg K T (wpE (gam vals e j b) K (fun _=>E) r)) (nH i)) (wpB (gam vals e j b) K (fun _=>E) q)) {nx:=fun _ H'=>Q .non H',rt:=Q} (L2.start N vs) H):
  GOk P w K mg base (CXx P w) (k+1) (gam vals (((x,ps.length),(sp,[]))::e) j b):=by
 rw[aE]at m;obtain⟨f,I,J,an,L,kV,doc,pm,ct,a,l,D,s,G⟩:=d;have F:=D9 l D s;exact g.add (n:=ps.length) (Ll F m.1 m.2 rfl (Gi u G) hq z B g len C) (dz X t a) s (F.binds A) .nil
theorem D5{kV:Value}{an:Option Addr}:Binds K (aD "__init__" "Torn.__init__" (bh (jE 3 0)) (aX (jE 3 0)) (aO (jE 3 0)) .none kV doc pm an cdv ct) K61.nh []:=fun s b X a=>by rw[kB]at a⊢;obtain⟨_,_,_,rfl⟩:=Kc.m5 a;exact .of_eq rfl
theorem init_ok:(pD K61.kg K61.nh (aO (jE 3 0))&&qw (aO (jE 3 0)) K61.kg K61.ku (aX (jE 3 0)))=true:=by decide+kernel
theorem all_mk{p:Addr}(X:K.In h)(d:h.Ns bF mg)(i1:mg "law"=some (.ref fa)){q r t3 t:Tok}{CE CT:Addr}{i3 S i6 cdI O:Value}
  (v1:dD K bF "LETTERS"=some (some (.str LETTERS q)))(v2:dD K bF "LONGEST_NAME"=some (some (.int 8 r)))(v3:dD K bF "MOST_PLACES"=some (some (.int 60 t3)))(v4:dD K bF "MOST_COPIES"=some (some (.int 40 t)))(v5:dD K bF "NoTable"=some (some (.ref C)))(v6:dD K bF "KinError"=some (some (.ref CE)))(y:dD K bF "Torn"=some (some (.ref CT)))(v8:dD K bF "KINDS"=some (some (.ref kd)))
  (xm:PySem.W.exmOne K (.ref CT) (.ref CT)=some true)(xo:lK K CT=true)(k1:cP K (.ref CT) (.ref CE)=some true)(k2:cP K (.ref CT) (.type "ValueError")=some true)(U:nJ K CT "one"=true)(V:nJ K CT "other"=true)(i4:Kc.Kinds K kd)(mx:sR K CT fI bmV "ValueError.__new__"=true)(kI:cL K (.ref CT)=true)(o:K.lookup fI=some ⟨.type "function",odI,.func (aD "__init__" "Torn.__init__" (bh (jE 3 0)) (aX (jE 3 0)) (aO (jE 3 0)) .none i3 S i6 anI cdI O),slI⟩)(J:eO K cdI "Torn.__init__"=true)(D:tm K (.ref CE) "__getattribute__"=some (some (.builtin "type.__getattribute__")))(F:PySem.W.readsIn K CE (.type "type")=true)(G:PySem.W.findCls K (.ref CE) (.type "type") "__init__"=some (.val (.builtin "ValueError.__init__")))(i7:StX K CT "one")(i8:StX K CT "other")(bl:∀x∈jr,dD K bF x=some none)
  (d1:HasFn K "is_whole" (top 11))(d2:HasFn K "is_name" (top 12))(d3:HasFn K "is_reading" (top 13))(d4:HasFn K "are_readings" (top 14))(d5:HasFn K "is_copy" (top 15))(d6:HasFn K "is_table" (top 16))(d7:HasFn K "need_table" (top 17))(d8:HasFn K "place_count" (top 19))(d9:HasFn K "first_of_kinds" (top 22))(e0:HasFn K "clash" (top 23))(e1:HasFn K "refuse_clash" (top 24))(e2:HasFn K "group_at" (top 26))(e3:HasFn K "turned" (top 27))(e4:HasFn K "grown" (top 28))(e5:HasFn K "tree" (top 29))(e6:HasFn K "is_telling" (top 31))(e7:HasFn K "are_tellings" (top 32))(e8:HasFn K "need_tellings" (top 33))(e9:HasFn K "that_read" (top 34))(f0:HasFn K "refuse_torn" (top 35))(f3:HasFn K "told_nodes" (top 36))(f4:HasFn K "stands" (top 37))(f5:HasFn K "first_read" (top 39))(f6:HasFn K "_law_cell_at" (top 41))(f7:HasFn K "_law_mixed" (top 43))(f8:HasFn K "_law_owners" (top 44))(f9:HasFn K "_law_grown" (top 45))(h0:HasFn K "_law_nodes" (top 46))(h1:HasFn K "_law_name" (top 47))(h2:HasFn K "_law_copies" (top 48))(h3:HasFn K "_law_built" (top 49))(h4:HasFn K "_law_tellings" (top 50))(h5:HasFn K "_law_bears" (top 51))(h6:HasFn K "_law_stands" (top 52))(h7:HasFn K "_law_turned" (top 53))(h8:HasFn K "_law_torn" (top 54))(h9:HasFn K "_law_refused" (top 55))(g:∃c,Aw K "table_list" (top 18) c p)(i0:HasFn K "law" (top 56)):
  ∃fd:fh,(∀(s:Shared)(v:Value),BindsTo s fd ⟨[v],[]⟩ [("_law_script",v)])/\∀base:Heap,K.In base->base.Ns bF mg->BM mg base->ju P w K mg base CX0 41 fa fd ["_law_script"] (fun vs H Q _=>Jq K (tb p) vs H Q E0):=by
 obtain⟨i9,j0,od,an,j1,kV,R,pm,L,M,a,i5,c,i2⟩:=id i0;have e:=i1.symm.trans (dz X d a);cases e;obtain⟨cc,g⟩:=g;refine⟨aD "law" "law" (bh (top 56)) (aX (top 56)) (aO (top 56)) .none kV R pm an L M,fun s v=>.of_eq rfl,fun base A _ I=>?_⟩;have hv:∀x v,(x,v)∈vals C CE CT kd->∃u,mg x=some u/\RelV v u:=by
  intro x v l;simp only[vals,aH,cV,or_false,Prod.mk.injEq]at l;rcases l with⟨rfl,rfl⟩ |⟨rfl,rfl⟩ |⟨rfl,rfl⟩ |⟨rfl,rfl⟩ |⟨rfl,rfl⟩ |⟨rfl,rfl⟩ |⟨rfl,rfl⟩ |⟨rfl,rfl⟩;·exact⟨_,dz X d v1,q,rfl⟩
  ·exact⟨_,dz X d v2,r,rfl⟩
  ·exact⟨_,dz X d v3,t3,rfl⟩
  ·exact⟨_,dz X d v4,t,rfl⟩
  ·exact⟨_,dz X d v5,rfl⟩
  ·exact⟨_,dz X d v6,rfl⟩
  ·exact⟨_,dz X d y,rfl⟩
  ·exact⟨_,dz X d v8,rfl⟩
 have W:GOk P w K mg base (CXx P w) 0 (gam (vals C CE CT kd) []):=GOk.start hv fun x hx=>PySem.W.mg_none_of X d (bl x hx);have Y:=cM (N:=Cp.vS) (ps:=Cp.DG) W (d1.def X d) (by decide+kernel) (fun _ _ _ _ _ _ f b=>by obtain⟨_,rfl⟩:=Kc.iT b;rfl) (sp:=spB isWhole) (fun vs H Q E h=>Kc.dv h fun _ h=>Kc.fA h rfl) AS;have g2:=cM (N:=Cp.yi) (ps:=Cp.Hf) Y (d2.def X d) (by decide+kernel) (fun _ _ _ _ _ _ f b=>by obtain⟨_,rfl⟩:=Kc.iT b;rfl) (sp:=spN) (fun vs H Q E h=>Kc.dv h fun _ h=>Kc.fA h rfl) (Dc (by kernel_rfl) (by kernel_rfl));have g3:=cM (N:=Cp.qZ) (ps:=Cp.zH) g2 (d3.def X d) (by decide+kernel) (fun _ _ _ _ _ _ f b=>by obtain⟨_,rfl⟩:=Kc.iT b;rfl) (sp:=spB cE) (fun vs H Q E h=>Kc.dv h fun _ h=>Kc.fA h rfl) (xu (by kernel_rfl));have g4:=cM (N:=Cp.nv) (ps:=Cp.vF) g3 (d4.def X d) (by decide+kernel) (fun _ _ _ _ _ _ f b=>by obtain⟨_,rfl⟩:=Kc.iT b;rfl) (sp:=spR) (fun vs H Q E h=>Kc.dv h fun _ h=>Kc.fA h rfl) (uo (by kernel_rfl) (by kernel_rfl));have g5:=cM (N:=Cp.yj) (ps:=Cp.Hg) g4 (d5.def X d) (by decide+kernel) (fun _ _ _ _ _ _ f b=>by obtain⟨_,rfl⟩:=Kc.iT b;rfl) (sp:=spC) (fun vs H Q E h=>Kc.dv h fun _ h=>Kc.fA h rfl) (Dd (by kernel_rfl) (by kernel_rfl));have g6:=cM (N:=Cp.vT) (ps:=Cp.DH) g5 (d6.def X d) (by decide+kernel) (fun _ _ _ _ _ _ f b=>by obtain⟨_,rfl⟩:=Kc.iT b;rfl) (sp:=Cp.spT) (fun vs H Q E h=>Kc.dv h fun _ h=>Kc.fA h rfl) (AU (by kernel_rfl) (by kernel_rfl));have g7:=cM (N:=Cp.qT) (ps:=Cp.zB) g6 (d7.def X d) (by decide+kernel) (fun _ _ _ _ _ _ f b=>by obtain⟨_,rfl⟩:=Kc.iT b;rfl) (sp:=y9 C) (fun vs H Q E h=>Kc.dv h fun _ h=>Kc.fA h rfl) (xr (by kernel_rfl));have g8:=add_fnK (T:=tb p) (N:=jL) (ps:=qO) (lx:="copy") g7 X A d g tl_ok tl_q I (fun _ _ _ _ _ _ _ _=>rfl) (fun _ _ _ _ _ _ f b=>by obtain⟨_,rfl⟩:=Kc.iT b;rfl) (sp:=za C (tb p)) (fun vs H Q E h=>Kc.dv h fun _ h=>Kc.fA h rfl) (xq (C:=C) (by kernel_rfl));have g9:=cM (N:=Cp.pF) (ps:=Cp.xD) g8 (d8.def X d) (by decide+kernel) (fun _ _ _ _ _ _ f b=>by obtain⟨_,rfl⟩:=Kc.iT b;rfl) (sp:=uM C) (fun vs H Q E h=>Kc.dv h fun _ h=>Kc.fA h rfl) (vb (C:=C) (by kernel_rfl));have Z:=cM (N:=Kc.lG) (ps:=Kc.sI) g9 (d9.def X d) (by decide+kernel) (fun _ _ _ _ _ _ f b=>by obtain⟨_,_,_,rfl⟩:=Kc.m5 b;rfl) (sp:=Kc.zd) (fun vs H Q E h=>fQ h fun _ _ _ _ h=>Kc.dv h fun _ h=>Kc.fA h rfl) (Kc.IQ (by kernel_rfl) i4);have a0:=cM (N:=K22.Fo) (ps:=K22.p_clash) Z (e0.def X d) (by decide+kernel) (fun _ _ _ _ _ _ f b=>by obtain⟨_,rfl⟩:=Kc.iT b;rfl) (sp:=K22.ze C (tb p)) (fun vs H Q E h=>Kc.dv h fun _ h=>Kc.fA h rfl) (K22.IS (C:=C) (T:=tb p) (by kernel_rfl) (by kernel_rfl) (by kernel_rfl));have a1:=cM (N:=K83.nj) (ps:=K83.vC) a0 (e1.def X d) (by decide+kernel) (fun _ _ _ _ _ _ f b=>by obtain⟨_,rfl⟩:=Kc.iT b;rfl) (sp:=K83.Jp (tb p)) (fun vs H Q E h=>Kc.dv h fun _ h=>Kc.fA h rfl) (K83.wp_ref (C:=C) (T:=tb p) (by kernel_rfl));have a2:=cM (N:=K32.vU) (ps:=K32.DI) a1 (e2.def X d) (by decide+kernel) (fun _ _ _ _ _ _ f b=>by obtain⟨_,_,rfl⟩:=Kc.eF b;rfl) (sp:=K32.zc) (fun vs H Q E h=>fQ h fun _ _ _ _ h=>Kc.dv h fun _ h=>Kc.fA h rfl) K32.IP;have a3:=cM (N:=K32.BD) (ps:=K32.Kk) a2 (e3.def X d) (by decide+kernel) (fun _ _ _ _ _ _ f b=>by obtain⟨_,_,rfl⟩:=Kc.eF b;rfl) (sp:=K32.m8 K) (fun vs H Q E h=>fQ h fun _ _ _ _ h=>Kc.fA h rfl) K32.Gy;have a4:=cM (N:=K32.Fn) (ps:=K32.p_grown) a3 (e4.def X d) (by decide+kernel) (fun _ _ _ _ _ _ f b=>by obtain⟨_,rfl⟩:=Kc.iT b;rfl) (sp:=K32.vn) (fun vs H Q E h=>fQ h fun _ _ _ _ h=>Kc.fA h rfl) (K32.GA (by kernel_rfl) (by kernel_rfl));have a5:=cM (N:=K32.Kx) (ps:=K32.p_tree) a4 (e5.def X d) (by decide+kernel) (fun _ _ _ _ _ _ f b=>by obtain⟨_,rfl⟩:=Kc.iT b;rfl) (sp:=K83.sC (tb p)) (fun vs H Q E h=>Kc.dv h fun _ h=>Kc.fA h rfl) (K83.wp_tree (C:=C) (T:=tb p) (by kernel_rfl) (by kernel_rfl) (by kernel_rfl));have a6:=cM (N:=K75.qY) (ps:=K75.zG) a5 (e6.def X d) (by decide+kernel) (fun _ _ _ _ _ _ f b=>by obtain⟨_,_,rfl⟩:=Kc.eF b;rfl) (sp:=K75.spTg) (fun vs H Q E h=>fQ h fun _ _ _ _ h=>Kc.fA h rfl) (K75.wp_tg (by kernel_rfl) (by kernel_rfl));have a7:=cM (N:=K75.nr) (ps:=K75.vE) a6 (e7.def X d) (by decide+kernel) (fun _ _ _ _ _ _ f b=>by obtain⟨_,_,rfl⟩:=Kc.eF b;rfl) (sp:=K75.spAt) (fun vs H Q E h=>fQ h fun _ _ _ _ h=>Kc.fA h rfl) (K75.wp_at (by kernel_rfl));have a8:=cM (N:=K75.mK) (ps:=K75.uv) a7 (e8.def X d) (by decide+kernel) (fun _ _ _ _ _ _ f b=>by obtain⟨_,_,rfl⟩:=Kc.eF b;rfl) (sp:=K75.spNt K) (fun vs H Q E h=>fQ h fun _ _ _ _ h=>fQ h fun _ _ _ _ h=>Kc.fA h rfl) (K75.wp_nt (C:=C) (by kernel_rfl) (by kernel_rfl));have k:=cM (N:=K75.tK) (ps:=K75.Bi) a8 (e9.def X d) (by decide+kernel) (fun _ _ _ _ _ _ f b=>by obtain⟨_,_,rfl⟩:=Kc.eF b;rfl) (sp:=K75.qI K) (fun vs H Q E h=>fQ h fun _ _ _ _ h=>Kc.dv h fun _ h=>Kc.dv h fun _ h=>Kc.dv h fun _ h=>Kc.fA h rfl) K75.wp_thr;have nt:K61.Cl2 K CE CT:=⟨⟨D,F,G⟩,i7,i8,fI,mx⟩;have hi:=fm.mp init_ok;have a9:=k.addI (n:=2) (x:="Torn") (C:=CT) ⟨mx,⟨_,o,rfl⟩,kI⟩ (B2 o J hi.1 hi.2 k (sp:=K61.zb CT) (fun vs H Q E h=>Kc.dv h fun _ h=>Kc.dv h fun _ h=>Kc.dv h fun _ h=>Kc.fA h rfl) (K61.IM (B:=CE) (C:=CT) (by kernel_rfl) nt)) (dz X d y) D5 .nil;have b0:=cM (N:=K61.pE) (ps:=K61.xC) a9 (f0.def X d) (by decide+kernel) (fun _ _ _ _ _ _ f b=>by obtain⟨_,_,rfl⟩:=Kc.eF b;rfl) (sp:=K61.spRt K (tb p) CT) (fun vs H Q E h=>fQ h fun _ _ _ _ h=>Kc.dv h fun _ h=>Kc.dv h fun _ h=>Kc.dv h fun _ h=>Kc.fA h rfl) (K61.wp_rt (T:=tb p) (by kernel_rfl) (by kernel_rfl));have b4:=cM (N:=K61.qS) (ps:=K61.zA) b0 (f3.def X d) (by decide+kernel) (fun _ _ _ _ _ _ f b=>by obtain⟨_,_,rfl⟩:=Kc.eF b;rfl) (sp:=K61.EK K (tb p) CT) (fun vs H Q E h=>fQ h fun _ _ _ _ h=>Kc.dv h fun _ h=>Kc.dv h fun _ h=>Kc.dv h fun _ h=>Kc.fA h rfl) (K61.wp_tn1 (T:=tb p) (by kernel_rfl) (by kernel_rfl));have b5:=cM (N:=K61.BE) (ps:=K61.Kl) b4 (f4.def X d) (by decide+kernel) (fun _ _ _ _ _ _ f b=>by obtain⟨_,_,rfl⟩:=Kc.eF b;rfl) (sp:=K61.EL K (tb p) CT) (fun vs H Q E h=>fQ h fun _ _ _ _ h=>fQ h fun _ _ _ _ h=>Kc.fA h rfl) (K61.wp_st1 (T:=tb p) (by kernel_rfl) (by kernel_rfl) (by kernel_rfl));have b6:=cM (N:=K61.rg) (ps:=K61.zI) b5 (f5.def X d) (by decide+kernel) (fun _ _ _ _ _ _ f b=>by obtain⟨_,_,rfl⟩:=Kc.eF b;rfl) (sp:=K61.Jr (tb p) CT) (fun vs H Q E h=>fQ h fun _ _ _ _ h=>fQ h fun _ _ _ _ h=>Kc.fA h rfl) (K61.wp_fr1 (T:=tb p) (by kernel_rfl) (by kernel_rfl) (by kernel_rfl));have b7:=cM (N:=Lt.pH) (ps:=Lt.xF) b6 (f6.def X d) (by decide+kernel) (fun _ _ _ _ _ _ f b=>by obtain⟨_,_,rfl⟩:=Kc.eF b;rfl) (sp:=Lt.vq K) (fun vs H Q E h=>Kc.dv h fun _ h=>Kc.dv h fun _ h=>Kc.dv h fun _ h=>Kc.fA h rfl) Lt.wp_cell;have b8:=cM (N:=Bt.tM) (ps:=Bt.Bl) b7 (f7.def X d) (by decide+kernel) (fun _ _ _ _ _ _ f b=>by obtain⟨_,_,rfl⟩:=Kc.eF b;rfl) (sp:=Bt.A4) (fun vs H Q E h=>Kc.dv h fun _ h=>Kc.dv h fun _ h=>Kc.fA h rfl) Bt.wp_mix;have b9:=cM (N:=Bt.qW) (ps:=Bt.zE) b8 (f8.def X d) (by decide+kernel) (fun _ _ _ _ _ _ f b=>by obtain⟨_,_,_,_,rfl⟩:=FJ b;rfl) (sp:=Bt.vm) (fun vs H Q E h=>fQ h fun _ _ _ _ h=>Kc.dv h fun _ h=>Kc.fA h rfl) Bt.Gz;have c0:=cM (N:=Bt.tN) (ps:=Bt.Bn) b9 (f9.def X d) (by decide+kernel) (fun _ _ _ _ _ _ f b=>by obtain⟨_,_,rfl⟩:=Kc.eF b;rfl) (sp:=Bt.vo K) (fun vs H Q E h=>Kc.dv h fun _ h=>Kc.dv h fun _ h=>Kc.dv h fun _ h=>Kc.fA h rfl) (Bt.GB (by kernel_rfl) (by kernel_rfl));have c1:=cM (N:=Bt.tL) (ps:=Bt.Bj) c0 (h0.def X d) (by decide+kernel) (fun _ _ _ _ _ _ f b=>by obtain⟨_,_,_,_,_,rfl⟩:=FP b;rfl) (sp:=Bt.y8) (fun vs H Q E h=>fQ h fun _ _ _ _ h=>Kc.dv h fun _ h=>Kc.dv h fun _ h=>Kc.dv h fun _ h=>Kc.fA h rfl) Bt.IL;have c2:=cM (N:=Bt.vR) (ps:=Bt.DF) c1 (h1.def X d) (by decide+kernel) (fun _ _ _ _ _ _ f b=>by obtain⟨_,_,rfl⟩:=Kc.eF b;rfl) (sp:=Bt.spNm) (fun vs H Q E h=>Kc.dv h fun _ h=>Kc.dv h fun _ h=>Kc.fA h rfl) Bt.wp_nm;have c3:=cM (N:=Bt.qX) (ps:=Bt.zF) c2 (h2.def X d) (by decide+kernel) (fun _ _ _ _ _ _ f b=>by obtain⟨_,_,_,_,_,rfl⟩:=FP b;rfl) (sp:=Bt.vp) (fun vs H Q E h=>fQ h fun _ _ _ _ h=>Kc.dv h fun _ h=>Kc.dv h fun _ h=>Kc.dv h fun _ h=>Kc.fA h rfl) (Bt.GC (by kernel_rfl));have c4:=cM (N:=Bt.tO) (ps:=Bt.Bo) c3 (h3.def X d) (by decide+kernel) (fun _ _ _ _ _ _ f b=>by obtain⟨_,_,rfl⟩:=Kc.eF b;rfl) (sp:=Bt.zf K) (fun vs H Q E h=>Kc.dv h fun _ h=>Kc.dv h fun _ h=>Kc.dv h fun _ h=>Kc.fA h rfl) (Bt.IT (by kernel_rfl) (by kernel_rfl) (by kernel_rfl) (by kernel_rfl) (by kernel_rfl) (by kernel_rfl));have c5:=cM (N:=K62.nq) (ps:=K62.vD) c4 (h4.def X d) (by decide+kernel) (fun _ _ _ _ _ _ f b=>by obtain⟨_,_,_,rfl⟩:=Kc.m5 b;rfl) (sp:=K62.spTl K) (fun vs H Q E h=>fQ h fun _ _ _ _ h=>Kc.dv h fun _ h=>Kc.dv h fun _ h=>Kc.fA h rfl) (K62.wp_tl (by kernel_rfl));have c6:=cM (N:=K61.tP) (ps:=K61.Bp) c5 (h5.def X d) (by decide+kernel) (fun _ _ _ _ _ _ f b=>by obtain⟨_,_,rfl⟩:=Kc.eF b;rfl) (sp:=K61.spBr K) (fun vs H Q E h=>fQ h fun _ _ _ _ h=>Kc.dv h fun _ h=>Kc.dv h fun _ h=>Kc.fA h rfl) K61.wp_br;have c7:=cM (N:=K61.qV) (ps:=K61.zD) c6 (h6.def X d) (by decide+kernel) (fun _ _ _ _ _ _ f b=>by obtain⟨_,_,rfl⟩:=Kc.eF b;rfl) (sp:=K75.qI K) (fun vs H Q E h=>fQ h fun _ _ _ _ h=>Kc.dv h fun _ h=>Kc.dv h fun _ h=>Kc.dv h fun _ h=>Kc.fA h rfl) (K61.wp_ls (by kernel_rfl));have c8:=cM (N:=K61.qU) (ps:=K61.zC) c7 (h7.def X d) (by decide+kernel) (fun _ _ _ _ _ _ f b=>by obtain⟨_,_,rfl⟩:=Kc.eF b;rfl) (sp:=K61.spTu K) (fun vs H Q E h=>fQ h fun _ _ _ _ h=>Kc.dv h fun _ h=>Kc.fA h rfl) K61.wp_tu;have c9:=cM (N:=K61.vQ) (ps:=K61.DE) c8 (h8.def X d) (by decide+kernel) (fun _ _ _ _ _ _ f b=>by obtain⟨_,_,rfl⟩:=Kc.eF b;rfl) (sp:=K61.spTo K) (fun vs H Q E h=>fQ h fun _ _ _ _ h=>Kc.dv h fun _ h=>Kc.dv h fun _ h=>Kc.dv h fun _ h=>Kc.fA h rfl) (K61.wp_to (by kernel_rfl));have z:∀j m,Xn (gam (vals C CE CT kd) j m) K CT CE:=fun j m=>⟨by kernel_rfl,by kernel_rfl,xm,xo,k1,k2,U,V⟩;have d0:=cM (N:=K61.pG) (ps:=K61.xE) c9 (h9.def X d) (by decide+kernel) (fun _ _ _ _ _ _ f b=>by obtain⟨_,_,_,rfl⟩:=Kc.m5 b;rfl) (sp:=K61.spRf (tb p)) (fun vs H Q E h=>fQ h fun _ _ _ _ h=>fQ h fun _ _ _ _ h=>Kc.dv h fun _ h=>Kc.fA h rfl) (K61.wp_rf (T:=tb p) (z _ _) (by kernel_rfl) (by kernel_rfl));have i:(pD K61.Ky K61.p_law (aO (top 56))&&qw (aO (top 56)) K61.Ky K61.LQ (aX (top 56)))=true:=by decide+kernel
 rw[aE]at i;exact ju.calm (FO (D9 i5 c i2) i.1 i.2 d0 (fun vs H Q E h=>Kc.dv h fun _ h=>Kc.dv h fun _ h=>Kc.fA h rfl) (wp_law (CT:=CT) (T:=tb p) ⟨(by kernel_rfl),(by kernel_rfl),(by kernel_rfl),(by kernel_rfl),(by kernel_rfl),(by kernel_rfl),(by kernel_rfl),(by kernel_rfl)⟩))
end K61
open PySem PySem.W PyProof.Rows
set_option maxRecDepth 100000 in
set_option maxHeartbeats 0 in
theorem PySem.Challenge.cw_copykin_k61_stands_holds : PySem.Challenge.rw_copykin_k61_stands.Holds := by
 w_on;o_law
 refine PySem.W.holds_open (q:=K61.vw) (loose:=K61.loo) (Xt:=K61.xt)
  (XP:=PySem.W.XL K61.vw []) (Yf:=C1 (kJ K61.BX K61.BY (fun _=>by kernel_rfl) [134])) (Ya:=C0 (kJ K61.BX K61.BY (fun _=>by kernel_rfl) [134]))
  (YP:=PySem.W.Hook.says (kJ K61.BX K61.BY (fun _=>by kernel_rfl) [134])) (N:=4958) (fun w=>K61.both (K61.leftA w) (K61.leftB w)) (PySem.W.Hook.of _) (PySem.W.Hook.keeps _)
  (fun s e=>PySem.W.xl_of s (fm.mp e).1) PySem.W.XL.keeps
  (by rfl) (by rfl) (by rfl)
  (fun s e=>PySem.W.recFacts_of (fm.mp e).2) rfl (by assumption) (by decide+kernel)
  ⟨rfl,rfl,rfl,rfl,rfl,by decide+kernel⟩ ?hw ?hc
 (case hw=>w_witness2)
 k_fill
 refine Lm.IU (l:=PySem.Challenge.rw_copykin_k61_stands) (n:=63) (k:=41) (x:="_law_script") (CX:=L2.CX0) (sp:=fun K=>fun vs H Q _=>K61.Jq K (K61.tb 134) vs H Q L2.E0) (tabs:=[134]) rfl (by decide) rfl ⟨rfl,by decide,by decide⟩ (fun w h Y=>Mc Y) ?T ?F (fun K H a ns hl ht hS=>⟨a,ns,rfl,hS,hl,.inl (ht 134 (bg.mpr rfl)),fun _=>rfl⟩) (fun _ _ _ _ z=>z)
 case T=>
  intro w s₀ mg mb h G Y p hp;obtain rfl:=bg.mp hp;have KX:=Mc Y;have T:=PySem.W.km_tabs_of Y 134 (bg.mpr rfl);have F:∃c,K61.Aw (L2.KOf KX) "table_list" (K61.top 18) c 134:=by
   dsimp only[L2.KOf];refine' K61.yt ?ta ?tl ?tk ?tq ?th;(case ta=>k_is);(case tl=>k_is);(case tk=>k_is);(case tq=>k_is);(case th=>first |k_is|kernel_rfl)
  obtain⟨c,_,_,_,_,_,_,_,_,_,_,_,_,_,q⟩:=F;exact⟨T,((Gi KX q).tab T).isCodeTable,by kernel_rfl⟩
 case F=>
  intro w mg fa h KX G hmg;refine' K61.all_mk (p:=134) (fI:=60) (cdI:=.ref 59) KX G hmg ?v1 ?v2 ?v3 ?v4 ?v5 ?v6 ?v7 ?v8 ?xm ?xo ?k1 ?k2 ?f1 ?f2 ?kd0 ?mx ?kI ?lI ?cI ?b1 ?b2 ?b3 ?st1 ?st2 ?bl ?h11 ?h12 ?h13 ?h14 ?h15 ?h16 ?h17 ?h19 ?h22 ?h23 ?h24 ?h26 ?h27 ?h28 ?h29 ?h31 ?h32 ?h33 ?h34 ?h35 ?h36 ?h37 ?h39 ?h41 ?h43 ?h44 ?h45 ?h46 ?h47 ?h48 ?h49 ?h50 ?h51 ?h52 ?h53 ?h54 ?h55 ?h18 ?h56
  (case v1=>k_is);(case v2=>k_is);(case v3=>k_is);(case v4=>k_is);(case v5=>k_is);(case v6=>k_is);(case v7=>k_is);(case v8=>k_is)
  (case xm=>kts_exm)
  (case xo=>refine' K61.wx ?xa ?xb ?xc ?xd ?xe ?xf ?xg ?xh;(case xa=>k_is);(case xb=>k_is);(case xc=>k_is);(case xd=>k_is);(case xe=>k_is);(case xf=>k_is);(case xg=>k_is);(case xh=>k_is))
  (case k1=>kit_is)
  (case k2=>kit_is)
  (case f1=>refine' K61.B3 (K61.wx ?xa ?xb ?xc ?xd ?xe ?xf ?xg ?xh) ?fb ?fc ?fd;(case xa=>k_is);(case xb=>k_is);(case xc=>k_is);(case xd=>k_is);(case xe=>k_is);(case xf=>k_is);(case xg=>k_is);(case xh=>k_is);(case fb=>k_is);(case fc=>k_is);(case fd=>rfl))
  (case f2=>refine' K61.B3 (K61.wx ?xa ?xb ?xc ?xd ?xe ?xf ?xg ?xh) ?fb ?fc ?fd;(case xa=>k_is);(case xb=>k_is);(case xc=>k_is);(case xd=>k_is);(case xe=>k_is);(case xf=>k_is);(case xg=>k_is);(case xh=>k_is);(case fb=>k_is);(case fc=>k_is);(case fd=>rfl))
  (case kd0=>refine' K61.KY ?l ?l0 ?l1 ?l2 ?l3;(case l=>k_is);(case l0=>k_is);(case l1=>k_is);(case l2=>k_is);(case l3=>k_is))
  (case mx=>first |k_exc|kernel_rfl)
  (case kI=>k_is)
  (case lI=>k_is)
  (case cI=>k_is)
  (case b1=>k_is)
  (case b2=>first |k_is|kernel_rfl)
  (case b3=>first |k_is|kernel_rfl)
  (case st1=>refine'⟨?s1,?s2,?s3,?s4⟩;(case s1=>k_is);(case s2=>first |k_is|kernel_rfl);(case s3=>first |k_is|kernel_rfl);(case s4=>first |k_is|kernel_rfl))
  (case st2=>refine'⟨?s1,?s2,?s3,?s4⟩;(case s1=>k_is);(case s2=>first |k_is|kernel_rfl);(case s3=>first |k_is|kernel_rfl);(case s4=>first |k_is|kernel_rfl))
  (case bl=>
   intro x hx;simp only[R.jr,aH,cV,or_false]at hx;rcases hx with rfl|rfl|rfl|rfl|rfl|rfl|rfl|rfl|rfl|rfl|rfl|rfl|rfl|rfl|rfl|rfl|rfl|rfl|rfl|rfl<;>k_is)
  (case h18=>refine' K61.yt ?ua ?ul ?uk ?uq ?uh;(case ua=>k_is);(case ul=>k_is);(case uk=>k_is);(case uq=>k_is);(case uh=>first |k_is|kernel_rfl))
  all_goals(refine' R.Le ?a ?l ?c ?k;(case a=>k_is);(case l=>k_is);(case c=>k_is);(case k=>k_is))
