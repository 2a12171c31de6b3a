import PyProof.Rows.All
import Wide.All
import OpenK.AllK
import Wide.FinOn
import Lean
import PyProof.EqAt
import PyProof.EqKinds
import PyProof.TupleCall
import PyProof.NeKinds
import PySem.Challenge.RW_copykin_k51_frames
open Array renaming length_toList → ax, getD_eq_getD_getElem? → bN, getElem?_eq_getElem → bV, size_push → b7, toList_append → b8, toList_extract → cG, perm_iff_toList_perm → cJ, getElem?_eq_some_iff → cK, getElem?_toList → cR, toList_push → dh, size_append → eF, toList_setIfInBounds → sA, getElem?_eq_none → we, toList_reverse → yH, mem_toList_iff → yI, getD → Bk, forIn_toList → Bl
open Array.Perm renaming refl → fX
open Bool renaming and_eq_true → aK, false_eq_true → bh, false_ne_true → bF, or_eq_true → dm, false_and → iF, and_false → iG, eq_false_iff → i6, eq_iff_iff → ki, and_eq_true_iff → yR
open False renaming elim → iy
open ForInStep renaming yield → eW
open Int renaming toNat_natCast → dk, emod_nonneg → dM, toNat_of_nonneg → fq, emod_lt_of_pos → iQ, fdiv_eq_ediv_of_nonneg → uM, eq_ofNat_of_zero_le → xp
open Lean.Name renaming str → bM, anonymous → uZ
open List renaming getElem?_eq_getElem → ag, length_map → ai, length_append → aj, size_toArray → aq, mem_cons_self → au, getD_eq_getElem?_getD → av, range → aA, mem_singleton → aB, mem_cons → aD, length_take → aF, mem_append → aG, mem_cons_of_mem → aI, mem_iff_getElem → aJ, mem_append_right → aN, getElem?_eq_some_iff → aR, length_cons → aS, getElem?_map → aW, lookup_cons → aY, take_append_drop → bf, map_append → bj, length_drop → bq, append_assoc → bt, map_cons → bw, pairwise_iff_getElem → bx, mem_map → bB, not_mem_nil → bE, getElem_mem → bL, length_eq_zero_iff → bQ, getElem_take → bS, pairwise_append → bU, extract_eq_take_drop → bW, length_range → cb, mem_range → cC, getElem_drop → cL, length_nil → cN, length_singleton → cS, getElem_inj → cW, ext_getElem → cX, find?_cons → di, getElem?_range → dq, take_of_length_le → dw, getElem?_append_right → dA, nodup_cons → dG, nodup_append → dH, mem_of_mem_take → dI, mem_of_getElem? → dJ, length_reverse → dU, length_pos_iff → dW, getElem_map → dX, all_eq_true → dY, map_map → ee, take_length → eV, mem_map_of_mem → fh, getElem?_cons_succ → fH, take_sublist → fN, take_add_one → fO, replicate → fP, flatten_cons → fQ, lookup → gx, filterMap_cons → gQ, perm_ext_iff_of_nodup → iA, pairwise_cons → iB, getElem?_drop → iC, forIn_nil → iD, getElem?_append_left → iR, reverse_perm → i3, reverse_cons → i4, pairwise_map → i5, getElem_append_left → jf, any_cons → jg, getElem?_cons_zero → jo, any_eq_true → jq, range_succ_eq_map → jX, flatten_singleton → jY, range_succ → kc, forIn_cons → kf, append_nil → kg, pairwise_reverse → kD, mem_iff_getElem? → kE, getElem?_eq_none → kF, nodup_nil → kS, mem_of_mem_drop → kT, mem_append_left → kU, map_congr_left → lU, all_cons → mD, lookup_append → ng, map_nil → nR, eraseIdxIfInBounds_toArray → pk, nodup_range → pC, length → pU, eq_nil_of_length_eq_zero → pW, of_mem_zip → qH, foldl_cons → qI, length_eraseIdx_of_lt → sF, exists_cons_of_ne_nil → sG, drop_zero → sH, getElem?_take_of_lt → uY, pairwise_lt_range → xm, getElem?_set_self → xn, all_map → xo, perm_append_comm → yF, perm_cons_erase → yN, mem_erase_of_ne → yO, getElem?_set_ne → yP, toList_toArray → Bg, reverse_append → Bh, flatten_append → Bi
open List.Pairwise renaming nil → kh
open List.Perm renaming refl → eD, swap → Bj
open Nat renaming le_refl → aw, ne_of_lt → aH, lt_of_lt_of_le → aO, le_trans → aQ, zero_le → aX, lt_succ_of_lt → bu, lt_succ_self → cq, le_add_right → cY, ne_of_gt → dc, lt_irrefl → de, lt_of_succ_lt → eJ, le_succ_of_le → eK, zero_add → fc, le_of_not_lt → fe, min_eq_left → fF, lt_add_of_pos_right → fI, le_of_lt → fU, min_le_right → gq, le_succ → gH, not_lt_zero → gP, lt_or_ge → ix, add_assoc → jn, lt_trans → j9, lt_of_le_of_lt → nE, min_self → pj, lt_add_right → pT, le_antisymm → sr, add_sub_cancel_left → xk, sub_zero → yE
open Nat.succ renaming inj → gw
open Ne renaming symm → dg
open Option renaming isNone_iff_eq_none → dE, isSome_iff_exists → fg, isSome_map → nc, getD_none → nQ, isSome_some → yL
open Option.some renaming inj → bz, injEq → fm
open Prod.mk renaming inj → nO
open PyProof.Rows renaming wpS_bind → ao, wpS_pure → az, pendingOf → bO, wpS_forRange → cj, callWith_type1 → cz, failedOf → cQ, wpS_mono → ef, SortKind → eh, wpS_modify → eG, boot_list → ff, StrsAre → gp, wpS_get → iY, AllBare → jZ, listUpdate_at → j7, callWith_builtin1 → kR, wpS_lift → nz, boot_tuple → ph, subscriptTail → pA, boot_int → pS, gallopOf → yA, Subscript_ → yB
open PyProof.Rows.F renaming plain_set_update_loop → eu, entry_set_update_loop → je
open PyProof.Rows.SortSt renaming mk' → eI
open PySem renaming wpAny_bind → ae, wpAny_pure → ah, mem_of_lookup → ba, SetTable → be, starEach → bp, mainGlobals → bK, cellsFrom → bT, compareOp → cc, wpAny_setField_rec → cn, wpAny_truthy_bool → cE, wpAny_holding → cF, wpAny_askSetting → cI, wpAny_setState_of → cP, NameKind → df, wpAny_newObj_type → dv, wpAny_mono → dz, bootBuiltins → dD, wpAny_call_entry → dF, codeAny_builtin → dP, wpAny_rule → dZ, sysModules → d0, Fin → el, wpAny_field → eE, wpAny_passesOwn → eM, binaryOp → eN, scanBound → eR, strIterType → fi, sliceBounds → fj, assignEach → fk, FuncData → ft, pickOrder → fB, wpAny_Call_Name_kw → fS, tupleKind_room_in1 → fT, wpAny_callSpecial?_slot → fW, foldedSetIterable → gm, builtinLookup_eq_fast → gI, plainId_quiet → gY, codeAny → gZ, codeAny_mono → iZ, noteFrame → jd, wpAny_seqItems → jj, setsByText → jk, call_meets → jl, builtinsNs → jm, wpAny_pyIter_list → jU, fits_of_scanBound → jV, wpAny_attempt → j6, behindInMarks → j8, swapsWith → kO, setField → kP, relayAll → kQ, wpAny_nextOf_list_item → lK, wpAny_updateSeq → lN, wpAny_specialOf → lO, typeLookup_type → lQ, letOwnedTupleGo → lR, sizeLine_eq → nB, tupleKind → nN, wpAny_standAt → pv, attributeBase → pB, valueAt → sf, slot_list_getitem → sh, ZipApart → sk, wpAny_isInstance → uI, setFlight → uJ, wpAny_execs_nil → wa, Within → wc, getItem → xh, callerA → xi, sliceRange → yy, isSubtype_type → yz, wpAny_newList → A9, wpAny_getItem_list_slice → Ba, evalPart_none → Bb
open PySem.Around renaming under_plainId → da
open PySem.Builtin.List renaming listExtendWith → cB, listLengthHint → d8, listTooLong → gJ, listSameRef → gK, listTouch → iE, listUpdate → pq, listItems → pD
open PySem.Builtin.SmallTypes renaming ownedTupleIsFree → cV, nextOf → d7
open PySem.Builtin.Str renaming occurrences → eX, strSliceIndices → nh
open PySem.Calls renaming spliced_cons → iz, callWith_builtin → jI, Name_function_global → sv, call_function_entry → sJ, evalArgs_plain → yG
open PySem.EntryCells renaming newEntry → uO
open PySem.F renaming plain_extend_loop → fE, slot_dict_get → jH, slot_zip_next → kW, plainAttrs_list → sD, args_dict_get_2 → sE, entry_dict_get → uL
open PySem.Heap renaming get?_push_of_some → af, lt_size → ay, get?_push_size → aE, get?_update_other → aZ, get?_update_self → cA, size_push → cM, SameBut → dy, size_update → gf, MadeExcOf → sI, get?_none_of_le → yQ
open PySem.Heap.IsSliceOf renaming new → qJ
open PySem.Heap.SameBut renaming update → fV, refl → uN
open PySem.IsL renaming update → yD
open PySem.NameKind renaming free → bG, cell → cf
open PySem.Obj renaming mapSeq → b9, mapFields → fC, data_mapFields → nC, isFreed_of_fields → yM
open PySem.Paired renaming length → lM
open PySem.PyData renaming keyHash → aC
open PySem.SeqAt.EqAt renaming str_int → uS, int_str → uU, int_int → uV
open PySem.SetTable renaming below → bY, grown → dN, insertAt → lS, has → sC, orStandIn → xj, relaid → Bc
open PySem.SetTable.below renaming go → sq
open PySem.SetTable.probe renaming go → jW
open PySem.Str renaming ofString → eY
open PySem.Value renaming ref → bo, none → bA, type → iu, isStrOf_shape → lL, bool → so, str → uQ, int → uR
open PySem.W renaming Frag → aa, fnOf → aL, keepIn → bZ, kas_sort → ck, kia_one → cy, codeIn → dO, nsIn → eQ, mg_of → eZ, kitOne → fG, kas_descPart → gk, kmHook → gN, findIn → gO, methodObj → mC, instObj → pf, lookIn → pR, kas_rev → sj, cellsFrom_some → uK, callWith_K → yC, kitx_list → yJ, kitx_dict → yK, plainGet → Bd, openEnds → Be
open PySem.W.Hook renaming val → uW, obs → uX
open PySem.W.KasT renaming ret → nS
open PySem.pickOrder renaming go → si
open Sum renaming inr → gv, inl → pd
open Sum.inr renaming inj → wb
set_option Elab.async false
set_option linter.all false
set_option maxRecDepth 100000
set_option maxHeartbeats 0
namespace K51
open PySem PySem.Spec PySem.Calls PyProof.Rows
noncomputable def top(i:Nat):Stmt:=PySem.Challenge.pw_copykin_k51_frames.main.body.getD i (.Pass ⟨0,0,0,0⟩)
noncomputable def vw:Program:=
 {PySem.Challenge.pw_copykin_k51_frames with main:={PySem.Challenge.pw_copykin_k51_frames.main with body:=[top 1,top 2,top 4,top 5,top 6,top 8,top 9,top 10,top 12,top 13,top 14,top 15,top 18,top 19,top 20,top 21,top 22,top 23,top 24,top 25]}}
noncomputable def loo:List Str:=[eY "frame_list"]
noncomputable def xt(s:Shared):Bool:=PySem.W.xlAt vw [] s&&PySem.W.recOk [] s
noncomputable def lhsA(w:World):=(Be treeTable PySem.Challenge.pw_copykin_k51_frames w 2024).map
 (PySem.W.openSeen vw loo (importedModules PySem.Challenge.pw_copykin_k51_frames.main.body) xt true)
noncomputable def rhsA(_:World):=some (PySem.W.openGood vw loo)
noncomputable def seen{α:Type}(_:α):Bool:=true
theorem laidA:(seen lhsA&&seen rhsA)=true:=by k_qdec
theorem leftA(w:World):lhsA w=rhsA w:=by
 have _:=laidA;rw[PySem.W.Fast.te636410417209630806,PySem.W.Fast.te15222500675918553354]
 kernel_rfl
theorem both{α β γ:Type}{o:Option α}{f:α->β}{g:α->γ}{a:β}{b:γ}(h:o.map f=some a)(k:o.map g=some b):(o.map fun s=>(f s,g s))=some (a,b):=by
 cases o with
 |none=>cases h
 |some x=>
  injection h with h;injection k with k;rw[<-h,<-k];rfl
end K51
namespace L2
open PySem PySem.Spec PyProof.Rows
noncomputable abbrev Key:=Sum Int Str
noncomputable def oF:Key->Value->Bool
 |.inl k,v=>Value.isInt k v
 |.inr x,v=>Value.isStrOf x v
noncomputable def keyH(w:World):Key->Int
 |.inl k=>hashInt k
 |.inr x=>hashStr w x
theorem dB:∀{k:Key}{v:Value},oF k v=true->(∃i t,k=pd i/\v=uR i t)\/(∃x t,k=gv x/\v=uQ x t)
 |.inl i,v,h=>by
  obtain⟨t,e⟩:=Value.isInt_shape (k:=i) (v:=v) h;exact .inl ⟨i,t,rfl,e⟩
 |.inr x,v,h=>by
  obtain⟨t,e⟩:=lL (x:=x) (v:=v) h;exact .inr ⟨x,t,rfl,e⟩
theorem yc(i:Int)(t:Tok):oF (.inl i) (.int i t)=true:=by simp[oF,Value.isInt]
theorem yb(x:Str)(t:Tok):oF (.inr x) (.str x t)=true:=by simp[oF,Value.isStrOf]
theorem key_ll(a b:Int):decide ((pd a:Key)=pd b)=(a==b):=by
 by_cases e:a=b
 ·subst e;simp
 ·have h:¬(pd a:Key)=pd b:=fun q=>e (pd.inj q)
  rw[decide_eq_false h];exact(beq_eq_false_iff_ne.mpr e).symm
theorem key_rr(a b:Str):decide ((gv a:Key)=gv b)=decide (a=b):=by
 by_cases e:a=b
 ·subst e;simp
 ·have h:¬(gv a:Key)=gv b:=fun q=>e (wb q)
  rw[decide_eq_false h,decide_eq_false e]
theorem key_lr(a:Int)(b:Str):decide ((pd a:Key)=gv b)=false:=decide_eq_false (fun q=>nomatch q)
theorem key_rl(a:Str)(b:Int):decide ((gv a:Key)=pd b)=false:=decide_eq_false (fun q=>nomatch q)
noncomputable def bH(prog:Program)(w:World):PySem.KeyKind prog w Key where
 is:=oF
 hash:=keyH w
 inj:=fun v a b ha hb=>by
  rcases dB ha with⟨i,t,rfl,rfl⟩ |⟨x,t,rfl,rfl⟩
  ·rcases dB hb with⟨j,u,rfl,e⟩ |⟨y,u,rfl,e⟩
   ·injection e with e1 _;rw[e1]
   ·exact nomatch e
  ·rcases dB hb with⟨j,u,rfl,e⟩ |⟨y,u,rfl,e⟩
   ·exact nomatch e
   ·injection e with e1 _;rw[e1]
 byValue:=fun k v h=>by
  rcases dB h with⟨i,t,rfl,rfl⟩ |⟨x,t,rfl,rfl⟩<;>rfl
 pyHash:=fun hv h=>by
  rcases dB hv with⟨i,t,rfl,rfl⟩ |⟨x,t,rfl,rfl⟩
  ·exact wpAny_pyHash_int h
  ·exact wpAny_pyHash_str h
 eqBool:=fun hu hv h=>by
  rcases dB hu with⟨i,t,rfl,rfl⟩ |⟨x,t,rfl,rfl⟩
  ·rcases dB hv with⟨j,u,rfl,rfl⟩ |⟨y,u,rfl,rfl⟩
   ·rw[key_ll]at h;exact wpAny_eqBool_int h
   ·rw[key_lr]at h;exact uU i t y u _ _ _ _ h
  ·rcases dB hv with⟨j,u,rfl,rfl⟩ |⟨y,u,rfl,rfl⟩
   ·rw[key_rl]at h;exact uS x t j u _ _ _ _ h
   ·rw[key_rr]at h;exact wpAny_eqBool_str h
 «strs»:=fun k x t v h=>by
  rcases dB h with⟨i,u,rfl,e⟩ |⟨y,u,rfl,e⟩
  ·exact nomatch e
  ·injection e with e1 _
   subst e1;cases v<;>rfl
theorem oA(prog:Program)(w:World)(k:Key)(v:Value):(bH prog w).is k v=oF k v:=rfl
theorem tX(prog:Program)(w:World)(i:Int)(t:Tok):(bH prog w).is (.inl i) (.int i t)=true:=yc i t
theorem mQ(prog:Program)(w:World)(x:Str)(t:Tok):(bH prog w).is (.inr x) (.str x t)=true:=yb x t
inductive V where
 |non|bl (b:Bool) |int (i:Int) |str (x:Str) |byt (b:Array UInt8) |flt (b:UInt64) |ref (a:Addr) |ty (n:String)
 deriving DecidableEq
noncomputable def RelV:V->Value->Prop
 |.non,u=>u=bA
 |.bl b,u=>u=so b
 |.int i,u=>∃t,u=uR i t
 |.str x,u=>∃t,u=uQ x t
 |.byt b,u=>∃t,u=Value.bytes b t
 |.flt b,u=>∃t,u=Value.float b t
 |.ref a,u=>u=bo a
 |.ty n,u=>u=iu n
noncomputable abbrev bJ:List V->List Value->Prop:=Paired RelV
theorem bJ.length{xs:List V}{us:List Value}(r:bJ xs us):xs.length=us.length:=lM r
theorem bJ.get:∀{xs:List V}{us:List Value}{i:Nat}{x:V},bJ xs us->xs[i]? =some x->∃u,us[i]? =some u/\RelV x u
 |_,_,_,_,.nil,e=>by simp at e
 |_,_,0,_,.cons r _,e=>by simp at e;subst e;exact⟨_,rfl,r⟩
 |_,_,i+1,x,.cons _ t,e=>by
  obtain⟨u,h1,h2⟩:=bJ.get (i:=i) (x:=x) t (by simpa using e);exact⟨u,by simpa using h1,h2⟩
theorem bJ.append:∀{xs ys:List V}{us ws:List Value},bJ xs us->bJ ys ws->bJ (xs++ys) (us++ws)
 |_,_,_,_,.nil,s=>s
 |_,_,_,_,.cons r t,s=>.cons r (bJ.append t s)
theorem bJ.take:∀{xs:List V}{us:List Value}(n:Nat),bJ xs us->bJ (xs.take n) (us.take n)
 |_,_,0,_=>.nil
 |_,_,_+1,.nil=>.nil
 |_,_,n+1,.cons r t=>.cons r (bJ.take n t)
theorem bJ.drop:∀{xs:List V}{us:List Value}(n:Nat),bJ xs us->bJ (xs.drop n) (us.drop n)
 |_,_,0,r=>r
 |_,_,_+1,.nil=>.nil
 |_,_,n+1,.cons _ t=>bJ.drop n t
noncomputable def kN:Option V->Option Value->Prop
 |some v,some u=>RelV v u
 |none,none=>True
 |_,_=>False
noncomputable def KV{κ:Type}:List (κ×V)->List (κ×Value)->Prop:=Paired fun(p:κ×V)(q:κ×Value)=>p.1=q.1/\RelV p.2 q.2
noncomputable def kV:Key->V
 |.inl i=>.int i
 |.inr x=>.str x
inductive HO where
 |lst (xs:List V)
 |tup (xs:List V)
 |dK (kvs:List (Key×V)) |dT (kvs:List (List Key×V))
 |set (S:Int->Bool) (n:Nat)
 |ins (C dx:Addr) (fs:List (Str×V))
 |own (x:Addr)
 |xd (fs:List (Str×V))
 |met (f x:Addr)
 |rng (lo hi:Int)
 |frz (o:Obj) (u:HO)
 |tbl (ps:Array Value)
 |ext (φ:Heap->Prop)
noncomputable abbrev Hp:=Addr->Option HO
noncomputable def upd(H:Hp)(a:Addr)(o:HO):Hp:=fun b=>if b=a then some o else H b
theorem aM{H:Hp}{a:Addr}{o:HO}:upd H a o a=some o:=by unfold upd;rw[if_pos rfl]
theorem bC{H:Hp}{a b:Addr}{o:HO}(h:b≠a):upd H a o b=H b:=by unfold upd;rw[if_neg h]
theorem mI{H:Hp}{a b:Addr}{o u:HO}(h:H a=some o)(h':H b=some u)(d:o≠u):a≠b:=by
 intro e;subst e;rw[h]at h';exact d (bz h')
theorem bR{H:Hp}{a b:Addr}{o:HO}(h:H a=some o)(h':H b=none):a≠b:=by
 intro e;subst e;rw[h]at h';cases h'
section
variable(P:Program)(w:World)
noncomputable def cZ(H:Hp)(h:Heap)(a:Addr):HO->Prop
 |.lst xs=>xs.length<=sizeLine/\∃(its:List Value)(n:Nat),bJ xs its/\h.get? a=some {cls:=.type "list",data:=.seq its.toArray n}
 |.tup xs=>xs.length<=sizeLine/\∃its:List Value,bJ xs its/\IsTup h a its.toArray
 |.dK kvs=>kvs.length<=sizeLine/\(a==d0)=false/\∃vs,KV kvs vs/\h.DictOf (bH P w) a vs
 |.dT kvs=>kvs.length<=sizeLine/\(a==d0)=false/\∃xs:List (List Key×Addr×Value),
   Paired (fun(p:List Key×V)(q:List Key×Addr×Value)=>p.1=q.1/\H q.2.1=some (.tup (p.1.map kV))/\RelV p.2 q.2.2) kvs xs/\
   ∃o es ep,h.get? a=some o/\o.ExactDict/\o.data=.dict es ep/\es.toList=xs.map (entryOfKey (nN (bH P w)))/\(xs.map (·.1)).Nodup
 |.set S n=>h.SetOf (intKind P w) a S n
 |.ins C dx fs=>H dx=some (.own a)/\fs.length<=1000/\dx≠a/\h.get? a=some (pf C dx)/\
   ∃mA,h.Ns1 dx mA/\(∀f,kN (fs.lookup f) (mA f))/\wc mA (fs.map (·.1))
 |.own _=>∃o,h.get? a=some o
 |.xd fs=>∃mA,h.Ns1 a mA/\∀f,kN (fs.lookup f) (mA f)
 |.rng lo hi=>∃t u v,h.get? a=some {cls:=.type "range",data:=.fields #[.int lo t,.int hi u,.int 1 v]}
 |.frz o u=>h.get? a=some o/\cZ H h a u
 |.tbl ps=>h.get? a=some {cls:=.none,data:=.fields ps}
 |.met f x=>h.get? a=some (mC (.ref f) (.ref x))
 |.ext φ=>φ h/\(∃o,h.get? a=some o)/\∀h1 h2:Heap,φ h1->(∀o,h1.get? a=some o->h2.get? a=some o)->φ h2
noncomputable def HOk(H:Hp)(h:Heap):Prop:=∀a o,H a=some o->cZ P w H h a o
end
section
variable {P:Program}{w:World}{H H':Hp}{h h':Heap}{a:Addr}{o:HO}
theorem cZ.lt(x:cZ P w H h a o):a<h.objs.size:=by
 cases o with
 |lst xs=>obtain⟨_,_,_,_,e⟩:=x;exact ay e
 |tup xs=>obtain⟨_,_,_,p⟩:=x;exact p.lt
 |dK kvs=>obtain⟨_,_,_,_,o,_,_,e,_⟩:=x;exact ay e
 |dT kvs=>obtain⟨_,_,_,_,o,_,_,e,_⟩:=x;exact ay e
 |set S n=>obtain⟨o,_,_,_,e,_⟩:=x;exact ay e
 |ins C dx fs=>obtain⟨_,_,_,e,_⟩:=x;exact ay e
 |own y=>obtain⟨_,e⟩:=x;exact ay e
 |xd fs=>obtain⟨_,⟨_,_,_,e,_⟩,_⟩:=x;exact ay e
 |rng lo hi=>obtain⟨_,_,_,e⟩:=x;exact ay e
 |frz ob u=>obtain⟨e,_⟩:=x;exact ay e
 |tbl ps=>exact ay (show h.get? a=some _ from x)
 |met f y=>exact ay (show h.get? a=some _ from x)
 |ext φ=>obtain⟨_,⟨_,e⟩,_⟩:=x;exact ay e
theorem Paired.xZ{α β:Type}{F G:α->β->Prop}:∀{l₁:List α}{l₂:List β},Paired F l₁ l₂->(∀a b,F a b->G a b)->Paired G l₁ l₂
 |_,_,.nil,_=>.nil
 |_,_,.cons r t,f=>.cons (f _ _ r) (Paired.xZ t f)
theorem cZ.qS(x:cZ P w H h a o)(k:∀b u,(b=a\/H b=some (.own a))->h.get? b=some u->h'.get? b=some u)
  (ho:∀b,H b=some (.own a)->H' b=some (.own a))(ht:∀b xs,H b=some (.tup xs)->H' b=some (.tup xs)):cZ P w H' h' a o:=by
 induction o with
 |lst xs=>obtain⟨z,its,n,r,e⟩:=x;exact⟨z,its,n,r,k _ _ (.inl rfl) e⟩
 |tup xs=>obtain⟨z,its,r,ob,e,c⟩:=x;exact⟨z,its,r,ob,k _ _ (.inl rfl) e,c⟩
 |dK kvs=>obtain⟨z,y,vs,r,ob,es,ep,e,c⟩:=x;exact⟨z,y,vs,r,ob,es,ep,k _ _ (.inl rfl) e,c⟩
 |dT kvs=>
  obtain⟨z,y,xs,r,ob,es,ep,e,c⟩:=x;exact⟨z,y,xs,Paired.xZ r fun p q z=>⟨z.1,ht _ _ z.2.1,z.2.2⟩,ob,es,ep,k _ _ (.inl rfl) e,c⟩
 |set S n=>obtain⟨ob,es,ep,t,e,c⟩:=x;exact⟨ob,es,ep,t,k _ _ (.inl rfl) e,c⟩
 |ins C dx fs=>
  obtain⟨d,z,ne,e,mA,⟨od,es,ep,e2,c⟩,r⟩:=x;exact⟨ho _ d,z,ne,k _ _ (.inl rfl) e,mA,⟨od,es,ep,k _ _ (.inr d) e2,c⟩,r⟩
 |own y=>obtain⟨ob,e⟩:=x;exact⟨ob,k _ _ (.inl rfl) e⟩
 |xd fs=>obtain⟨mA,⟨od,es,ep,e,c⟩,r⟩:=x;exact⟨mA,⟨od,es,ep,k _ _ (.inl rfl) e,c⟩,r⟩
 |rng lo hi=>obtain⟨t,u,v,e⟩:=x;exact⟨t,u,v,k _ _ (.inl rfl) e⟩
 |frz ob u ih=>obtain⟨e,q⟩:=x;exact⟨k _ _ (.inl rfl) e,ih q⟩
 |tbl ps=>
  have e:h.get? a=some {cls:=.none,data:=.fields ps}:=x;show h'.get? a=some {cls:=.none,data:=.fields ps};exact k a _ (.inl rfl) e
 |met f y=>
  have e:h.get? a=some (mC (.ref f) (.ref y)):=x;show h'.get? a=some (mC (.ref f) (.ref y));exact k a _ (.inl rfl) e
 |ext φ=>obtain⟨p,⟨o,e⟩,st⟩:=x;exact⟨st _ _ p fun o q=>k _ _ (.inl rfl) q,⟨o,k _ _ (.inl rfl) e⟩,st⟩
theorem HOk.lt(x:HOk P w H h)(e:H a=some o):a<h.objs.size:=(x a o e).lt
theorem HOk.fresh(x:HOk P w H h)(e:h.objs.size<=a):H a=none:=by
 cases q:H a with
 |none=>rfl
 |some u=>exact absurd (aO (x.lt q) e) (de _)
theorem HOk.kept(x:HOk P w H h)(k:∀b u,h.get? b=some u->h'.get? b=some u):HOk P w H h':=fun a o e=>
 (x a o e).qS (fun b u _ q=>k b u q) (fun _ q=>q) fun _ _ q=>q
theorem HOk.laid(x:HOk P w H h)(k:∀b u,h.get? b=some u->h'.get? b=some u)(hp:h.objs.size<=a)(new:cZ P w (upd H a o) h' a o):HOk P w (upd H a o) h':=fun b u e=>by
 have hn:=x.fresh hp;by_cases hb:b=a
 ·subst hb;rw[aM]at e;cases e;exact new
 ·rw[bC hb]at e
  exact(x b u e).qS (fun c v _ q=>k c v q) (fun c q=>by rw[bC (bR q hn)];exact q) fun c xs q=>by rw[bC (bR q hn)];exact q
end
noncomputable def Rd(H:Hp)(a:Addr)(u:HO):Prop:=H a=some u\/∃o,H a=some (.frz o u)
theorem Rd.ok{P:Program}{w:World}{H:Hp}{h:Heap}{a:Addr}{u:HO}(r:Rd H a u)(x:HOk P w H h):cZ P w H h a u:=by
 rcases r with r|⟨o,r⟩
 ·exact x a u r
 ·obtain⟨_,q⟩:=x a _ r
  exact q
noncomputable def Mut:Option HO->Prop
 |some (.lst _)=>True
 |some (.dK _)=>True
 |some (.dT _)=>True
 |some (.set _ _)=>True
 |some (.ins _ _ _)=>True
 |some (.ext _)=>True
 |_=>False
section
variable {P:Program}{w:World}{H:Hp}{h h':Heap}{x e:Addr}{o':HO}
theorem HOk.write(ok:HOk P w H h)(mu:Mut (H x))(he:e=x\/H e=some (.own x))(k:∀b u,b≠e->h.get? b=some u->h'.get? b=some u)(heo:∃u,h'.get? e=some u)
  (new:cZ P w (upd H x o') h' x o'):HOk P w (upd H x o') h':=fun b u q=>by
 have nown:∀c y,H c=some (.own y)->c≠x:=fun c y r z=>by subst z;rw[r]at mu;exact mu
 have ntup:∀c xs,H c=some (.tup xs)->c≠x:=fun c xs r z=>by subst z;rw[r]at mu;exact mu
 by_cases hb:b=x
 ·subst hb;rw[aM]at q;cases q;exact new
 ·rw[bC hb]at q
  by_cases hbe:b=e
  ·have q':H b=some (.own x):=by
    rcases he with z|z
    ·exact absurd (hbe.trans z) hb
    ·rw[hbe];exact z
   rw[q]at q';cases q';obtain⟨v,hv⟩:=heo;exact⟨v,by rw[hbe];exact hv⟩
  ·refine(ok b u q).qS (fun c v hc r=>k c v ?_ r) (fun c r=>by rw[bC (nown c b r)];exact r) fun c xs r=>by rw[bC (ntup c xs r)];exact r
   rcases hc with rfl|hc
   ·exact hbe
   ·rintro rfl
    rcases he with z|z
    ·exact nown c b hc z
    ·rw[hc]at z;cases z;exact hb rfl
end
structure Un(fs ex:List Addr)(H H':Hp)(h h':Heap):Prop where
 keep:∀b o,h.get? b=some o->H b=none->b∉fs->b∉ex->h'.get? b=some o
 slot:∀b o,h.get? b=some o->H b=none->b∈fs->b∉ex->∃sl,h'.get? b=some {o with slots:=sl}
 free:∀b o,h.get? b=some o->H b=none->b∉ex->H' b=none
 there:∀b o,h.get? b=some o->b∉ex->∃o',h'.get? b=some o'
 tups:∀b xs,H b=some (.tup xs)->H' b=some (.tup xs)
 frzs:∀b o u,H b=some (.frz o u)->H' b=some (.frz o u)
 tbls:∀b ps,H b=some (.tbl ps)->∃more,H' b=some (.tbl (ps++more))
section
variable {fs fs' ex ex':List Addr}{H H1 H2:Hp}{h h1 h2 h':Heap}{a x e:Addr}{o:HO}
theorem Un.any(u:Un fs ex H H1 h h1){b:Addr}{ob:Obj}(q:h.get? b=some ob)(n:H b=none)(hx:b∉ex):∃sl,h1.get? b=some {ob with slots:=sl}:=by
 by_cases hb:b∈fs
 ·exact u.slot b ob q n hb hx
 ·exact⟨ob.slots,u.keep b ob q n hb hx⟩
theorem Un.kept(k:∀b u,h.get? b=some u->h'.get? b=some u):Un fs ex H H h h':=
 ⟨fun b ob q _ _ _=>k b ob q,fun b ob q _ _ _=>⟨ob.slots,k b ob q⟩,fun _ _ _ n _=>n,fun b ob q _=>⟨ob,k b ob q⟩,fun _ _ q=>q,fun _ _ _ q=>q,fun _ ps q=>⟨#[],by rw[q];simp⟩⟩
theorem Un.refl:Un fs ex H H h h:=Un.kept fun _ _ q=>q
theorem Un.laid(k:∀b u,h.get? b=some u->h'.get? b=some u)(hp:h.objs.size<=a)(hn:H a=none):Un fs ex H (upd H a o) h h' where
 keep:=fun b u q _ _ _=>k b u q
 slot:=fun b u q _ _ _=>⟨u.slots,k b u q⟩
 free:=fun b u q n _=>by rw[bC (aH (aO (ay q) hp))];exact n
 there:=fun b u q _=>⟨u,k b u q⟩
 tups:=fun b xs q=>by rw[bC (bR q hn)];exact q
 frzs:=fun b u xs q=>by rw[bC (bR q hn)];exact q
 tbls:=fun b ps q=>⟨#[],by rw[bC (bR q hn),q];simp⟩
theorem Un.write(mu:Mut (H x))(he:e=x\/H e=some (.own x))(k:∀b u,b≠e->h.get? b=some u->h'.get? b=some u)(heo:∃u,h'.get? e=some u):Un fs ex H (upd H x o) h h':=by
 have hx:∀b,H b=none->b≠x:=fun b n z=>by subst z;rw[n]at mu;exact mu
 have hb:∀b,H b=none->b≠e:=fun b n z=>by
  subst z;rcases he with r|r
  ·exact hx b n r
  ·rw[n]at r;cases r
 have hm:∀b u,H b=some u->¬Mut (some u)->b≠x:=fun b u q nm z=>by subst z;rw[q]at mu;exact nm mu
 refine⟨fun b u q n _ _=>k b u (hb b n) q,fun b u q n _ _=>⟨u.slots,k b u (hb b n) q⟩,fun b u q n _=>by rw[bC (hx b n)];exact n,fun b u q _=>?_,
  fun b xs q=>by rw[bC (hm b _ q fun z=>z)];exact q,fun b u xs q=>by rw[bC (hm b _ q fun z=>z)];exact q,fun b ps q=>⟨#[],by rw[bC (hm b _ q fun z=>z),q];simp⟩⟩
 by_cases hbe:b=e
 ·subst hbe;exact heo
 ·exact⟨u,k b u hbe q⟩
end
noncomputable def trk(h:Heap)(H:Hp):List Addr:=(aA h.objs.size).filter fun a=>(H a).isSome
noncomputable def ue(h:Heap)(H:Hp):Heap:=PySem.W.hideAll h (trk h H)
theorem yf(h:Heap)(H:Hp):(ue h H).objs.size=h.objs.size:=PySem.W.hideAll_size _ _
theorem oJ{h:Heap}{H:Hp}{b:Addr}{o:Obj}(e:h.get? b=some o)(n:H b=none):(ue h H).get? b=some o:=
 PySem.W.hideAll_get _ e fun hm=>by
  have q:(H b).isSome=true:=(List.mem_filter.mp hm).2;rw[n]at q;simp at q
theorem of_hidT{h:Heap}{H:Hp}{b:Addr}{o:Obj}(e:(ue h H).get? b=some o):h.get? b=some o/\H b=none:=by
 have e':h.get? b=some o:=PySem.W.of_hideAll (trk h H) e;refine⟨e',?_⟩;cases q:H b with
 |none=>rfl
 |some x=>
  have hm:b∈trk h H:=List.mem_filter.mpr ⟨cC.mpr (ay e'),by simp[q]⟩;have z:(ue h H).get? b=none:=PySem.W.hideAll_none (trk h H) hm;rw[z]at e;cases e
structure Mod(K:aa)(mg:Str->Option Value)(base:Heap):Prop where
 kin:K.In base
 glob:base.Ns bK mg
 blt:∃mb,base.Ns jm mb/\∀x:Str,x≠"__name__"->mb x=dD x
 nolimit:base.NoLimit
structure Cx where
 prog:Program
 w:World
 K:aa
 mg:Str->Option Value
 base:Heap
 A:Around
 N:List Str
 s₀:Shared
 H₀:Hp
 env:Env
 outer:List Env
 stack:List Env
 ex:List Addr
 fn:Str->Bool
 calm:Bool
 pn:List (Addr×Obj)
 xe:Value->Shared->Prop
noncomputable def frs(l:List Env):List Addr:=l.filterMap (·.frame)
noncomputable abbrev Cx.fs(X:Cx):List Addr:=frs X.outer
noncomputable def Vis(sc:Scope)(x:Str):Prop:=sc.names.lookup x=some .local\/sc.names.lookup x=some .cell\/sc.names.lookup x=some .free
noncomputable def Loc(sc:Scope)(x:Str):Prop:=sc.names.lookup x=some .local\/sc.names.lookup x=some .cell
noncomputable def Look(env:Env)(h:Heap)(m:Str->Option Value)(x:Str)(u:Value):Prop:=
 (env.kindOf x=some .local/\m x=some u)\/((env.kindOf x=some .cell\/env.kindOf x=some .free)/\∃c,env.cells.lookup x=some c/\h.IsCell c (some u))
structure Cx.Ok(X:Cx):Prop where
 mod:Mod X.K X.mg X.base
 kind:X.env.scope.kind=.function
 glob:X.env.globals=bK
 blt:X.env.builtins=jm
 above:X.s₀.heap.objs.size<=X.env.locals
 inj:∀x y c,X.env.cells.lookup x=some c->X.env.cells.lookup y=some c->x=y
 has:∀x,(X.env.kindOf x=some .cell\/X.env.kindOf x=some .free)->∃c,X.env.cells.lookup x=some c
 cab:∀x c,X.fn x=true->X.env.cells.lookup x=some c->X.s₀.heap.objs.size<=c
 hd:X.calm=true->X.A.handled=none
 frames:X.A.frames=some X.stack
 stk:X.stack=X.outer\/(X.stack=X.env::X.outer/\X.env.frame=some X.env.locals)
 exf:∀b∈X.ex,b≠X.env.locals/\∀x c,X.env.cells.lookup x=some c->c≠b
 bs:∀b o,X.base.get? b=some o->X.s₀.heap.get? b=some o/\X.H₀ b=none
 bsz:X.base.objs.size<=X.s₀.heap.objs.size
 noex:∀b o,X.base.get? b=some o->b∉X.ex
 exfs:∀b∈X.ex,b∉X.fs
 rK:X.s₀.heap.FunFrames X.base X.outer
 frf:∀b∈X.fs,X.H₀ b=none
structure Inv(X:Cx)(pins:List (Addr×Obj))(σ:List (Option V))(H:Hp)(s:Shared):Prop where
 ok:X.Ok
 os:s.os=X.s₀.os
 bare:jZ s.gens
 base:Un X.fs X.ex X.H₀ H X.s₀.heap s.heap
 loc:∃m,s.heap.Ns X.env.locals m/\∀(i:Nat)(x:Str)(v:V),X.N[i]? =some x->σ[i]? =some (some v)->Vis X.env.scope x->∃u,RelV v u/\Look X.env s.heap m x u
 cell:∀x c,X.env.cells.lookup x=some c->∃v,s.heap.IsCell c v
 free:H X.env.locals=none
 freeC:∀x c,X.env.cells.lookup x=some c->H c=none
 pin:∀p∈X.pn++pins,s.heap.get? p.1=some p.2/\H p.1=none/\p.1≠X.env.locals/\p.1∉X.fs/\∀v,p.2.data≠.cell v
 hok:HOk X.prog X.w H s.heap
 len:σ.length=X.N.length
section
variable {X:Cx}{pins:List (Addr×Obj)}{σ:List (Option V)}{H H':Hp}{s:Shared}{h':Heap}
theorem Cx.Ok.nofr(ok:X.Ok){b:Addr}{o:Obj}(e:X.base.get? b=some o):b∉X.fs:=fun hb=>by
 have :=(ok.rK.mem hb).1
 rw[e]at this;cases this
theorem Inv.bs(I:Inv X pins σ H s):∀b o,X.base.get? b=some o->s.heap.get? b=some o/\H b=none:=fun b o e=>
 ⟨I.base.keep b o (I.ok.bs b o e).1 (I.ok.bs b o e).2 (I.ok.nofr e) (I.ok.noex b o e),I.base.free b o (I.ok.bs b o e).1 (I.ok.bs b o e).2 (I.ok.noex b o e)⟩
theorem Inv.bk(I:Inv X pins σ H s):∀b o,X.base.get? b=some o->s.heap.get? b=some o:=fun b o e=>(I.bs b o e).1
theorem Inv.mod(I:Inv X pins σ H s):Mod X.K X.mg X.base:=I.ok.mod
theorem Inv.kIn(I:Inv X pins σ H s):X.K.In s.heap:=I.ok.mod.kin.keeps I.bk
theorem Inv.lt(I:Inv X pins σ H s):X.env.locals<s.heap.objs.size:=let⟨_,hn,_⟩:=I.loc;hn.lt
theorem Inv.sz(I:Inv X pins σ H s):X.s₀.heap.objs.size<=s.heap.objs.size:=aQ I.ok.above (fU I.lt)
theorem Inv.nofs(I:Inv X pins σ H s){a:Addr}(h:s.heap.objs.size<=a):a∉X.fs:=fun hb=>by
 obtain⟨_,o,ho,_⟩:=I.ok.rK.mem hb;exact absurd (aO (ay ho) (aQ I.sz h)) (de _)
theorem Inv.cne(I:Inv X pins σ H s):∀x c,X.env.cells.lookup x=some c->c≠X.env.locals:=fun x c e z=>by
 obtain⟨v,o,ho,hd⟩:=I.cell x c e;obtain⟨m,⟨o',es,ep,ho',hd',_⟩,_⟩:=I.loc;rw[z,ho']at ho;cases ho;rw[hd']at hd;cases hd
theorem Inv.rK(I:Inv X pins σ H s):s.heap.FunFrames X.base X.outer:=by
 have all:∀(l:List Env),(∀b∈frs l,b∈X.fs)->X.s₀.heap.FunFrames X.base l->s.heap.FunFrames X.base l:=by
  intro l
  induction l with
  |nil=>intro _ _;trivial
  |cons env r ih=>
   intro hs hl;obtain⟨hk,⟨L,o,hf,hn,ho,hd⟩,hr⟩:=hl;have hL:L∈X.fs:=hs L (by unfold frs;rw[gQ,hf];exact au);obtain⟨sl,e⟩:=I.base.slot L o ho (I.ok.frf L hL) hL fun z=>I.ok.exfs L z hL;exact⟨hk,⟨L,_,hf,hn,e,hd⟩,ih (fun b hb=>hs b (by unfold frs;rw[gQ,hf];exact aI _ hb)) hr⟩
 exact all X.outer (fun _ hb=>hb) I.ok.rK
theorem Inv.stack(I:Inv X pins σ H s):s.heap.FunFrames X.base X.stack:=by
 rcases I.ok.stk with e|⟨e,hf⟩
 ·rw[e];exact I.rK
 ·rw[e]
  obtain⟨m,hn,_⟩:=I.loc;refine .cons (by rw[I.ok.kind];decide) hf hn ?_ I.rK;exact yQ (aQ I.ok.bsz I.ok.above)
theorem Inv.ve(I:Inv X pins σ H s):∀b∈frs X.stack,b∈X.env.locals::X.fs:=fun b hb=>by
 rcases I.ok.stk with e|⟨e,hf⟩
 ·rw[e]at hb;exact aI _ hb
 ·rw[e]at hb
  unfold frs at hb;rw[gQ,hf]at hb;exact hb
theorem Inv.qR(I:Inv X pins σ H s):∀b∈frs X.stack,H b=none:=fun b hb=>by
 rcases aD.mp (I.ve b hb)with e|hb
 ·rw[e];exact I.free
 ·obtain⟨_,o,ho,_⟩:=I.ok.rK.mem hb
  exact I.base.free b o ho (I.ok.frf b hb) fun z=>I.ok.exfs b z hb
theorem Inv.step{g':Array GenState}{t':Nat}{d':Drawn}{ch:List Addr}(I:Inv X pins σ H s)
  (hch:∀b∈ch,(b∈X.ex\/X.s₀.heap.objs.size<=b)/\b≠X.env.locals/\(∀x c,X.env.cells.lookup x=some c->c≠b)/\∀p∈X.pn++pins,p.1≠b)
  (keep:∀b o,b≠X.env.locals->b∉X.fs->b∉ch->s.heap.get? b=some o->H b=none->h'.get? b=some o)
  (slot:∀b o,b≠X.env.locals->b∈X.fs->b∉ch->s.heap.get? b=some o->H b=none->∃sl,h'.get? b=some {o with slots:=sl}) (free:∀b o,b∉ch->s.heap.get? b=some o->H b=none->H' b=none)
  (there:∀b o,b∉ch->s.heap.get? b=some o->∃o',h'.get? b=some o')
  (tups:∀b xs,H b=some (.tup xs)->H' b=some (.tup xs)) (frzs:∀b o u,H b=some (.frz o u)->H' b=some (.frz o u)) (tbls:∀b ps,H b=some (.tbl ps)->∃more,H' b=some (.tbl (ps++more)))
  (ns:∀m,s.heap.Ns X.env.locals m->h'.Ns X.env.locals m) (hok:HOk X.prog X.w H' h') (hg:jZ g'):
  Inv X pins σ H' {s with heap:=h',gens:=g',drawn:=d',toks:=t'}:=by
 have neL:∀b o,X.s₀.heap.get? b=some o->b≠X.env.locals:=fun b o e=>aH (aO (ay e) I.ok.above);have neC:∀b o,X.s₀.heap.get? b=some o->b∉X.ex->b∉ch:=fun b o e hx hb=>by
  rcases(hch b hb).1 with z|z
  ·exact hx z
  ·exact absurd (aO (ay e) z) (de _)
 have cellK:∀x c,X.env.cells.lookup x=some c->∀v,s.heap.IsCell c v->h'.IsCell c v:=fun x c e v ⟨o,ho,hd⟩=>by
  have nch:c∉ch:=fun z=>(hch c z).2.2.1 x c e rfl;by_cases hc:c∈X.fs
  ·obtain⟨sl,q⟩:=slot c o (I.cne x c e) hc nch ho (I.freeC x c e)
   exact⟨_,q,hd⟩
  ·exact⟨o,keep c o (I.cne x c e) hc nch ho (I.freeC x c e),hd⟩
 refine⟨I.ok,I.os,hg,⟨fun b o e n hb hx=>?_,fun b o e n hb hx=>?_,fun b o e n hx=>?_,fun b o e hx=>?_,fun b xs e=>tups b xs (I.base.tups b xs e),fun b o xs e=>frzs b o xs (I.base.frzs b o xs e),fun b ps e=>?_⟩,?_,fun x c e=>?_,?_,fun x c e=>?_,fun p hp=>?_,hok,I.len⟩
 ·exact keep b o (neL b o e) hb (neC b o e hx) (I.base.keep b o e n hb hx) (I.base.free b o e n hx)
 ·obtain⟨sl,e1⟩:=I.base.slot b o e n hb hx
  obtain⟨sl',e2⟩:=slot b _ (neL b o e) hb (neC b o e hx) e1 (I.base.free b o e n hx);exact⟨sl',e2⟩
 ·obtain⟨o',e1⟩:=I.base.there b o e hx
  exact free b o' (neC b o e hx) e1 (I.base.free b o e n hx)
 ·obtain⟨o',e1⟩:=I.base.there b o e hx
  exact there b o' (neC b o e hx) e1
 ·obtain⟨m1,e1⟩:=I.base.tbls b ps e
  obtain⟨m2,e2⟩:=tbls b _ e1;exact⟨m1++m2,by rw[e2,Array.append_assoc]⟩
 ·obtain⟨m,hn,hl⟩:=I.loc
  refine⟨m,ns m hn,fun i x v e1 e2 e3=>?_⟩;obtain⟨u,r,l⟩:=hl i x v e1 e2 e3;refine⟨u,r,?_⟩;rcases l with l|⟨k,c,e,z⟩
  ·exact .inl l
  ·exact .inr ⟨k,c,e,cellK x c e _ z⟩
 ·obtain⟨v,z⟩:=I.cell x c e
  exact⟨v,cellK x c e v z⟩
 ·obtain⟨m,⟨o,_,_,ho,_⟩,_⟩:=I.loc
  exact free _ o (fun z=>(hch _ z).2.1 rfl) ho I.free
 ·obtain⟨v,o,ho,hd⟩:=I.cell x c e
  exact free c o (fun z=>(hch c z).2.2.1 x c e rfl) ho (I.freeC x c e)
 ·obtain⟨e,n,ne,nf,d⟩:=I.pin p hp
  have nch:p.1∉ch:=fun z=>(hch p.1 z).2.2.2 p hp rfl;exact⟨keep p.1 p.2 ne nf nch e n,free p.1 p.2 nch e n,ne,nf,d⟩
theorem Inv.un{t':Nat}(I:Inv X pins σ H s)(u:Un X.fs [] H H' s.heap h')(hok:HOk X.prog X.w H' h'):Inv X pins σ H' {s with heap:=h',toks:=t'}:=by
 obtain⟨m,⟨o,es,ep,ho,r⟩,_⟩:=id I.loc;obtain⟨sl,hL⟩:=u.any ho I.free (by simp);exact I.step (g':=s.gens) (d':=s.drawn) (ch:=[]) (fun _ z=>nomatch z) (fun b o _ hb _ e n=>u.keep b o e n hb (by simp)) (fun b o _ hb _ e n=>u.slot b o e n hb (by simp)) (fun b o _ e n=>u.free b o e n (by simp)) (fun b o _ e=>u.there b o e (by simp)) u.tups u.frzs u.tbls (fun m' hm=>by
  obtain⟨o',es',ep',ho',r'⟩:=hm;rw[ho]at ho';cases ho';exact⟨_,es',ep',hL,r'⟩) hok I.bare
theorem Inv.call{g':Array GenState}{t':Nat}{d':Drawn}{ch:List Addr}(I:Inv X pins σ H s)(u:Un (frs X.stack) ch H H' s.heap h')(hok:HOk X.prog X.w H' h')(hg:jZ g')
  (hch:∀b∈ch,(b∈X.ex\/X.s₀.heap.objs.size<=b)/\b≠X.env.locals/\(∀x c,X.env.cells.lookup x=some c->c≠b)/\∀p∈X.pn++pins,p.1≠b):
  Inv X pins σ H' {s with heap:=h',gens:=g',drawn:=d',toks:=t'}:=by
 obtain⟨m,⟨o,es,ep,ho,r⟩,_⟩:=id I.loc;obtain⟨sl,hL⟩:=u.any ho I.free fun z=>(hch _ z).2.1 rfl;exact I.step (ch:=ch) hch (fun b o hL hb hc e n=>u.keep b o e n (fun z=>(aD.mp (I.ve b z)).elim hL hb) hc) (fun b o _ _ hc e n=>u.any e n hc) (fun b o hc e n=>u.free b o e n hc) (fun b o hc e=>u.there b o e hc) u.tups u.frzs u.tbls (fun m' hm=>by
  obtain⟨o',es',ep',ho',r'⟩:=hm;rw[ho]at ho';cases ho';exact⟨_,es',ep',hL,r'⟩) hok hg
theorem Inv.turned{t':Nat}{it:Addr}(I:Inv X pins σ H s)(k:∀b o,b≠it->s.heap.get? b=some o->h'.get? b=some o)(hn:H it=none)(hL:it≠X.env.locals)
  (h1:it∈X.ex\/X.s₀.heap.objs.size<=it)(h2:∀x c,X.env.cells.lookup x=some c->c≠it)(h3:∀p∈X.pn++pins,p.1≠it):Inv X pins σ H {s with heap:=h',toks:=t'}:=by
 have nit:∀b u,H b=some u->b≠it:=fun b u e z=>by rw[z,hn]at e;cases e
 refine I.step (g':=s.gens) (d':=s.drawn) (ch:=[it]) (fun b hb=>?_) (fun b o _ _ hc e _=>k b o (fun z=>hc (by simp[z])) e) (fun b o _ _ hc e _=>⟨o.slots,k b o (fun z=>hc (by simp[z])) e⟩) (fun _ _ _ _ n=>n)
  (fun b o hc e=>⟨o,k b o (fun z=>hc (by simp[z])) e⟩) (fun _ _ e=>e) (fun _ _ _ e=>e) (fun b ps e=>⟨#[],by rw[e];simp⟩) (fun m hm=>?_) (fun b u e=>?_) I.bare
 ·have e:b=it:=by simpa using hb
  subst e;exact⟨h1,hL,h2,h3⟩
 ·obtain⟨o,es,ep,ho,r⟩:=hm
  exact⟨o,es,ep,k _ o (dg hL) ho,r⟩
 ·refine(I.hok b u e).qS (fun c v hc q=>k c v ?_ q) (fun _ q=>q) fun _ _ q=>q
  rcases hc with z|z
  ·rw[z];exact nit b u e
  ·exact nit c _ z
theorem Inv.tok(I:Inv X pins σ H s)(t:Nat):Inv X pins σ H {s with toks:=t}:=I.un (h':=s.heap) (t':=t) Un.refl I.hok
theorem Inv.kept{t':Nat}(I:Inv X pins σ H s)(k:∀b u,s.heap.get? b=some u->h'.get? b=some u):Inv X pins σ H {s with heap:=h',toks:=t'}:=I.un (Un.kept k) (I.hok.kept k)
theorem Inv.laid{a:Addr}{o:HO}{t':Nat}(I:Inv X pins σ H s)(k:∀b u,s.heap.get? b=some u->h'.get? b=some u)(hp:s.heap.objs.size<=a)(new:cZ X.prog X.w (upd H a o) h' a o):
  Inv X pins σ (upd H a o) {s with heap:=h',toks:=t'}:=I.un (Un.laid k hp (I.hok.fresh hp)) (I.hok.laid k hp new)
theorem Inv.write{x e:Addr}{o:HO}{t':Nat}(I:Inv X pins σ H s)(mu:Mut (H x))(he:e=x\/H e=some (.own x))(k:∀b u,b≠e->s.heap.get? b=some u->h'.get? b=some u)(heo:∃u,h'.get? e=some u)
  (new:cZ X.prog X.w (upd H x o) h' x o):Inv X pins σ (upd H x o) {s with heap:=h',toks:=t'}:=I.un (Un.write mu he k heo) (I.hok.write mu he k heo new)
theorem Inv.ri{pins':List (Addr×Obj)}(I:Inv X pins σ H s)(h:∀p∈pins',s.heap.get? p.1=some p.2/\H p.1=none/\p.1≠X.env.locals/\p.1∉X.fs/\∀v,p.2.data≠.cell v):Inv X pins' σ H s:=
 ⟨I.ok,I.os,I.bare,I.base,I.loc,I.cell,I.free,I.freeC,fun p hp=>(aG.mp hp).elim (fun z=>I.pin p (kU _ z)) (h p),I.hok,I.len⟩
theorem tU{N:List Str}(hN:N.Nodup){i j:Nat}{x:Str}(a:N[i]? =some x)(b:N[j]? =some x):i=j:=by
 obtain⟨h1,e1⟩:=aR.mp a;obtain⟨h2,e2⟩:=aR.mp b;exact(cW hN).mp (e1.trans e2.symm)
theorem xw{M:Model}{A:Around}{E:Value->Shared->Prop}{i:Nat}{x:Str}{v:V}{u:Value}{Q:Unit->Shared->Prop}(I:Inv X pins σ H s)(hN:X.N.Nodup)(hi:X.N[i]? =some x)(hx:Loc X.env.scope x)(r:RelV v u)
  (h:∀s',Inv X pins (σ.set i (some v)) H s'->(∃a,dy a s.heap s'.heap/\(a=X.env.locals\/X.env.cells.lookup x=some a))->Q () s')(hf:X.fn x=true\/X.env.scope.names.lookup x=some .local:=by first |exact .inl rfl|exact .inr rfl|assumption):wpAny M A (storeName X.env x u) Q E s:=by
 obtain⟨m,hn,hl⟩:=id I.loc;have hcls:(X.env.scope.kind== .class||(X.env.scope.kind== .module&&X.env.locals != X.env.globals))=false:=by rw[I.ok.kind];rfl
 have hiσ:i<σ.length:=by rw[I.len];exact(aR.mp hi).1
 have cne:=I.cne;have tracked:∀{a:Addr}{h':Heap},(∃o,s.heap.get? a=some o/\H a=none)->dy a s.heap h'->HOk X.prog X.w H h':=fun{a h'} ha hs b ob e=>by
  obtain⟨_,_,hfree⟩:=ha;refine(I.hok b ob e).qS (fun c w' hc q=>(hs.2 c ?_).trans q) (fun _ q=>q) fun _ _ q=>q;rintro rfl;rcases hc with rfl|hc
  ·rw[hfree]at e;cases e
  ·rw[hfree]at hc;cases hc
 rcases hx with hk|hk
 ·refine wpAny_storeName_local hk hn (fun h' hn' hs=>?_) hcls
  obtain⟨oL,_,_,hoL,_⟩:=id hn;refine h _ ⟨I.ok,I.os,I.bare,⟨fun b o e n hb hx=>?_,fun b o e n hb hx=>?_,I.base.free,fun b o e hx=>?_,I.base.tups,I.base.frzs,I.base.tbls⟩,⟨_,hn',fun j y v' e1 e2 e3=>?_⟩,fun y c e=>?_,I.free,I.freeC,fun p hp=>?_,tracked ⟨oL,hoL,I.free⟩ hs,by simpa using I.len⟩ ⟨_,hs,.inl rfl⟩
  ·exact(hs.2 b (aH (aO (ay e) I.ok.above))).trans (I.base.keep b o e n hb hx)
  ·obtain⟨sl,e1⟩:=I.base.slot b o e n hb hx
   exact⟨sl,(hs.2 b (aH (aO (ay e) I.ok.above))).trans e1⟩
  ·obtain⟨o',e1⟩:=I.base.there b o e hx
   exact⟨o',(hs.2 b (aH (aO (ay e) I.ok.above))).trans e1⟩
  ·by_cases hj:j=i
   ·subst hj
    rw[hi]at e1;cases e1;rw[xn hiσ]at e2;cases e2;exact⟨u,r,.inl ⟨hk,by simp⟩⟩
   ·rw[yP (dg hj)]at e2
    obtain⟨u',r',q⟩:=hl j y v' e1 e2 e3;refine⟨u',r',?_⟩;rcases q with⟨k,e⟩ |⟨k,c,e,z⟩
    ·refine .inl ⟨k,?_⟩
     have :y≠x:=fun e=>hj (tU hN e1 (e▸hi));simp[this,e]
    ·exact .inr ⟨k,c,e,z.sameBut hs (cne y c e)⟩
  ·obtain⟨w',z⟩:=I.cell y c e
   exact⟨w',z.sameBut hs (cne y c e)⟩
  ·obtain⟨e,n,ne,nf,d⟩:=I.pin p hp
   exact⟨(hs.2 p.1 ne).trans e,n,ne,nf,d⟩
 ·have hfn:X.fn x=true:=by
   rcases hf with z|z
   ·exact z
   ·rw[z]at hk;cases hk
  obtain⟨c,hc⟩:=I.ok.has x (.inl hk);obtain⟨w',z⟩:=I.cell x c hc;refine wpAny_storeName_cell I.ok.kind hk hc z (fun h' hc' hs=>?_);obtain⟨oc,hoc,hocd⟩:=id z;refine h {s with heap:=h'} ⟨I.ok,I.os,I.bare,⟨fun b o e n hb hx=>?_,fun b o e n hb hx=>?_,I.base.free,fun b o e hx=>?_,I.base.tups,I.base.frzs,I.base.tbls⟩,⟨m,hn.sameBut hs (dg (cne x c hc)),fun j y v' e1 e2 e3=>?_⟩,fun y c' e=>?_,I.free,I.freeC,fun p hp=>?_,tracked ⟨oc,hoc,I.freeC x c hc⟩ hs,by simpa using I.len⟩ ⟨c,hs,.inr hc⟩
  ·exact(hs.2 b (aH (aO (ay e) (I.ok.cab x c hfn hc)))).trans (I.base.keep b o e n hb hx)
  ·obtain⟨sl,e1⟩:=I.base.slot b o e n hb hx
   exact⟨sl,(hs.2 b (aH (aO (ay e) (I.ok.cab x c hfn hc)))).trans e1⟩
  ·obtain⟨o',e1⟩:=I.base.there b o e hx
   exact⟨o',(hs.2 b (aH (aO (ay e) (I.ok.cab x c hfn hc)))).trans e1⟩
  ·by_cases hj:j=i
   ·subst hj
    rw[hi]at e1;cases e1;rw[xn hiσ]at e2;cases e2;exact⟨u,r,.inr ⟨.inl hk,c,hc,hc'⟩⟩
   ·rw[yP (dg hj)]at e2
    obtain⟨u',r',q⟩:=hl j y v' e1 e2 e3;refine⟨u',r',?_⟩;rcases q with q|⟨k,c',e,z'⟩
    ·exact .inl q
    ·refine .inr ⟨k,c',e,z'.sameBut hs ?_⟩
     rintro rfl;exact hj (tU hN e1 (I.ok.inj _ _ _ e hc▸hi))
  ·by_cases hcc:c'=c
   ·subst hcc;exact⟨_,hc'⟩
   ·obtain⟨w2,z2⟩:=I.cell y c' e
    exact⟨w2,z2.sameBut hs hcc⟩
  ·obtain⟨e,n,ne,nf,d⟩:=I.pin p hp
   refine⟨(hs.2 p.1 ?_).trans e,n,ne,nf,d⟩;intro q;rw[q,hoc]at e;have q':oc=p.2:=bz e;exact d w' (by rw[<-q'];exact hocd)
theorem sZ{M:Model}{A:Around}{E:Value->Shared->Prop}{i:Nat}{x:Str}{v:V}{u:Value}{Q:Unit->Shared->Prop}(I:Inv X pins σ H s)(hN:X.N.Nodup)(hi:X.N[i]? =some x)(hx:Loc X.env.scope x)(r:RelV v u)
  (h:∀s',Inv X pins (σ.set i (some v)) H s'->Q () s')(hf:X.fn x=true\/X.env.scope.names.lookup x=some .local:=by first |exact .inl rfl|exact .inr rfl|assumption):wpAny M A (storeName X.env x u) Q E s:=
 xw I hN hi hx r (fun s' I' _=>h s' I') hf
theorem Inv.call'{s':Shared}{ch:List Addr}(I:Inv X pins σ H s)(ho:s'.os=s.os)(u:Un (frs X.stack) ch H H' s.heap s'.heap)(hok:HOk X.prog X.w H' s'.heap)(hg:jZ s'.gens)
  (hch:∀b∈ch,(b∈X.ex\/X.s₀.heap.objs.size<=b)/\b≠X.env.locals/\(∀x c,X.env.cells.lookup x=some c->c≠b)/\∀p∈X.pn++pins,p.1≠b):Inv X pins σ H' s':=by
 obtain⟨h',g',d',t',o'⟩:=s';have e:o'=s.os:=ho;subst e;exact I.call (g':=g') (t':=t') (d':=d') u hok hg hch
end
noncomputable abbrev XK:=Value->Option Addr->Hp->Prop
noncomputable abbrev St:=List (Option V)
noncomputable abbrev VK:=V->Hp->Prop
noncomputable abbrev TE:=St->Hp->VK->Prop
noncomputable abbrev TT:=St->Hp->(Bool->Hp->Prop)->Prop
noncomputable abbrev TA:=St->Hp->(List V->Hp->Prop)->Prop
structure Ends where
 nx:St->Hp->Prop
 rt:VK
 bk:St->Hp->Prop:=fun _ _=>False
 ct:St->Hp->Prop:=fun _ _=>False
noncomputable abbrev TS:=Ends->St->Hp->Prop
noncomputable def EP(X:Cx)(pins:List (Addr×Obj))(σ:St)(Q:VK)(u:Value)(s':Shared):Prop:=∃v H',Inv X pins σ H' s'/\RelV v u/\Q v H'
noncomputable def TP(X:Cx)(pins:List (Addr×Obj))(σ:St)(Q:Bool->Hp->Prop)(b:Bool)(s':Shared):Prop:=∃H',Inv X pins σ H' s'/\Q b H'
noncomputable def AP(X:Cx)(pins:List (Addr×Obj))(σ:St)(Q:List V->Hp->Prop)(us:List Value)(s':Shared):Prop:=∃vs H',Inv X pins σ H' s'/\bJ vs us/\Q vs H'
noncomputable def SP(X:Cx)(pins:List (Addr×Obj))(D:Ends)(f:Flow)(s':Shared):Prop:=
 match f with
 |.next=>∃σ' H',Inv X pins σ' H' s'/\D.nx σ' H'
 |.brk=>∃σ' H',Inv X pins σ' H' s'/\D.bk σ' H'
 |.cont=>∃σ' H',Inv X pins σ' H' s'/\D.ct σ' H'
 |.ret u=>∃v σ' H',Inv X pins σ' H' s'/\RelV v u/\D.rt v H'
noncomputable def PE(X:Cx)(e:Expr)(t:TE):Prop:=
 ∀(pins:List (Addr×Obj))(s:Shared)(σ:St)(H:Hp)(Q:VK),Inv X pins σ H s->t σ H Q->wpAny (model X.prog X.w) X.A (eval e X.env) (EP X pins σ Q) X.xe s
noncomputable def PT(X:Cx)(e:Expr)(t:TT):Prop:=
 ∀(pins:List (Addr×Obj))(s:Shared)(σ:St)(H:Hp)(Q:Bool->Hp->Prop),Inv X pins σ H s->t σ H Q->wpAny (model X.prog X.w) X.A (isTrue e X.env (eval e X.env)) (TP X pins σ Q) X.xe s
noncomputable def PW(X:Cx)(e:Expr)(t:TT):Prop:=
 ∀(whole:Sem Value)(pins:List (Addr×Obj))(s:Shared)(σ:St)(H:Hp)(Q:Bool->Hp->Prop),Inv X pins σ H s->t σ H Q->wpAny (model X.prog X.w) X.A (isTrue e X.env whole) (TP X pins σ Q) X.xe s
theorem PW.pt{X:Cx}{e:Expr}{t:TT}(h:PW X e t):PT X e t:=h _
noncomputable def PA(X:Cx)(es:List Expr)(t:TA):Prop:=
 ∀(pos:Pos)(pins:List (Addr×Obj))(s:Shared)(σ:St)(H:Hp)(Q:List V->Hp->Prop),Inv X pins σ H s->t σ H Q->wpAny (model X.prog X.w) X.A (spliced (backTo pos (bp es X.env))) (AP X pins σ Q) X.xe s
noncomputable def PS(X:Cx)(st:Stmt)(t:TS):Prop:=
 ∀(pins:List (Addr×Obj))(s:Shared)(σ:St)(H:Hp)(D:Ends),Inv X pins σ H s->t D σ H->wpAny (model X.prog X.w) X.A (exec st X.env) (SP X pins D) X.xe s
noncomputable def PSs(X:Cx)(st:List Stmt)(t:TS):Prop:=
 ∀(pins:List (Addr×Obj))(s:Shared)(σ:St)(H:Hp)(D:Ends),Inv X pins σ H s->t D σ H->wpAny (model X.prog X.w) X.A (execs st X.env) (SP X pins D) X.xe s
theorem thn{α:Type}{t:Sem α}{Q Q':α->Shared->Prop}{M:Model}{A:Around}{E:Value->Shared->Prop}{s:Shared}(h:wpAny M A t Q E s)(hQ:∀a s,Q a s->Q' a s):wpAny M A t Q' E s:=dz h hQ fun _ _ x=>x
section
variable {X:Cx}
noncomputable def nW(i:Nat):TE:=fun σ H Q=>∃v,σ[i]? =some (some v)/\Q v H
noncomputable def tC(v:V):TE:=fun _ H Q=>Q v H
theorem pe_var{i:Nat}{x:Str}{pos:Pos}(hN:X.N[i]? =some x)(hv:Vis X.env.scope x)(hd:(x==("__debug__":Str))=false:=by decide) (hcd:(x==("__classdict__":Str))=false:=by decide):PE X (.Name x pos) (nW i):=by
 intro pins s σ H Q I h;obtain⟨v,e,h⟩:=h;obtain⟨m,hn,hl⟩:=I.loc;obtain⟨u,r,l⟩:=hl i x v hN e hv;have fin:EP X pins σ Q u s:=⟨v,H,I,r,h⟩;rcases l with⟨hk,hm⟩ |⟨hk,c,hc,hcell⟩
 ·exact wpAny_Name (wpAny_loadName_local I.ok.kind hk hn hm fin) hd
 ·rcases hk with hk|hk
  ·exact wpAny_Name (wpAny_loadName_cell I.ok.kind hk hc hcell fin) hd
  ·exact wpAny_Name (wpAny_loadName_free I.ok.kind hk hc hcell fin hcd) hd
theorem z8{i j pos}:PE X (.Constant (.int i) j pos) (tC (.int i)):=fun _ _ _ H _ I h=>wpAny_Constant_int ⟨.int i,H,I.tok _,⟨_,rfl⟩,h⟩
theorem pe_bl{b j pos}:PE X (.Constant (.bool b) j pos) (tC (.bl b)):=fun _ _ _ H _ I h=>Constant_bool ⟨.bl b,H,I,rfl,h⟩
theorem pe_non{j pos}:PE X (.Constant .none j pos) (tC .non):=fun _ _ _ H _ I h=>Constant_none ⟨.non,H,I,rfl,h⟩
theorem pe_str{x j pos}:PE X (.Constant (.str x) j pos) (tC (.str x)):=fun _ _ _ H _ I h=>Calls.Constant_str ⟨.str x,H,I.tok _,⟨_,rfl⟩,h⟩
noncomputable def Gl(X:Cx)(x:Str):Prop:=X.env.kindOf x=some .globalImplicit
theorem nJ{E:Value->Shared->Prop}{pins:List (Addr×Obj)}{s:Shared}{σ:St}{H:Hp}{x:Str}{u:Value}{pos:Pos}{Q:Value->Shared->Prop}(I:Inv X pins σ H s)(hg:Gl X x)(hm:X.mg x=some u)(h:Q u s)
  (hd:(x==("__debug__":Str))=false:=by decide):wpAny (model X.prog X.w) X.A (eval (.Name x pos) X.env) Q E s:=
 sv I.ok.kind hg (Calls.loadGlobal_global (by rw[I.ok.glob];exact I.mod.glob.keeps I.bk) hm h) hd
theorem iV{E:Value->Shared->Prop}{pins:List (Addr×Obj)}{s:Shared}{σ:St}{H:Hp}{x:Str}{u:Value}{pos:Pos}{Q:Value->Shared->Prop}(I:Inv X pins σ H s)(hg:Gl X x)(hm:X.mg x=none)(hv:dD x=some u)(h:Q u s)
  (hn:x≠"__name__":=by decide) (hd:(x==("__debug__":Str))=false:=by decide):wpAny (model X.prog X.w) X.A (eval (.Name x pos) X.env) Q E s:=by
 obtain⟨mb,h1,h2⟩:=I.mod.blt;exact sv I.ok.kind hg (Calls.loadGlobal_builtin (by rw[I.ok.glob];exact I.mod.glob.keeps I.bk) hm (by rw[I.ok.blt];exact h1.keeps I.bk) ((h2 x hn).trans hv) h) hd
theorem pe_glob{x:Str}{v:V}{u:Value}{pos:Pos}(hg:Gl X x)(hm:X.mg x=some u)(r:RelV v u)(hd:(x==("__debug__":Str))=false:=by decide):PE X (.Name x pos) (tC v):=
 fun _ _ _ H _ I h=>nJ I hg hm ⟨v,H,I,r,h⟩ hd
theorem pe_bltn{x:Str}{v:V}{u:Value}{pos:Pos}(hg:Gl X x)(hm:X.mg x=none)(hv:dD x=some u)(r:RelV v u)(hn:x≠"__name__":=by decide) (hd:(x==("__debug__":Str))=false:=by decide):PE X (.Name x pos) (tC v):=
 fun _ _ _ H _ I h=>iV I hg hm hv ⟨v,H,I,r,h⟩ hn hd
variable {a b:Expr}{ta tb:TE}{pos:Pos}
noncomputable def PC(X:Cx)(op:CmpOp)(a b:Expr)(t:TE):Prop:=
 ∀(pins:List (Addr×Obj))(s:Shared)(σ:St)(H:Hp)(Q:VK),Inv X pins σ H s->t σ H Q->
  wpAny (model X.prog X.w) X.A (eval a X.env) (fun v s₁=>wpAny (model X.prog X.w) X.A (eval b X.env) (fun u s₂=>wpAny (model X.prog X.w) X.A (cc op v u) (EP X pins σ Q) X.xe s₂) X.xe s₁) X.xe s
noncomputable def tB(t:TE):TT:=fun σ H Q=>t σ H fun x H1=>∃c,x=.bl c/\Q c H1
theorem Ac{op:CmpOp}{t:TE}(h:PC X op a b t)(h1:j8 op b=false:=by first |exact nobehind _ (by decide) (by decide) |rfl):PE X (.Compare a [op] [b] pos) t:=fun pins s σ H Q I hw=>wpAny_Compare1 (h pins s σ H Q I hw) h1
theorem zR{op:CmpOp}{t:TE}(h:PC X op a b t)(h1:j8 op b=false:=by first |exact nobehind _ (by decide) (by decide) |rfl):PT X (.Compare a [op] [b] pos) (tB t):=by
 intro pins s σ H Q I hw;refine wpAny_isTrue_Compare1 (thn (h pins s σ H _ I hw) fun v s1 h1=>thn h1 fun u s2 h2=>thn h2 fun c s3 ⟨x,H1,I1,r1,q1⟩=>?_) h1;obtain⟨d,rfl,q⟩:=q1;cases r1;exact cE ⟨H1,I1,q⟩
variable {tA tB':TT}{rest:List Expr}
noncomputable def tAnd(t u:TT):TT:=fun σ H Q=>t σ H fun c H1=>if c=true then u σ H1 Q else Q false H1
noncomputable def tOr(t u:TT):TT:=fun σ H Q=>t σ H fun c H1=>if c=true then Q true H1 else u σ H1 Q
noncomputable def tNot(t:TT):TT:=fun σ H Q=>t σ H fun c H1=>Q (!c) H1
theorem pw_and1(ha:PT X a tA):PW X (.BoolOp .And [a] pos) tA:=by
 intro wh pins s σ H Q I h;refine isTrue_and (thn (ha pins s σ H Q I h) fun c s1 e=>?_);cases c with
 |true=>exact isTrue_and_nil e
 |false=>exact e
theorem pw_or1(ha:PT X a tA):PW X (.BoolOp .Or [a] pos) tA:=by
 intro wh pins s σ H Q I h;refine isTrue_or (thn (ha pins s σ H Q I h) fun c s1 e=>?_);cases c with
 |false=>exact isTrue_or_nil e
 |true=>exact e
theorem zO(ha:PT X a tA)(hb:PW X (.BoolOp .And (b::rest) pos) tB'):PW X (.BoolOp .And (a::b::rest) pos) (tAnd tA tB'):=by
 intro wh pins s σ H Q I h;refine isTrue_and (thn (ha pins s σ H _ I h) fun c s1 ⟨H1,I1,q1⟩=>?_);cases c with
 |true=>exact hb wh pins s1 σ H1 Q I1 q1
 |false=>exact⟨H1,I1,q1⟩
theorem pw_or(ha:PT X a tA)(hb:PW X (.BoolOp .Or (b::rest) pos) tB'):PW X (.BoolOp .Or (a::b::rest) pos) (tOr tA tB'):=by
 intro wh pins s σ H Q I h;refine isTrue_or (thn (ha pins s σ H _ I h) fun c s1 ⟨H1,I1,q1⟩=>?_);cases c with
 |true=>exact⟨H1,I1,q1⟩
 |false=>exact hb wh pins s1 σ H1 Q I1 q1
theorem pt_not(ha:PT X a tA):PT X (.UnaryOp .Not a pos) (tNot tA):=by
 intro pins s σ H Q I h;exact isTrue_not (ha pins s σ H (fun c H1=>Q (!c) H1) I h)
noncomputable def zh(ta tb:TE):TE:=fun σ H Q=>ta σ H fun x H1=>∃c,x=.bl c/\if c=true then tb σ H1 Q else Q (.bl false) H1
noncomputable def tOrV(ta tb:TE):TE:=fun σ H Q=>ta σ H fun x H1=>∃c,x=.bl c/\if c=true then Q (.bl true) H1 else tb σ H1 Q
noncomputable def zb(ta:TE):TE:=fun σ H Q=>ta σ H fun x H1=>∃c,x=.bl c/\Q (.bl (!c)) H1
theorem z7{op}{t:TE}(h:PE X a t):PE X (.BoolOp op [a] pos) t:=fun pins s σ H Q I hw=>BoolOp_one (h pins s σ H Q I hw)
theorem Ag(ha:PE X a ta)(hb:PE X (.BoolOp .And (b::rest) pos) tb):PE X (.BoolOp .And (a::b::rest) pos) (zh ta tb):=by
 intro pins s σ H Q I h;refine BoolOp_and (thn (ha pins s σ H _ I h) fun v s1 ⟨x,H1,I1,r1,q1⟩=>?_);obtain⟨c,rfl,q1⟩:=q1;cases r1;refine cE ?_;cases c with
 |true=>exact hb pins s1 σ H1 Q I1 q1
 |false=>exact⟨.bl false,H1,I1,rfl,q1⟩
theorem pe_or(ha:PE X a ta)(hb:PE X (.BoolOp .Or (b::rest) pos) tb):PE X (.BoolOp .Or (a::b::rest) pos) (tOrV ta tb):=by
 intro pins s σ H Q I h;refine BoolOp_or (thn (ha pins s σ H _ I h) fun v s1 ⟨x,H1,I1,r1,q1⟩=>?_);obtain⟨c,rfl,q1⟩:=q1;cases r1;refine cE ?_;cases c with
 |false=>exact hb pins s1 σ H1 Q I1 q1
 |true=>exact⟨.bl true,H1,I1,rfl,q1⟩
theorem pe_not(ha:PE X a ta):PE X (.UnaryOp .Not a pos) (zb ta):=by
 intro pins s σ H Q I h;refine UnaryOp_ (thn (ha pins s σ H _ I h) fun v s1 ⟨x,H1,I1,r1,q1⟩=>?_);obtain⟨c,rfl,q1⟩:=q1;cases r1;exact not_of (cE ⟨.bl (!c),H1,I1,rfl,q1⟩)
noncomputable def tIf(t:TT)(ta tb:TE):TE:=fun σ H Q=>t σ H fun c H1=>if c=true then ta σ H1 Q else tb σ H1 Q
theorem z9{c:Expr}(hc:PT X c tA)(ha:PE X a ta)(hb:PE X b tb):PE X (.IfExp c a b pos) (tIf tA ta tb):=by
 intro pins s σ H Q I h;refine wpAny_IfExp (thn (hc pins s σ H _ I h) fun d s1 ⟨H1,I1,q1⟩=>?_);cases d with
 |true=>exact ha pins s1 σ H1 Q I1 q1
 |false=>exact hb pins s1 σ H1 Q I1 q1
end
noncomputable def SqL(K:aa)(H:Hp)(a:Addr)(xs:List V):Prop:=
 Rd H a (.lst xs)\/
  ∃(o:Obj)(its:Array Value)(n:Nat),K.lookup a=some o/\o.cls=.type "list"/\o.dict=none/\o.data=.seq its n/\its.size<=sizeLine/\bJ xs its.toList
noncomputable def SqT(K:aa)(H:Hp)(a:Addr)(xs:List V):Prop:=
 Rd H a (.tup xs)\/
  ∃(o:Obj)(its:Array Value)(n:Nat),K.lookup a=some o/\o.cls=.type "tuple"/\o.data=.seq its n/\its.size<=sizeLine/\bJ xs its.toList
noncomputable def absV:Value->Option V
 |.none=>some .non
 |.bool b=>some (.bl b)
 |.int i _=>some (.int i)
 |.str x _=>some (.str x)
 |.bytes b _=>some (.byt b)
 |.float b _=>some (.flt b)
 |.ref a=>some (.ref a)
 |.type n=>some (.ty n)
 |_=>none
theorem RelV.abs{x:V}{u:Value}(r:RelV x u):absV u=some x:=by
 cases x with
 |non=>cases r;rfl
 |bl _=>cases r;rfl
 |int _=>obtain⟨t,rfl⟩:=r;rfl
 |str _=>obtain⟨t,rfl⟩:=r;rfl
 |byt _=>obtain⟨t,rfl⟩:=r;rfl
 |flt _=>obtain⟨t,rfl⟩:=r;rfl
 |ref _=>cases r;rfl
 |ty _=>cases r;rfl
theorem RelV.inj{x y:V}{u:Value}(r:RelV x u)(q:RelV y u):x=y:=bz (r.abs.symm.trans q.abs)
theorem bJ.inj{xs ys:List V}{us:List Value}(h:bJ xs us):bJ ys us->xs=ys:=by
 induction h generalizing ys with
 |nil=>intro k;cases k;rfl
 |cons r k ih=>
  intro w;cases w with
  |cons r' w'=>rw[r.inj r',ih w']
section
variable {X:Cx}{pins:List (Addr×Obj)}{σ:St}{H:Hp}{s:Shared}{a:Addr}{xs ys:List V}
theorem SqL.of{K:aa}(h:H a=some (.lst xs)):SqL K H a xs:=.inl (.inl h)
theorem SqT.of{K:aa}(h:H a=some (.tup xs)):SqT K H a xs:=.inl (.inl h)
theorem Inv.list(I:Inv X pins σ H s)(h:SqL X.K H a xs):∃its:List Value,bJ xs its/\PlainL s.heap a its.toArray/\xs.length<=sizeLine:=by
 rcases h with h|⟨o,its,n,hk,hc,hd,hs,hz,r⟩
 ·obtain⟨z,its,n,r,e⟩:=h.ok I.hok
  exact⟨its,r,⟨_,n,e,rfl,rfl,rfl⟩,z⟩
 ·refine⟨its.toList,r,⟨o,n,I.kIn a o hk,hc,hd,by simpa using hs⟩,?_⟩
  have e:=r.length;simp only[ax]at e;omega
theorem Inv.tuple(I:Inv X pins σ H s)(h:SqT X.K H a xs):∃its:List Value,bJ xs its/\IsTup s.heap a its.toArray/\xs.length<=sizeLine:=by
 rcases h with h|⟨o,its,n,hk,hc,hs,hz,r⟩
 ·obtain⟨z,its,r,p⟩:=h.ok I.hok
  exact⟨its,r,p,z⟩
 ·refine⟨its.toList,r,⟨o,I.kIn a o hk,hc,n,by simpa using hs⟩,?_⟩
  have e:=r.length;simp only[ax]at e;omega
theorem Inv.t4(I:Inv X pins σ H s)(h:SqL X.K H a xs)(h':SqL X.K H a ys):xs=ys:=by
 obtain⟨its,r,⟨o,n,e,_,_,d⟩,_⟩:=I.list h;obtain⟨its',r',⟨o',n',e',_,_,d'⟩,_⟩:=I.list h';rw[e]at e';cases e';rw[d]at d';injection d' with d1 _
 have :its=its':=by simpa using congrArg Array.toList d1
 subst this;exact r.inj r'
theorem Inv.qa(I:Inv X pins σ H s)(h:SqT X.K H a xs)(h':SqT X.K H a ys):xs=ys:=by
 obtain⟨its,r,⟨o,e,_,n,d⟩,_⟩:=I.tuple h;obtain⟨its',r',⟨o',e',_,n',d'⟩,_⟩:=I.tuple h';rw[e]at e';cases e';rw[d]at d';injection d' with d1 _
 have :its=its':=by simpa using congrArg Array.toList d1
 subst this;exact r.inj r'
end
section
variable {X:Cx}{st:Stmt}{rest:List Stmt}{t u:TS}{e:Expr}{te:TE}{pos:Pos}
noncomputable def sV:TS:=fun D σ H=>D.nx σ H
noncomputable def tSeq(t u:TS):TS:=fun D σ H=>t {D with nx:=u D} σ H
theorem pss_nil:PSs X [] sV:=fun _ _ σ H _ I h=>wa ⟨σ,H,I,h⟩
theorem zT(h1:PS X st t)(h2:PSs X rest u):PSs X (st::rest) (tSeq t u):=by
 intro pins s σ H D I h;refine wpAny_execs_cons (thn (h1 pins s σ H {D with nx:=u D} I h) fun f s1 q=>?_);cases f with
 |next =>
  obtain⟨σ',H',I',q⟩:=q;exact h2 pins s1 σ' H' D I' q
 |ret v=>exact q
 |brk=>exact q
 |cont=>exact q
noncomputable def zg:TS:=fun D σ H=>D.bk σ H
noncomputable def tCont:TS:=fun D σ H=>D.ct σ H
theorem ps_pass:PS X (.Pass pos) sV:=fun _ _ σ H _ I h=>wpAny_Pass ⟨σ,H,I,h⟩
theorem zW:PS X (.Break pos) zg:=fun _ _ σ H _ I h=>wpAny_Break ⟨σ,H,I,h⟩
theorem tH:PS X (.Continue pos) tCont:=fun _ _ σ H _ I h=>wpAny_Continue ⟨σ,H,I,h⟩
theorem Inv.quiet{pins:List (Addr×Obj)}{σ:St}{H:Hp}{s:Shared}(I:Inv X pins σ H s):interactive X.env=false:=by simp[interactive,I.ok.kind]
noncomputable def zd(te:TE):TS:=fun D σ H=>te σ H fun _ H1=>D.nx σ H1
theorem ps_expr(he:PE X e te)(hs:kO e none pos.line X.env=pure false:=by rfl):PS X (.Expr e pos) (zd te):=by
 intro pins s σ H D I h;exact wpAny_Expr_any (thn (he pins s σ H _ I h) fun v s1 ⟨x,H1,I1,r1,q1⟩=>⟨σ,H1,I1,q1⟩) I.quiet hs
noncomputable def tRet(te:TE):TS:=fun D σ H=>te σ H D.rt
theorem ps_ret(he:PE X e te):PS X (.Return (some e) pos) (tRet te):=by
 intro pins s σ H D I h;exact wpAny_Return_some (thn (he pins s σ H _ I h) fun v s1 ⟨x,H1,I1,r1,q1⟩=>⟨x,σ,H1,I1,r1,q1⟩)
noncomputable def y9:TS:=fun D _ H=>D.rt .non H
theorem ps_retN:PS X (.Return none pos) y9:=fun _ _ σ H _ I h=>wpAny_Return_none ⟨.non,σ,H,I,rfl,h⟩
noncomputable def tIfS(c:TT)(t u:TS):TS:=fun D σ H=>c σ H fun b H1=>if b=true then t D σ H1 else u D σ H1
theorem ps_if{c:Expr}{a b:List Stmt}{tc:TT}(hc:PT X c tc)(ha:PSs X a t)(hb:PSs X b u):PS X (.If c a b pos) (tIfS tc t u):=by
 intro pins s σ H D I h;refine wpAny_If (thn (hc pins s σ H _ I h) fun d s1 ⟨H1,I1,q1⟩=>?_);cases d with
 |true=>exact ha pins s1 σ H1 D I1 q1
 |false=>exact hb pins s1 σ H1 D I1 q1
end
noncomputable abbrev TG:=V->St->Hp->(St->Hp->Prop)->Prop
noncomputable abbrev TGs:=List V->St->Hp->(St->Hp->Prop)->Prop
noncomputable def PG(X:Cx)(target:Expr)(t:TG):Prop:=
 ∀(pins:List (Addr×Obj))(s:Shared)(σ:St)(H:Hp)(v:V)(u:Value)(Q:St->Hp->Prop),Inv X pins σ H s->RelV v u->t v σ H Q->
  wpAny (model X.prog X.w) X.A (assign target X.env u) (fun _ s'=>∃σ' H',Inv X pins σ' H' s'/\Q σ' H') X.xe s
noncomputable def PGs(X:Cx)(ts:List Expr)(t:TGs):Prop:=
 ∀(pins:List (Addr×Obj))(s:Shared)(σ:St)(H:Hp)(vs:List V)(us:List Value)(Q:St->Hp->Prop),Inv X pins σ H s->bJ vs us->t vs σ H Q->
  wpAny (model X.prog X.w) X.A (assignInOrder ((fk ts X.env).map (·.2)) us) (fun _ s'=>∃σ' H',Inv X pins σ' H' s'/\Q σ' H') X.xe s
section
variable {X:Cx}{pos:Pos}
noncomputable def lp(i:Nat):TG:=fun v σ H Q=>Q (σ.set i (some v)) H
theorem wG{i:Nat}{x:Str}(hN:X.N.Nodup)(hi:X.N[i]? =some x)(hx:Loc X.env.scope x)(hf:X.fn x=true\/X.env.scope.names.lookup x=some .local:=by first |exact .inl rfl|exact .inr rfl|assumption):PG X (.Name x pos) (lp i):=by
 intro pins s σ H v u Q I r h;exact wpAny_assign_Name (sZ I hN hi hx r (fun s' I'=>⟨_,H,I',h⟩) hf)
noncomputable def gNil:TGs:=fun vs σ H Q=>vs=[]/\Q σ H
noncomputable def ui(t:TG)(u:TGs):TGs:=fun vs σ H Q=>∃v r,vs=v::r/\t v σ H fun σ' H'=>u r σ' H' Q
theorem pgs_nil:PGs X [] gNil:=by
 intro pins s σ H vs us Q I r h;obtain⟨e,h⟩:=h;subst e;cases r;exact assignInOrder_nil ⟨σ,H,I,h⟩
theorem zZ{e:Expr}{es:List Expr}{t:TG}{u:TGs}(h1:PG X e t)(h2:PGs X es u)
  (hs:(fk (e::es) X.env).map (·.2)=assign e X.env::(fk es X.env).map (·.2):=by rfl):PGs X (e::es) (ui t u):=by
 intro pins s σ H vs us Q I r h;obtain⟨v,vr,e1,h⟩:=h;subst e1;cases r with
 |cons r rr=>
  rw[hs];refine assignInOrder_cons (thn (h1 pins s σ H _ _ _ I r h) fun _ s1 ⟨σ1,H1,I1,q1⟩=>?_);exact h2 pins s1 σ1 H1 _ _ Q I1 rr q1
noncomputable def gTup(K:aa)(n:Nat)(t:TGs):TG:=fun v σ H Q=>∃a xs,v=.ref a/\SqT K H a xs/\xs.length=n/\t xs σ H Q
theorem pg_tup{es:List Expr}{k:Nat}{t:TGs}{n:Nat}(hc:X.calm=true)(h:PGs X es t)
  (hn:(fk es X.env).length=n:=by rfl) (hst:(fk es X.env).findIdx? (·.1)=none:=by rfl):PG X (.Tuple es k pos) (gTup X.K n t):=by
 intro pins s σ H v u Q I r hw;obtain⟨a,xs,e1,hq,hl,hw⟩:=hw;subst e1;cases r;obtain⟨its,rv,ht,hz⟩:=I.tuple hq;refine assign_Tuple_tuple (I.ok.hd hc) ht (by simp[hn,<-hl,rv.length]) hst fun h' hx=>?_;have I1:Inv X pins σ H {s with heap:=h'}:=I.kept (t':=s.toks) fun b o e=>hx b o (aH (ay e)) e;exact h pins _ σ H xs _ Q I1 (by simpa using rv) hw
noncomputable def xu(te:TE)(g:TG):TS:=fun D σ H=>te σ H fun x H1=>g x σ H1 D.nx
theorem ps_asg{tg e:Expr}{te:TE}{g:TG}(he:PE X e te)(hg:PG X tg g)(hs:swapsWithSole [tg] e pos.line X.env=pure false:=by rfl) (hw:swappedStores [tg] e X.env=pure none:=by rfl)
  (h1:(fk [tg] X.env).map (·.2)=[assign tg X.env]:=by rfl):PS X (.Assign [tg] e pos) (xu te g):=by
 intro pins s σ H D I h;refine wpAny_Assign_stores (thn (he pins s σ H _ I h) fun v s1 ⟨x,H1,I1,r1,q1⟩=>?_) hs hw;rw[h1];exact thn (hg pins s1 σ H1 x v _ I1 r1 q1) fun _ s2 q=>q
theorem ps_set{i:Nat}{x:Str}{e:Expr}{te:TE}{pos':Pos}(hN:X.N.Nodup)(hi:X.N[i]? =some x)(hx:Loc X.env.scope x)(he:PE X e te)(hs:kO e (some (.Name x pos')) pos.line X.env=pure false:=by rfl) (hf:X.fn x=true\/X.env.scope.names.lookup x=some .local:=by first |exact .inl rfl|exact .inr rfl|assumption):
  PS X (.Assign [.Name x pos'] e pos) (xu te (lp i)):=by
 intro pins s σ H D I h;refine wpAny_Assign_Name (thn (he pins s σ H _ I h) fun v s1 ⟨y,H1,I1,r1,q1⟩=>?_) hs;exact sZ I1 hN hi hx r1 (fun s2 I2=>⟨_,H1,I2,q1⟩) hf
end
section
variable {X:Cx}{pos:Pos}
noncomputable def y8(c:TT)(tb:TS):TS:=fun D σ H=>∃W:Nat->St->Hp->Prop,(∃m,W m σ H)/\∀m σ H,W m σ H->
 c σ H fun b H1=>if b=true then ∃N:St->Hp->Prop,(∀σ' H',N σ' H'->∃m',m'<m/\W m' σ' H')/\tb {D with nx:=N,ct:=N,bk:=D.nx} σ H1 else D.nx σ H1
theorem zU{c:Expr}{body:List Stmt}{tc:TT}{tb:TS}(hp:PassesOwn (model X.prog X.w) X.A X.env X.xe)(hc:PT X c tc)(hb:PSs X body tb):PS X (.While c body [] pos) (y8 tc tb):=by
 intro pins s σ H D I h;obtain⟨W,⟨m0,w0⟩,turn⟩:=h;refine wpAny_While (codeAny_whileLoop (fun n s'=>∃σ' H',Inv X pins σ' H' s'/\W n σ' H') ?_ m0 ⟨σ,H,I,w0⟩);rintro n s1 ⟨σ1,H1,I1,w1⟩;refine eM hp (thn (hc pins s1 σ1 H1 _ I1 (turn n σ1 H1 w1)) fun b s2 ⟨H2,I2,q2⟩=>?_);cases b with
 |true=>
  obtain⟨N,hN,q2⟩:=q2;rw[if_pos rfl];refine eM hp (thn (hb pins s2 σ1 H2 _ I2 q2) fun f s3 q3=>?_);cases f with
  |next =>
   obtain⟨σ3,H3,I3,n3⟩:=q3;obtain⟨m',hm,w3⟩:=hN σ3 H3 n3;exact⟨m',hm,σ3,H3,I3,w3⟩
  |cont=>
   obtain⟨σ3,H3,I3,n3⟩:=q3;obtain⟨m',hm,w3⟩:=hN σ3 H3 n3;exact⟨m',hm,σ3,H3,I3,w3⟩
  |brk=>exact q3
  |ret v=>exact q3
 |false=>
  rw[if_neg bF];exact wa ⟨σ1,H2,I2,q2⟩
end
structure It where
 go:Nat->Hp->Prop
 yld:Nat->Hp->V->Hp->Prop
 stop:Nat->Hp->Prop
noncomputable def lJ(X:Cx)(pins:List (Addr×Obj))(H:Hp)(b:Addr):Prop:=
 H b=none/\b≠X.env.locals/\b∉X.fs/\(b∈X.ex\/X.s₀.heap.objs.size<=b)/\(∀x c,X.env.cells.lookup x=some c->c≠b)/\∀p∈X.pn++pins,p.1≠b
theorem Inv.vK{X:Cx}{pins:List (Addr×Obj)}{σ:St}{H H':Hp}{s:Shared}{b:Addr}(I:Inv X pins σ H s)(hb:s.heap.objs.size<=b)(hn:H' b=none):lJ X pins H' b:=by
 refine⟨hn,dc (aO I.lt hb),I.nofs hb,.inr (aQ I.sz hb),fun x c e z=>?_,fun p hp z=>?_⟩
 ·obtain⟨v,q⟩:=I.cell x c e
  exact absurd (aO q.lt (by rw[z];exact hb)) (de _)
 ·exact absurd (aO (ay (I.pin p hp).1) (by rw[z];exact hb)) (de _)
structure Turn(P:Program)(w:World)(K:aa)(tg:Expr)(J:It)(fp:List Addr)(it:Addr)(tn:Nat->Heap->Prop):Prop where
 mem:it∈fp
 obj:∀i h,tn i h->∀b∈fp,∃o,h.get? b=some o/\∀v,o.data≠.cell v
 keep:∀i h h',tn i h->(∀b∈fp,∀o,h.get? b=some o->h'.get? b=some o)->tn i h'
 item:∀(X:Cx),X.prog=P->X.w=w->X.K=K->X.calm=true->∀(i:Nat)(pins:List (Addr×Obj))(s:Shared)(σ:St)(H:Hp)(E:Value->Shared->Prop),Inv X pins σ H s->(∀b∈fp,lJ X pins H b)->tn i s.heap->J.go i H->
  wpAny (model P w) X.A (pyNext (.ref it)) (fun r s1=>∃u,r=some u/\
   wpAny (model P w) X.A (lR tg (.ref it) u) (fun _ s2=>∃x H',Inv X pins σ H' s2/\RelV x u/\J.yld i H x H'/\tn (i+1) s2.heap/\∀b∈fp,H' b=none) E s1) E s
 done:∀(X:Cx),X.prog=P->X.w=w->X.K=K->X.calm=true->∀(i:Nat)(pins:List (Addr×Obj))(s:Shared)(σ:St)(H:Hp)(E:Value->Shared->Prop),Inv X pins σ H s->(∀b∈fp,lJ X pins H b)->tn i s.heap->J.stop i H->
  wpAny (model P w) X.A (pyNext (.ref it)) (fun r s1=>r=none/\Inv X pins σ H s1) E s
 self:∀(A:Around)(i:Nat)(s:Shared)(Q:Value->Shared->Prop)(E:Value->Shared->Prop),tn i s.heap->Q (.ref it) s->wpAny (model P w) A (pyIter (.ref it)) Q E s
noncomputable abbrev TI:=St->Hp->(It->Hp->Prop)->Prop
noncomputable def PIE(X:Cx)(pins:List (Addr×Obj))(σ:St)(tg:Expr)(R:It->Hp->Prop)(itv:Value)(s2:Shared):Prop:=
 ∃(it:Addr)(fp:List Addr)(tn:Nat->Heap->Prop)(J:It)(H':Hp),itv=.ref it/\Inv X pins σ H' s2/\Turn X.prog X.w X.K tg J fp it tn/\tn 0 s2.heap/\(∀b∈fp,lJ X pins H' b)/\R J H'
noncomputable def PI(X:Cx)(tg iter:Expr)(wi:TI):Prop:=
 ∀(pins:List (Addr×Obj))(s:Shared)(σ:St)(H:Hp)(R:It->Hp->Prop),Inv X pins σ H s->wi σ H R->
  wpAny (model X.prog X.w) X.A (eval iter X.env) (fun v s1=>wpAny (model X.prog X.w) X.A (pyIter v) (PIE X pins σ tg R) X.xe s1) X.xe s
theorem wV{M:Model}{A:Around}{E:Value->Shared->Prop}{s:Shared}{tg:Expr}{it:Addr}{u:Value}{o:Obj}{n:String}{vs:Array Value}{Q:Unit->Shared->Prop}(ho:s.heap.get? it=some o)(hc:o.cls=.type n)(hd:o.data=.fields vs)
  (hn:["enumerate","zip","dict_itemiterator","dict_reverseitemiterator","odict_iterator","itertools.zip_longest","itertools.pairwise"].contains n=false)(hQ:Q () s):wpAny M A (lR tg (.ref it) u) Q E s:=by
 unfold lR;cases tg<;>first
  |exact ah hQ
  | (cases u<;>first
    |exact ah hQ
    | (refine ae (wpAny_load ho ?_)
       rw[hc,hd];show wpAny M A (if(["enumerate","zip","dict_itemiterator","dict_reverseitemiterator","odict_iterator","itertools.zip_longest","itertools.pairwise"].contains n&&vs[0]? ==some (rawInt _))=true then _ else _) Q E s;rw[if_neg (by intro h;rw[hn,iF]at h;cases h)];exact ah hQ))
noncomputable def Itl(K:aa)(a:Addr):It:=
 ⟨fun i H=>∃xs x,SqL K H a xs/\xs[i]? =some x,fun i H x H'=>H'=H/\∀xs,SqL K H a xs->xs[i]? =some x,fun i H=>∃xs,SqL K H a xs/\xs.length<=i⟩
noncomputable def Itt(K:aa)(a:Addr):It:=
 ⟨fun i H=>∃xs x,SqT K H a xs/\xs[i]? =some x,fun i H x H'=>H'=H/\∀xs,SqT K H a xs->xs[i]? =some x,fun i H=>∃xs,SqT K H a xs/\xs.length<=i⟩
noncomputable def Itr(lo:Int)(n:Nat):It:=⟨fun i _=>i<n,fun i H x H'=>H'=H/\x=.int (lo+i),fun i _=>n<=i⟩
theorem p0{P:Program}{w:World}{K:aa}{tg:Expr}(a it:Addr):Turn P w K tg (Itl K a) [it] it (fun i h=>h.IsListIter it a i) where
 mem:=by simp
 obj:=fun i h st b hb=>by
  have e:b=it:=by simpa using hb
  subst e;obtain⟨o,e,c,d⟩:=st;exact⟨o,e,fun v z=>by rw[d]at z;cases z⟩
 keep:=fun i h h' st k=>st.at fun o e=>k it (by simp) o e
 item:=by
  intro X hP hw hK hc i pins s σ H E I hf st hg;subst hP hw hK;obtain⟨xs,x,hq,hx⟩:=hg;obtain⟨its,rv,p,hz⟩:=I.list hq;obtain⟨u,hu,ru⟩:=rv.get hx;obtain⟨f0,f1,f2,f3,f4,f5⟩:=hf it (by simp);refine wpAny_pyNext_list_item st p.isList (x:=u) (by simpa using hu) fun h' st' sb=>?_;have I1:Inv X pins σ H {s with heap:=h'}:=I.turned (t':=s.toks) (fun b o hb e=>(sb.2 b hb).trans e) f0 f1 f3 f4 f5;obtain⟨o,e,c,d⟩:=id st';exact⟨u,rfl,wV (s:={s with heap:=h'}) e c d (by decide) ⟨x,H,I1,ru,⟨rfl,fun ys hy=>by rw[I.t4 hy hq];exact hx⟩,st',fun b hb=>(hf b hb).1⟩⟩
 done:=by
  intro X hP hw hK hc i pins s σ H E I hf st hg;subst hP hw hK;obtain⟨xs,hq,hx⟩:=hg;obtain⟨its,rv,p,hz⟩:=I.list hq;obtain⟨f0,f1,f2,f3,f4,f5⟩:=hf it (by simp);have hl:=rv.length;exact wpAny_pyNext_list_end (I.ok.hd hc) st p.isList (by simp;omega) fun h' eb=>⟨rfl,I.turned (t':=s.toks) (fun b o hb e=>eb b o hb e) f0 f1 f3 f4 f5⟩
 self:=fun _ _ _ _ _ st h=>wpAny_pyIter_listiter st h
theorem u9{P:Program}{w:World}{K:aa}{tg:Expr}(a it:Addr):Turn P w K tg (Itt K a) [it] it (fun i h=>h.IsTupleIter it a i) where
 mem:=by simp
 obj:=fun i h st b hb=>by
  have e:b=it:=by simpa using hb
  subst e;obtain⟨o,e,c,d⟩:=st;exact⟨o,e,fun v z=>by rw[d]at z;cases z⟩
 keep:=fun i h h' st k=>st.at fun o e=>k it (by simp) o e
 item:=by
  intro X hP hw hK hc i pins s σ H E I hf st hg;subst hP hw hK;obtain⟨xs,x,hq,hx⟩:=hg;obtain⟨its,rv,p,hz⟩:=I.tuple hq;obtain⟨u,hu,ru⟩:=rv.get hx;obtain⟨f0,f1,f2,f3,f4,f5⟩:=hf it (by simp);refine wpAny_pyNext_tuple_item st (show s.heap.IsTuple a its.toArray from p) (x:=u) (by simpa using hu) fun h' st' sb=>?_;have I1:Inv X pins σ H {s with heap:=h'}:=I.turned (t':=s.toks) (fun b o hb e=>(sb.2 b hb).trans e) f0 f1 f3 f4 f5;obtain⟨o,e,c,d⟩:=id st';exact⟨u,rfl,wV (s:={s with heap:=h'}) e c d (by decide) ⟨x,H,I1,ru,⟨rfl,fun ys hy=>by rw[I.qa hy hq];exact hx⟩,st',fun b hb=>(hf b hb).1⟩⟩
 done:=by
  intro X hP hw hK hc i pins s σ H E I hf st hg;subst hP hw hK;obtain⟨xs,hq,hx⟩:=hg;obtain⟨its,rv,p,hz⟩:=I.tuple hq;obtain⟨f0,f1,f2,f3,f4,f5⟩:=hf it (by simp);have hl:=rv.length;exact wpAny_pyNext_tuple_end (I.ok.hd hc) st (show s.heap.IsTuple a its.toArray from p) (by simp;omega) fun h' eb=>⟨rfl,I.turned (t':=s.toks) (fun b o hb e=>eb b o hb e) f0 f1 f3 f4 f5⟩
 self:=fun _ _ _ _ _ st h=>wpAny_pyIter_tupleiter st h
theorem va{P:Program}{w:World}{K:aa}{tg:Expr}(it:Addr)(lo:Int)(n:Nat):Turn P w K tg (Itr lo n) [it] it (fun i h=>IsRangeIter h it (lo+(i:Nat)*1) ((n:Int)-(i:Nat)) 1) where
 mem:=by simp
 obj:=fun i h st b hb=>by
  have e:b=it:=by simpa using hb
  subst e;exact⟨_,st,fun v z=>by
   have z':Data.fields _=Data.cell v:=z;cases z'⟩
 keep:=fun i h h' st k=>k it (by simp) _ st
 item:=by
  intro X hP hw hK hc i pins s σ H E I hf st hg;subst hP hw hK;obtain⟨f0,f1,f2,f3,f4,f5⟩:=hf it (by simp);have W:=Walks.range (prog:=X.prog) (w:=X.w) (I.ok.hd hc) it lo 1 n;refine W.item i s _ _ hg st fun v h' tk hv st' kk=>?_;obtain⟨t,rfl⟩:=hv;have I1:Inv X pins σ H {s with heap:=h',toks:=tk}:=I.turned (fun b o hb e=>kk b o (by simpa using hb) e) f0 f1 f3 f4 f5;refine⟨_,rfl,wV (s:={s with heap:=h',toks:=tk}) (n:="range_iterator") st' rfl rfl (by decide) ⟨.int (lo+i),H,I1,⟨t,?_⟩,⟨rfl,rfl⟩,st',fun b hb=>(hf b hb).1⟩⟩;rw[Int.mul_one]
 done:=by
  intro X hP hw hK hc i pins s σ H E I hf st hg;subst hP hw hK;obtain⟨f0,f1,f2,f3,f4,f5⟩:=hf it (by simp);exact wpAny_pyNext_range_end (I.ok.hd hc) st (by have :n<=i:=hg;omega) fun h' eb=>⟨rfl,I.turned (t':=s.toks) (fun b o hb e=>eb b o hb e) f0 f1 f3 f4 f5⟩
 self:=fun _ _ _ _ _ st h=>wpAny_pyIter_rangeiter st h
section
variable {X:Cx}{tg:Expr}
noncomputable def AJ(K:aa)(tl:TE):TI:=fun σ H R=>tl σ H fun x H1=>∃a,x=.ref a/\(∃xs,SqL K H1 a xs)/\R (Itl K a) H1
theorem pi_list{l:Expr}{tl:TE}(hl:PE X l tl):PI X tg l (AJ X.K tl):=by
 intro pins s σ H R I h;refine thn (hl pins s σ H _ I h) fun v s1 ⟨x,H1,I1,r1,q1⟩=>?_;obtain⟨a,e,⟨xs,hq⟩,q⟩:=q1;subst e;cases r1;obtain⟨its,rv,p,hz⟩:=I1.list hq;refine jU p.isList ?_;refine⟨s1.heap.objs.size,[s1.heap.objs.size],_,_,H1,rfl,I1.kept (t':=s1.toks) fun b o e=>af _ e,p0 a _,⟨_,aE _ rfl,rfl,rfl⟩,fun b hb=>?_,q⟩;have e:b=s1.heap.objs.size:=by simpa using hb
 subst e;exact I1.vK (aw _) (I1.hok.fresh (aw _))
theorem tE{pins:List (Addr×Obj)}{σ:St}{H:Hp}{s:Shared}{R:It->Hp->Prop}{E:Value->Shared->Prop}{lo hi:Int}{t u v:Tok}{tk:Nat}(I:Inv X pins σ H s)(h1: -(2^62)<=lo)(h2:lo<2^62)(h3: -(2^62)<=hi)(h4:hi<2^62)
  (q:R (Itr lo (hi-lo).toNat) H):wpAny (model X.prog X.w) X.A (pyIter (.ref s.heap.objs.size)) (PIE X pins σ tg R) E {s with heap:=s.heap.push {cls:=.type "range",data:=.fields #[.int lo t,.int hi u,.int 1 v]},toks:=tk}:=by
 refine wpAny_pyIter_range (IsRange.new ..) (small_one h1 h2 h3 h4) ?_;have I1:Inv X pins σ H {s with heap:=s.heap.push {cls:=.type "range",data:=.fields #[.int lo t,.int hi u,.int 1 v]},toks:=tk}:=I.kept fun b o e=>af _ e;refine⟨(s.heap.push {cls:=.type "range",data:=.fields #[.int lo t,.int hi u,.int 1 v]}).objs.size,[(s.heap.push {cls:=.type "range",data:=.fields #[.int lo t,.int hi u,.int 1 v]}).objs.size],_,_,H,rfl,
  I1.kept (t':=tk) fun b o e=>af _ e,va _ lo (hi-lo).toNat,?_,fun b hb=>?_,q⟩
 ·have e1:lo+((0:Nat):Int)*1=lo:=by simp
  have e2:(((hi-lo).toNat:Nat):Int)-((0:Nat):Int)=Builtin.Range.rangeSize lo hi 1:=by rw[rangeSize_one];split <;>omega
  show IsRangeIter _ _ (lo+((0:Nat):Int)*1) ((((hi-lo).toNat:Nat):Int)-((0:Nat):Int)) 1;rw[e1,e2];exact aE _ rfl
 ·have e:b=(s.heap.push {cls:=.type "range",data:=.fields #[.int lo t,.int hi u,.int 1 v]}).objs.size:=by simpa using hb
  subst e;exact I1.vK (aw _) (I1.hok.fresh (aw _))
noncomputable def AI(ta:TA):TI:=fun σ H R=>ta σ H fun vs H1=>∃j:Int,vs=[.int j]∧-(2^62)<=j/\j<2^62/\R (Itr 0 j.toNat) H1
noncomputable def AH(ta:TA):TI:=fun σ H R=>ta σ H fun vs H1=>∃i j:Int,vs=[.int i,.int j]/\(-(2^62)<=i/\i<2^62∧-(2^62)<=j/\j<2^62)/\R (Itr i (j-i).toNat) H1
theorem xM{a:Expr}{ta:TA}{p pos:Pos}(hg:Gl X "range")(hm:X.mg "range"=none)(ha:PA X [a] ta)(hs:bp [a] X.env=[(false,eval a X.env)]:=by rfl):PI X tg (.Call (.Name "range" p) [a] [] pos) (AI ta):=by
 intro pins s σ H R I h;refine Call_ (iV I hg hm boot_range (cz (thn (ha pos pins s σ H _ I h) fun us s1 ⟨vs,H1,I1,r1,q1⟩=>?_) hs rfl));obtain⟨j,e,q1,q2,q⟩:=q1;subst e;cases r1 with
 |cons r rr=>
  cases rr;obtain⟨t,rfl⟩:=r;exact call_range_1 (tE I1 (by omega) (by omega) q1 q2 (by simpa using q))
theorem xK{a b:Expr}{ta:TA}{p pos:Pos}(hg:Gl X "range")(hm:X.mg "range"=none)(ha:PA X [a,b] ta)(hs:bp [a,b] X.env=[(false,eval a X.env),(false,eval b X.env)]:=by rfl) (hs2:bp [b] X.env=[(false,eval b X.env)]:=by rfl):
  PI X tg (.Call (.Name "range" p) [a,b] [] pos) (AH ta):=by
 intro pins s σ H R I h;refine Call_ (iV I hg hm boot_range (cz (thn (ha pos pins s σ H _ I h) fun us s1 ⟨vs,H1,I1,r1,q1⟩=>?_) (by rw[hs,hs2]) (by rw[hs2];rfl)));obtain⟨i,j,e,⟨q1,q2,q3,q4⟩,q⟩:=q1;subst e;cases r1 with
 |cons r rr=>
  cases rr with
  |cons r' rr=>
   cases rr;obtain⟨t,rfl⟩:=r;obtain⟨t',rfl⟩:=r';exact call_range_2 (tE I1 q1 q2 q3 q4 q)
noncomputable def tFor(wi:TI)(g:TG)(tb:TS):TS:=fun D σ H=>wi σ H fun J H1=>∃W:Nat->Nat->St->Hp->Prop,(∃m,W 0 m σ H1)/\∀i m σ H,W i m σ H->
 (J.stop i H/\D.nx σ H)\/(J.go i H/\∃N:St->Hp->Prop,(∀σ' H',N σ' H'->∃m',m'<m/\W (i+1) m' σ' H')/\∀x H',J.yld i H x H'->g x σ H' fun σ2 H2=>tb {D with nx:=N,ct:=N,bk:=D.nx} σ2 H2)
noncomputable def fZ(fp:List Addr)(h:Heap):List (Addr×Obj):=fp.filterMap fun b=>(h.get? b).map fun o=>(b,o)
theorem fK{fp:List Addr}{h:Heap}{b:Addr}{o:Obj}(hb:b∈fp)(e:h.get? b=some o):(b,o)∈fZ fp h:=List.mem_filterMap.mpr ⟨b,hb,by rw[e];rfl⟩
theorem l8{fp:List Addr}{h:Heap}{p:Addr×Obj}(hp:p∈fZ fp h):p.1∈fp/\h.get? p.1=some p.2:=by
 obtain⟨b,hb,e⟩:=List.mem_filterMap.mp hp;cases q:h.get? b with
 |none=>rw[q]at e;cases e
 |some o=>
  rw[q]at e;have e':(b,o)=p:=bz e;subst e';exact⟨hb,q⟩
theorem Inv.pinned{pins:List (Addr×Obj)}{σ:St}{H:Hp}{s:Shared}{fp:List Addr}(I:Inv X pins σ H s)(hf:∀b∈fp,lJ X pins H b)(ho:∀b∈fp,∃o,s.heap.get? b=some o/\∀v,o.data≠.cell v):Inv X (pins++fZ fp s.heap) σ H s:=
 I.ri fun p hp=>(aG.mp hp).elim (fun z=>I.pin p (aN _ z)) fun z=>by
  obtain⟨hb,e⟩:=l8 z;obtain⟨f0,f1,f2,_⟩:=hf p.1 hb;obtain⟨o,e',d⟩:=ho p.1 hb;rw[e]at e';cases e';exact⟨e,f0,f1,f2,d⟩
theorem Inv.fu{pins pl:List (Addr×Obj)}{σ:St}{H:Hp}{s:Shared}(I:Inv X (pins++pl) σ H s):Inv X pins σ H s:=I.ri fun p hp=>I.pin p (aN _ (kU _ hp))
theorem ps_for{iter:Expr}{body:List Stmt}{wi:TI}{g:TG}{tb:TS}{pos:Pos}(hp:PassesOwn (model X.prog X.w) X.A X.env X.xe)(hc:X.calm=true)(hi:PI X tg iter wi)(hg:PG X tg g)(hb:PSs X body tb)
  (hs:∀x,gm iter X.env x=pure x:=by intro _;rfl):PS X (.For tg iter body [] pos) (tFor wi g tb):=by
 intro pins s σ H D I h;refine wpAny_For (thn (hi pins s σ H _ I h) fun v s1 h1=>thn h1 fun itv s2 h2=>?_) hs;obtain⟨it,fp,tn,J,H2,e,I2,T,st2,f2,W,⟨m0,w0⟩,turn⟩:=h2;subst e
 --what stays true of the iterator's objects through the loop
 have stat:∀{H':Hp},(∀b∈fp,H' b=none)->∀b∈fp,lJ X pins H' b:=fun hn b hb=>⟨hn b hb,(f2 b hb).2⟩;refine codeAny_forLoop_any (fun n s'=>∃i σ' H',Inv X pins σ' H' s'/\tn i s'.heap/\(∀b∈fp,H' b=none)/\W i n σ' H') ?_ m0 ⟨0,σ,H2,I2,st2,fun b hb=>(f2 b hb).1,w0⟩;rintro n s3 ⟨i,σ3,H3,I3,st3,fr3,w3⟩;rcases turn i n σ3 H3 w3 with⟨stop,qn⟩ |⟨go,N,hN,step⟩
 ·refine eM hp (thn (T.done X rfl rfl rfl hc i pins s3 σ3 H3 X.xe I3 (stat fr3) st3 stop) fun r s4 ⟨hr,I4⟩=>?_)
  subst hr;exact wa ⟨σ3,H3,I4,qn⟩
 ·refine eM hp (thn (T.item X rfl rfl rfl hc i pins s3 σ3 H3 X.xe I3 (stat fr3) st3 go) fun r s4 ⟨u,hr,h4⟩=>?_)
  subst hr;refine eM hp (thn h4 fun _ s5 ⟨x,H5,I5,r5,y5,st5,fr5⟩=>?_);have I5':=I5.pinned (stat fr5) (T.obj _ _ st5);refine eM hp (thn (hg _ s5 σ3 H5 x u _ I5' r5 (step x H5 y5)) fun _ s6 ⟨σ6,H6,I6,q6⟩=>?_);refine eM hp (thn (hb _ s6 σ6 H6 _ I6 q6) fun f s7 q7=>?_);have again:∀{σ7:St}{H7:Hp},Inv X (pins++fZ fp s5.heap) σ7 H7 s7->N σ7 H7->∃m,m<n/\∃i σ' H',Inv X pins σ' H' s7/\tn i s7.heap/\(∀b∈fp,H' b=none)/\W i m σ' H':=fun{σ7 H7} I7 n7=>by
   obtain⟨m',hm,w7⟩:=hN σ7 H7 n7;refine⟨m',hm,i+1,σ7,H7,I7.fu,T.keep _ _ _ st5 fun b hb o e=>(I7.pin (b,o) (aN _ (aN _ (fK hb e)))).1,fun b hb=>?_,w7⟩;obtain⟨o,e,d⟩:=T.obj _ _ st5 b hb;exact(I7.pin (b,o) (aN _ (aN _ (fK hb e)))).2.1
  cases f with
  |next =>obtain⟨σ7,H7,I7,n7⟩:=q7;exact again I7 n7
  |cont=>obtain⟨σ7,H7,I7,n7⟩:=q7;exact again I7 n7
  |brk=>obtain⟨σ7,H7,I7,q7⟩:=q7;exact⟨σ7,H7,I7.fu,q7⟩
  |ret v=>obtain⟨x7,σ7,H7,I7,r7,q7⟩:=q7;exact⟨x7,σ7,H7,I7.fu,r7,q7⟩
end
noncomputable abbrev R2:=V->V->Hp->VK->Prop
noncomputable def OpR(X:Cx)(f:Value->Value->Sem Value)(r:R2):Prop:=
 ∀(pins:List (Addr×Obj))(s:Shared)(σ:St)(H:Hp)(x y:V)(v u:Value)(Q:VK),Inv X pins σ H s->RelV x v->RelV y u->r x y H Q->
  wpAny (model X.prog X.w) X.A (f v u) (EP X pins σ Q) X.xe s
noncomputable def UnR(X:Cx)(f:Value->Sem Value)(r:V->Hp->VK->Prop):Prop:=
 ∀(pins:List (Addr×Obj))(s:Shared)(σ:St)(H:Hp)(x:V)(v:Value)(Q:VK),Inv X pins σ H s->RelV x v->r x H Q->
  wpAny (model X.prog X.w) X.A (f v) (EP X pins σ Q) X.xe s
noncomputable def eU(X:Cx)(f:Value)(r:List V->Hp->VK->Prop):Prop:=
 ∀(pins:List (Addr×Obj))(s:Shared)(σ:St)(H:Hp)(xs:List V)(us:List Value)(Q:VK),Inv X pins σ H s->bJ xs us->r xs H Q->
  wpAny (model X.prog X.w) X.A (call f us) (EP X pins σ Q) X.xe s
noncomputable def TruR(X:Cx)(r:V->Hp->(Bool->Hp->Prop)->Prop):Prop:=
 ∀(pins:List (Addr×Obj))(s:Shared)(σ:St)(H:Hp)(x:V)(v:Value)(Q:Bool->Hp->Prop),Inv X pins σ H s->RelV x v->r x H Q->
  wpAny (model X.prog X.w) X.A (truthy v) (TP X pins σ Q) X.xe s
noncomputable def tOp(r:R2)(ta tb:TE):TE:=fun σ H Q=>ta σ H fun x H1=>tb σ H1 fun y H2=>r x y H2 Q
noncomputable def tUn(r:V->Hp->VK->Prop)(ta:TE):TE:=fun σ H Q=>ta σ H fun x H1=>r x H1 Q
noncomputable def rI(C:Int->Int->Prop)(g:Int->Int->V):R2:=fun x y H Q=>∃i j,x=.int i/\y=.int j/\C i j/\Q (g i j) H
noncomputable def rI0(g:Int->Int->V):R2:=fun x y H Q=>∃i j,x=.int i/\y=.int j/\Q (g i j) H
noncomputable def rU(g:Int->V):V->Hp->VK->Prop:=fun x H Q=>∃i,x=.int i/\Q (g i) H
section
variable {X:Cx}{a b c:Expr}{ta tb tc:TE}{pos:Pos}
theorem binT(ha:PE X a ta)(hb:PE X b tb){pins:List (Addr×Obj)}{s:Shared}{σ:St}{H:Hp}{R:V->V->Hp->Prop}(I:Inv X pins σ H s)
  (h:ta σ H fun x H1=>tb σ H1 fun y H2=>R x y H2){Q:Value->Shared->Prop}{f:Value->Value->Sem Value}
  (hf:∀v u s2 x y H2,Inv X pins σ H2 s2->RelV x v->RelV y u->R x y H2->wpAny (model X.prog X.w) X.A (f v u) Q X.xe s2):
  wpAny (model X.prog X.w) X.A (eval a X.env) (fun v s₁=>wpAny (model X.prog X.w) X.A (eval b X.env) (fun u s₂=>wpAny (model X.prog X.w) X.A (f v u) Q X.xe s₂) X.xe s₁) X.xe s:=by
 refine thn (ha pins s σ H _ I h) fun v s1 ⟨x,H1,I1,r1,q1⟩=>?_;refine thn (hb pins s1 σ H1 _ I1 q1) fun u s2 ⟨y,H2,I2,r2,q2⟩=>?_;exact hf v u s2 x y H2 I2 r1 r2 q2
theorem pe_op{op:Operator}{r:R2}(ho:OpR X (eN op) r)(ha:PE X a ta)(hb:PE X b tb):PE X (.BinOp a op b pos) (tOp r ta tb):=by
 intro pins s σ H Q I h;exact wpAny_BinOp (binT ha hb I h fun v u s2 x y H2 I2 rx ry q=>ho pins s2 σ H2 x y v u Q I2 rx ry q)
theorem pe_un{op:UnaryOp}{r:V->Hp->VK->Prop}(ho:UnR X (unaryOp op) r)(ha:PE X a ta):PE X (.UnaryOp op a pos) (tUn r ta):=by
 intro pins s σ H Q I h;exact UnaryOp_ (thn (ha pins s σ H _ I h) fun v s1 ⟨x,H1,I1,r1,q1⟩=>ho pins s1 σ H1 x v Q I1 r1 q1)
theorem opI{f:Value->Value->Sem Value}{C:Int->Int->Prop}{g:Int->Int->Int}
  (rule:∀(i j:Int)(t u:Tok)(s:Shared)(Q:Value->Shared->Prop)(E:Value->Shared->Prop),C i j->Q (.int (g i j) s.toks) {s with toks:=s.toks+1}->wpAny (model X.prog X.w) X.A (f (.int i t) (.int j u)) Q E s):
  OpR X f (rI C fun i j=>.int (g i j)):=by
 intro pins s σ H x y v u Q I rx ry h;obtain⟨i,j,rfl,rfl,hc,q⟩:=h;obtain⟨t,rfl⟩:=rx;obtain⟨t',rfl⟩:=ry;exact rule i j t t' s _ _ hc ⟨.int (g i j),H,I.tok _,⟨_,rfl⟩,q⟩
theorem opI0{f:Value->Value->Sem Value}{g:Int->Int->Int}
  (rule:∀(i j:Int)(t u:Tok)(s:Shared)(Q:Value->Shared->Prop)(E:Value->Shared->Prop),Q (.int (g i j) s.toks) {s with toks:=s.toks+1}->wpAny (model X.prog X.w) X.A (f (.int i t) (.int j u)) Q E s):
  OpR X f (rI0 fun i j=>.int (g i j)):=by
 intro pins s σ H x y v u Q I rx ry h;obtain⟨i,j,rfl,rfl,q⟩:=h;obtain⟨t,rfl⟩:=rx;obtain⟨t',rfl⟩:=ry;exact rule i j t t' s _ _ ⟨.int (g i j),H,I.tok _,⟨_,rfl⟩,q⟩
theorem opB0{f:Value->Value->Sem Value}{g:Int->Int->Bool}
  (rule:∀(i j:Int)(t u:Tok)(s:Shared)(Q:Value->Shared->Prop)(E:Value->Shared->Prop),Q (.bool (g i j)) s->wpAny (model X.prog X.w) X.A (f (.int i t) (.int j u)) Q E s):
  OpR X f (rI0 fun i j=>.bl (g i j)):=by
 intro pins s σ H x y v u Q I rx ry h;obtain⟨i,j,rfl,rfl,q⟩:=h;obtain⟨t,rfl⟩:=rx;obtain⟨t',rfl⟩:=ry;exact rule i j t t' s _ _ ⟨.bl (g i j),H,I,rfl,q⟩
noncomputable def CDiv(i j:Int):Prop:=0<j/\j<1073741824
noncomputable def A8(i j:Int):Prop:=0<=j/\j<=1000000/\i.natAbs<2^64
noncomputable def v9(i j:Int):Prop:=(-(2^64)<i/\i<2^64)\/(-(2^64)<j/\j<2^64)
theorem v9.ok{i j:Int}(h:v9 i j):IntMulOk i j:=by
 rcases h with⟨h1,h2⟩ |⟨h1,h2⟩
 ·exact .of_left (intBits_le_64 h1 h2)
 ·exact .of_right (intBits_le_64 h1 h2)
theorem u7(k:Nat):(0:Int)<=2^k:=by
 rw[two_pow_cast];exact Int.natCast_nonneg _
theorem op_add:OpR X (eN .Add) (rI0 fun i j=>.int (i+j)):=opI0 fun _ _ _ _ _ _ _ q=>add_int q
theorem op_sub:OpR X (eN .Sub) (rI0 fun i j=>.int (i-j)):=opI0 fun _ _ _ _ _ _ _ q=>sub_int q
theorem op_mul:OpR X (eN .Mult) (rI v9 fun i j=>.int (i*j)):=opI fun _ _ _ _ _ _ _ hc q=>mul_int q hc.ok
theorem op_fdiv:OpR X (eN .FloorDiv) (rI CDiv fun i j=>.int (i/j)):=opI fun i j _ _ _ _ _ hc q=>by
 have h1:(0:Int)<j:=hc.1;have h2:j<1073741824:=hc.2;exact floordiv_int (by omega) (by rw[uM i (by omega)];exact q) (.inl (PyProof.noPylong_small (by omega)))
theorem op_mod:OpR X (eN .Mod) (rI (fun _ j=>0<j) fun i j=>.int (i%j)):=opI fun i j _ _ _ _ _ hc q=>by
 have h1:(0:Int)<j:=hc;exact mod_int' (by omega) (by rw[Int.fmod_eq_emod_of_nonneg i (by omega)];exact q)
theorem op_pow:OpR X (eN .Pow) (rI A8 fun i j=>.int (i^j.toNat)):=opI fun _ _ _ _ _ _ _ hc q=>pow_int_small hc.1 hc.2.1 hc.2.2 q
theorem op_shl:OpR X (eN .LShift) (rI A8 fun i j=>.int (i*2^j.toNat)):=opI fun _ _ _ _ _ _ _ hc q=>lshift_int_small hc.1 hc.2.1 hc.2.2 q
theorem op_shr:OpR X (eN .RShift) (rI (fun _ j=>0<=j) fun i j=>.int (i/2^j.toNat)):=opI fun i j _ _ _ _ _ hc q=>
 rshift_int hc (by rw[uM i (u7 _)];exact q)
theorem op_and:OpR X (eN .BitAnd) (rI0 fun i j=>.int (Builtin.bitAnd i j)):=opI0 fun _ _ _ _ _ _ _ q=>and_int q
theorem op_xor:OpR X (eN .BitXor) (rI0 fun i j=>.int (Builtin.bitXor i j)):=opI0 fun _ _ _ _ _ _ _ q=>xor_int q
theorem unI{f:Value->Sem Value}{g:Int->Int}
  (rule:∀(i:Int)(t:Tok)(s:Shared)(Q:Value->Shared->Prop)(E:Value->Shared->Prop),Q (.int (g i) s.toks) {s with toks:=s.toks+1}->wpAny (model X.prog X.w) X.A (f (.int i t)) Q E s):
  UnR X f (rU fun i=>.int (g i)):=by
 intro pins s σ H x v Q I rx h;obtain⟨i,rfl,q⟩:=h;obtain⟨t,rfl⟩:=rx;exact rule i t s _ _ ⟨.int (g i),H,I.tok _,⟨_,rfl⟩,q⟩
theorem yU:UnR X (unaryOp .USub) (rU fun i=>.int (-i)):=unI fun _ _ _ _ _ q=>neg_int q
end
section
variable {X:Cx}{a b c:Expr}{ta tb tc:TE}{pos:Pos}
theorem mh{pins:List (Addr×Obj)}{σ:St}{H:Hp}{s:Shared}{Q:VK}{k k':Bool}(I:Inv X pins σ H s)(q:Q (.bl k) H)(e:k=k'):EP X pins σ Q (.bool k') s:=by
 subst e;exact⟨.bl k,H,I,rfl,q⟩
theorem op_lt:OpR X (cc .Lt) (rI0 fun i j=>.bl (decide (i<j))):=opB0 fun _ _ _ _ _ _ _ q=>lt_int q
theorem op_le:OpR X (cc .LtE) (rI0 fun i j=>.bl (decide (i<=j))):=opB0 fun _ _ _ _ _ _ _ q=>le_int q
theorem op_gt:OpR X (cc .Gt) (rI0 fun i j=>.bl (decide (j<i))):=opB0 fun _ _ _ _ _ _ _ q=>gt_int q
theorem op_ge:OpR X (cc .GtE) (rI0 fun i j=>.bl (decide (j<=i))):=opB0 fun _ _ _ _ _ _ _ q=>ge_int q
theorem xT:OpR X (cc .In) (fun x y H Q=>∃i j,x=.str i/\y=.str j/\Q (.bl (!(eX j i 0 j.length 1).isEmpty)) H):=by
 intro pins s σ H x y v u Q I rx ry h;obtain⟨i,j,rfl,rfl,q⟩:=h;obtain⟨t,rfl⟩:=rx;obtain⟨t',rfl⟩:=ry;exact in_str (mh I q rfl)
theorem op_isN:OpR X (cc .Is) (fun x y H Q=>y=.non/\Q (.bl (decide (x=.non))) H):=by
 intro pins s σ H x y v u Q I rx ry h;obtain⟨rfl,q⟩:=h;cases ry;refine is_none_gen (mh I q ?_);cases x<;>first
  | (cases rx;rfl)
  | (obtain⟨t,rfl⟩:=rx;rfl)
theorem op_notN:OpR X (cc .IsNot) (fun x y H Q=>y=.non/\Q (.bl (!decide (x=.non))) H):=by
 intro pins s σ H x y v u Q I rx ry h;obtain⟨rfl,q⟩:=h;cases ry;refine isnot_none_gen (mh I q ?_);cases x<;>first
  | (cases rx;rfl)
  | (obtain⟨t,rfl⟩:=rx;rfl)
theorem OpR.or{f:Value->Value->Sem Value}{r r':R2}(h:OpR X f r)(h':OpR X f r'):OpR X f (fun x y H Q=>r x y H Q\/r' x y H Q):=by
 intro pins s σ H x y v u Q I rx ry q;rcases q with q|q
 ·exact h pins s σ H x y v u Q I rx ry q
 ·exact h' pins s σ H x y v u Q I rx ry q
theorem wH{op:CmpOp}{r:R2}(ho:OpR X (cc op) r)(ha:PE X a ta)(hb:PE X b tb)(hm:j8 op b=false):PE X (.Compare a [op] [b] pos) (tOp r ta tb):=by
 intro pins s σ H Q I h;exact wpAny_Compare1 (binT ha hb I h fun v u s2 x y H2 I2 rx ry q=>ho pins s2 σ H2 x y v u Q I2 rx ry q) hm
noncomputable def mE(t:TE):TT:=fun σ H Q=>t σ H fun x H'=>∃k,x=.bl k/\Q k H'
theorem wC{op:CmpOp}{r:R2}(ho:OpR X (cc op) r)(ha:PE X a ta)(hb:PE X b tb)(hm:j8 op b=false):PT X (.Compare a [op] [b] pos) (mE (tOp r ta tb)):=by
 intro pins s σ H Q I h;refine wpAny_isTrue_Compare1 (thn (ha pins s σ H _ I h) fun v s1 ⟨x,H1,I1,r1,q1⟩=>thn (hb pins s1 σ H1 _ I1 q1) fun u s2 ⟨y,H2,I2,r2,q2⟩=>
  thn (ho pins s2 σ H2 x y v u _ I2 r1 r2 q2) fun c s3 ⟨z,H3,I3,r3,k,e,q3⟩=>?_) hm
 subst e;cases r3;exact cE ⟨H3,I3,q3⟩
noncomputable def nY(r r':R2)(ta tb tc:TE):TE:=fun σ H Q=>ta σ H fun x H1=>tb σ H1 fun y H2=>r x y H2 fun z H3=>∃k,z=.bl k/\
 (if k=true then tc σ H3 fun w' H4=>r' y w' H4 Q else Q (.bl false) H3)
theorem Ad{op op':CmpOp}{r r':R2}(ho:OpR X (cc op) r)(ho':OpR X (cc op') r')(ha:PE X a ta)(hb:PE X b tb)(hc:PE X c tc)
  (hm:lastMarks [op,op'] [b,c]=false:=by with_unfolding_all rfl):PE X (.Compare a [op,op'] [b,c] pos) (nY r r' ta tb tc):=by
 intro pins s σ H Q I h;refine Compare_chain (thn (ha pins s σ H _ I h) fun v s1 ⟨x,H1,I1,r1,q1⟩=>chain_link (thn (hb pins s1 σ H1 _ I1 q1) fun u s2 ⟨y,H2,I2,r2,q2⟩=>
  thn (ho pins s2 σ H2 x y v u _ I2 r1 r2 q2) fun d s3 ⟨z,H3,I3,r3,k,e,q3⟩=>?_)) hm
 subst e;cases r3;refine cE ?_;cases k with
 |false=>exact ite_ff ⟨.bl false,H3,I3,rfl,q3⟩
 |true=>exact ite_tt (chain_last (thn (hc pins s3 σ H3 _ I3 q3) fun w' s4 ⟨z',H4,I4,r4,q4⟩=>ho' pins s4 σ H4 y z' u w' Q I4 r2 r4 q4))
theorem zS{op op':CmpOp}{r r':R2}(ho:OpR X (cc op) r)(ho':OpR X (cc op') r')(ha:PE X a ta)(hb:PE X b tb)(hc:PE X c tc)
  (hm:lastMarks [op,op'] [b,c]=false:=by with_unfolding_all rfl):PT X (.Compare a [op,op'] [b,c] pos) (mE (nY r r' ta tb tc)):=by
 intro pins s σ H Q I h;refine isTrue_chain (thn (ha pins s σ H _ I h) fun v s1 ⟨x,H1,I1,r1,q1⟩=>test_link (thn (hb pins s1 σ H1 _ I1 q1) fun u s2 ⟨y,H2,I2,r2,q2⟩=>
  thn (ho pins s2 σ H2 x y v u _ I2 r1 r2 q2) fun d s3 ⟨z,H3,I3,r3,k,e,q3⟩=>?_)) hm
 subst e;cases r3;refine cE ?_;cases k with
 |false=>
  obtain⟨k',e',q'⟩:=q3;cases e';exact ite_ff ⟨H3,I3,q'⟩
 |true=>
  refine ite_tt (test_last (thn (hc pins s3 σ H3 _ I3 q3) fun w' s4 ⟨z',H4,I4,r4,q4⟩=>thn (ho' pins s4 σ H4 y z' u w' _ I4 r2 r4 q4) fun d' s5 ⟨z2,H5,I5,r5,k2,e2,q5⟩=>?_));subst e2;cases r5;exact cE ⟨H5,I5,q5⟩
noncomputable def TruV(K:aa)(x:V)(H:Hp)(k:Bool):Prop:=
 match x with
 |.non=>k=false
 |.bl b=>k=b
 |.int i=>k=(i != 0)
 |.str y=>y.length<=sizeLine/\k=((y.length:Int) != 0)
 |.byt y=>y.size<=sizeLine/\k=((y.size:Int) != 0)
 |.ref p=>(∃xs,SqL K H p xs/\k= !xs.isEmpty)\/(∃xs,SqT K H p xs/\k= !xs.isEmpty)\/∃kvs,H p=some (.dK kvs)/\k= !kvs.isEmpty
 |_=>False
theorem vH{κ:Type}{kvs:List (κ×V)}{vs:List (κ×Value)}(r:KV kvs vs):(!vs.isEmpty)= !kvs.isEmpty:=by
 cases r<;>rfl
theorem oH{xs:List V}{its:List Value}(r:bJ xs its):(!its.toArray.isEmpty)= !xs.isEmpty:=by
 cases r<;>simp
theorem md:(sizeLine:Nat)<2^63:=by rw[nB];decide
theorem tru_ok:TruR X (fun x H Q=>∃k,TruV X.K x H k/\Q k H):=by
 intro pins s σ H x v Q I rx h;obtain⟨k,e,q⟩:=h;have hl:=md;have hs:sizeLine=16777216:=nB;cases x with
 |non=>
  cases rx;have e':k=false:=e;subst e';exact truthy_none ⟨H,I,q⟩
 |bl b=>
  cases rx;have e':k=b:=e;subst e';exact cE ⟨H,I,q⟩
 |int i=>
  obtain⟨t,rfl⟩:=rx;have e':k=(i != 0):=e;subst e';exact PySem.P.truthy_int ⟨H,I,q⟩
 |str y=>
  obtain⟨t,rfl⟩:=rx;obtain⟨hy,e'⟩:y.length<=sizeLine/\k=((y.length:Int) != 0):=e;subst e';exact PySem.P.truthy_str (by omega) ⟨H,I.tok _,q⟩
 |byt y=>
  obtain⟨t,rfl⟩:=rx;obtain⟨hy,e'⟩:y.size<=sizeLine/\k=((y.size:Int) != 0):=e;subst e';exact PySem.W.truthy_bytes (by omega) ⟨H,I.tok _,q⟩
 |ref p=>
  cases rx;have e':(∃xs,SqL X.K H p xs/\k= !xs.isEmpty)\/(∃xs,SqT X.K H p xs/\k= !xs.isEmpty)\/∃kvs,H p=some (.dK kvs)/\k= !kvs.isEmpty:=e;rcases e' with⟨xs,hx,e'⟩ |⟨xs,hx,e'⟩ |⟨kvs,hx,e'⟩
  ·subst e'
   obtain⟨its,r,pl,hz⟩:=I.list hx;have hlen:=r.length;exact wpAny_truthy_list pl.isList (by simp only[aq];omega) ⟨H,I.tok _,by rw[oH r];exact q⟩
  ·subst e'
   obtain⟨its,r,pl,hz⟩:=I.tuple hx;have hlen:=r.length;exact truthy_tuple pl (by simp only[aq];omega) ⟨H,I.tok _,by rw[oH r];exact q⟩
  ·subst e'
   obtain⟨hz,hS,vs,r,m⟩:kvs.length<=sizeLine/\(p==d0)=false/\∃vs,KV kvs vs/\s.heap.DictOf (bH X.prog X.w) p vs:=I.hok p _ hx;have hlen:kvs.length=vs.length:=lM r;exact wpAny_truthy_dict hS m (by omega) ⟨H,I.tok _,by rw[vH r];exact q⟩
 |_=>exact(show False from e).elim
theorem iK(ha:PE X a ta)(he:∀whole,isTrue a X.env whole=(do let v<-whole;standAt a.pos;holding [v] (truthy v))):
  PT X a (fun σ H Q=>ta σ H fun x H'=>∃k,TruV X.K x H' k/\Q k H'):=by
 intro pins s σ H Q I h;exact isTrue_plain (thn (ha pins s σ H _ I h) fun v s1 ⟨x,H1,I1,r1,q1⟩=>tru_ok pins s1 σ H1 x v Q I1 r1 q1) (he _)
theorem vz:OpR X (eN .Add) (fun x y H Q=>∃i j,x=.str i/\y=.str j/\i.length+j.length<=sizeLine/\Q (.str (i++j)) H):=by
 intro pins s σ H x y v u Q I rx ry h;obtain⟨i,j,rfl,rfl,hz,q⟩:=h;obtain⟨t,rfl⟩:=rx;obtain⟨t',rfl⟩:=ry;exact add_str (fun t' tk=>⟨.str (i++j),H,I.tok _,⟨_,rfl⟩,q⟩) hz
theorem vals1{x:V}{us:List Value}(r:bJ [x] us):∃u,us=[u]/\RelV x u:=by
 cases r with
 |cons r1 r2=>cases r2;exact⟨_,rfl,r1⟩
theorem vals2{x y:V}{us:List Value}(r:bJ [x,y] us):∃u w',us=[u,w']/\RelV x u/\RelV y w':=by
 cases r with
 |cons r1 r2=>
  cases r2 with
  |cons r3 r4=>cases r4;exact⟨_,_,rfl,r1,r3⟩
theorem ym(hc:X.calm=true):eU X (.builtin "max") (fun xs H Q=>∃i j,xs=[.int i,.int j]/\Q (.int (if j>i then j else i)) H):=by
 intro pins s σ H xs us Q I r h;obtain⟨i,j,rfl,q⟩:=h;obtain⟨u,w',rfl,⟨t,rfl⟩,⟨t',rfl⟩⟩:=vals2 r;refine max_two_ints (I.ok.hd hc) fun h' tk k=>⟨_,H,I.kept k,?_,q⟩;by_cases hj:j>i
 ·rw[if_pos hj,if_pos hj];exact⟨_,rfl⟩
 ·rw[if_neg hj,if_neg hj];exact⟨_,rfl⟩
theorem yl(hc:X.calm=true):eU X (.builtin "min") (fun xs H Q=>∃i j,xs=[.int i,.int j]/\Q (.int (if j<i then j else i)) H):=by
 intro pins s σ H xs us Q I r h;obtain⟨i,j,rfl,q⟩:=h;obtain⟨u,w',rfl,⟨t,rfl⟩,⟨t',rfl⟩⟩:=vals2 r;refine min_two_ints (I.ok.hd hc) fun h' tk k=>⟨_,H,I.kept k,?_,q⟩;by_cases hj:j<i
 ·rw[if_pos hj,if_pos hj];exact⟨_,rfl⟩
 ·rw[if_neg hj,if_neg hj];exact⟨_,rfl⟩
theorem yo:eU X (.type "int") (fun xs H Q=>(∃i,xs=[.int i]/\Q (.int i) H)\/∃k,xs=[.bl k]/\Q (.int (if k then 1 else 0)) H):=by
 intro pins s σ H xs us Q I r h;rcases h with⟨i,rfl,q⟩ |⟨k,rfl,q⟩
 ·obtain⟨u,rfl,t,rfl⟩:=vals1 r
  exact call_int_int ⟨.int i,H,I,⟨_,rfl⟩,q⟩
 ·obtain⟨u,rfl,r1⟩:=vals1 r
  cases r1;exact call_int_bool ⟨.int (if k then 1 else 0),H,I.tok _,⟨_,rfl⟩,q⟩
end
structure ObjM(h:Heap)(x dx C:Addr)(mA:Str->Option Value):Prop where
 obj:h.get? x=some (pf C dx)
 ns:h.Ns1 dx mA
 ne:dx≠x
theorem x9{h:Heap}{dx:Addr}{mA:Str->Option Value}(n:h.Ns1 dx mA):∃od,h.get? dx=some od/\∀name,pR name od=some (mA name):=by
 obtain⟨o,es,ep,ho,hd,hk,_,hm⟩:=n;refine⟨o,ho,fun name=>?_⟩;have e:=hm name;unfold nsFind findBy at e;rw[<-Array.find?_toList]at e;unfold pR;rw[hd];dsimp only;split
 ·rename_i y q
  rw[q]at e;exact congrArg some e
 ·rename_i q
  rw[q]at e;have a:es.toList.any (·.refKey)=false:=by
   rw[List.any_eq_false];intro y hy;obtain⟨z,t,hkey⟩:=hk y (yI.mp hy);simp[DictEntry.refKey,hkey]
  have a':¬es.toList.any (·.refKey)=true:=by rw[a];exact bF
  rw[if_neg a'];exact congrArg some e
theorem ObjM.look{h:Heap}{x dx C:Addr}{mA:Str->Option Value}(I:ObjM h x dx C mA):∃od,PySem.W.InstAt h x (pf C dx) C (some od)/\∀name,pR name od=some (mA name):=
 let⟨od,ho,hl⟩:=x9 I.ns
 ⟨od,⟨I.obj,rfl,rfl,ho⟩,hl⟩
noncomputable def putF(f:Str)(v:V):List (Str×V)->List (Str×V)
 | []=>[(f,v)]
 | (g,x)::r=>if g=f then(g,v)::r else(g,x)::putF f v r
theorem kN.some_of{v:V}{o:Option Value}(r:kN (some v) o):∃u,o=some u/\RelV v u:=by
 cases o with
 |none=>exact(show False from r).elim
 |some u=>exact⟨u,rfl,r⟩
section
variable {P:Program}{w:World}{H H':Hp}{h h':Heap}{a C dx:Addr}{fs fs':List (Str×V)}
theorem ins_get(hok:HOk P w H h)(e:H a=some (.ins C dx fs)):∃mA,ObjM h a dx C mA/\(∀f,kN (fs.lookup f) (mA f))/\wc mA (fs.map (·.1))/\fs.length<=1000/\H dx=some (.own a):=by
 obtain⟨d,z,ne,ob,mA,n,r,q⟩:=(show cZ P w H h a (.ins C dx fs)from hok a _ e);exact⟨mA,⟨ob,n,ne⟩,r,q,z,d⟩
end
structure Cls(K:aa)(C:Addr):Prop where
 pg:Bd K C Str.empty=true
 hd:PySem.W.hasDictIn K C=true
 po:PySem.W.plainOver K C=true
 sa:gO K (.ref C) "__setattr__"=some (some (.builtin "object.__setattr__"))
theorem Cls.get{K:aa}{C:Addr}(c:Cls K C)(f:Str):Bd K C f=true:=c.pg
noncomputable def A5(K:aa)(C:Addr)(f:Str):Prop:=gO K (.ref C) f=some none
structure Meth(K:aa)(C:Addr)(m:Str)(f:Addr):Prop where
 at_:gO K (.ref C) m=some (some (.ref f))
 fn:PySem.W.isFn K (.ref f)=true
 kp:bZ K (.ref f)=true
noncomputable def tFld(K:aa)(ta:TE)(f:Str):TE:=fun σ H Q=>ta σ H fun x H1=>∃a C dx fs v,x=.ref a/\H1 a=some (.ins C dx fs)/\Cls K C/\A5 K C f/\fs.lookup f=some v/\Q v H1
noncomputable def sFld(K:aa)(ta tv:TE)(f:Str):TS:=fun D σ H=>tv σ H fun y H1=>ta σ H1 fun x H2=>∃a C dx fs,x=.ref a/\H2 a=some (.ins C dx fs)/\Cls K C/\A5 K C f/\fs.length<1000/\
 D.nx σ (upd H2 a (.ins C dx (putF f y fs)))
section
variable {X:Cx}{pins:List (Addr×Obj)}{σ:St}{H:Hp}{s:Shared}{A:Around}{E:Value->Shared->Prop}{Q:Value->Shared->Prop}{c:Value}{b:Bool}
inductive ji (K:aa) (H:Hp):V->Value->Prop where
 |non:ji K H .non (.type "NoneType")
 |bl (x:Bool):ji K H (.bl x) (.type "bool")
 |int (i:Int):ji K H (.int i) (.type "int")
 |str (x:Str):ji K H (.str x) (.type "str")
 |flt (x:UInt64):ji K H (.flt x) (.type "float")
 |lst {a:Addr} {xs:List V} (e:H a=some (.lst xs)):ji K H (.ref a) (.type "list")
 |frz {a:Addr} {o:Obj} {xs:List V} (e:H a=some (.frz o (.lst xs))):ji K H (.ref a) (.type "list")
 |tup {a:Addr} {xs:List V} (e:H a=some (.tup xs)):ji K H (.ref a) (.type "tuple")
 |dK {a:Addr} {kvs:List (Key×V)} (e:H a=some (.dK kvs)):ji K H (.ref a) (.type "dict")
 |dT {a:Addr} {kvs:List (List Key×V)} (e:H a=some (.dT kvs)):ji K H (.ref a) (.type "dict")
 |ins {a C dx:Addr} {fs:List (Str×V)} (e:H a=some (.ins C dx fs)) (cl:Cls K C) (ha:gO K (.ref C) "__class__"=some (some (.builtin "object.__class__")))
   (hn:PySem.W.specialIn K (.builtin "object.__class__") "__get__"=some (some (.builtin "getset_descriptor.__get__"))) (htk:PySem.W.takesIn K (.builtin "object.__class__")=some true)
   (hm:PySem.W.mroIn K C (.type "object")=some true):ji K H (.ref a) (.ref C)
theorem qt{x:V}{u t:Value}(I:Inv X pins σ H s)(rx:RelV x u)(ty:ji X.K H x t)(e:fG X.K t c=some b)(h:∀tk,Q (.bool b) {s with toks:=tk}):
  wpAny (model X.prog X.w) A (call (.builtin "isinstance") [u,c]) Q E s:=by
 cases ty with
 |non=>cases(show u=bA from rx);exact cy PySem.W.kitx_none I.kIn True.intro e (fun z=>nomatch z) h
 |bl y=>cases(show u=so y from rx);exact cy PySem.W.kitx_bool I.kIn True.intro e (fun z=>nomatch z) h
 |int i=>obtain⟨t,q⟩:=(show ∃t,u=uR i t from rx);cases q;exact cy PySem.W.kitx_int I.kIn True.intro e (fun z=>nomatch z) h
 |str y=>obtain⟨t,q⟩:=(show ∃t,u=uQ y t from rx);cases q;exact cy PySem.W.kitx_str I.kIn True.intro e (fun z=>nomatch z) h
 |flt y=>obtain⟨t,q⟩:=(show ∃t,u=Value.float y t from rx);cases q;exact cy PySem.W.kitx_float I.kIn True.intro e (fun z=>nomatch z) h
 | @lst a xs ea=>
  cases(show u=bo a from rx);obtain⟨_,_,n,_,h1⟩:=(show cZ X.prog X.w H s.heap a (.lst xs)from I.hok a _ ea);exact cy yJ I.kIn ⟨_,h1,rfl⟩ e (fun z=>nomatch z) h
 | @frz a ob xs ea=>
  cases(show u=bo a from rx);obtain⟨_,_,_,n,_,h1⟩:=(show cZ X.prog X.w H s.heap a (.frz ob (.lst xs))from I.hok a _ ea);exact cy yJ I.kIn ⟨_,h1,rfl⟩ e (fun z=>nomatch z) h
 | @tup a xs ea=>
  cases(show u=bo a from rx);obtain⟨_,_,_,p⟩:=(show cZ X.prog X.w H s.heap a (.tup xs)from I.hok a _ ea);obtain⟨o,h1,h2,_⟩:=p;exact cy PySem.W.kitx_tuple I.kIn ⟨o,h1,h2⟩ e (fun z=>nomatch z) h
 | @dK a kvs ea=>
  cases(show u=bo a from rx);obtain⟨_,_,vs,_,p⟩:=(show cZ X.prog X.w H s.heap a (.dK kvs)from I.hok a _ ea);obtain⟨o,es,ep,h1,h2,_⟩:=p;exact cy yK I.kIn ⟨o,h1,h2.1⟩ e (fun z=>nomatch z) h
 | @dT a kvs ea=>
  cases(show u=bo a from rx);obtain⟨_,_,xs,_,o,es,ep,h1,h2,_⟩:=(show cZ X.prog X.w H s.heap a (.dT kvs)from I.hok a _ ea);exact cy yK I.kIn ⟨o,h1,h2.1⟩ e (fun z=>nomatch z) h
 | @ins a C dx fs ea cl ha hn htk hm=>
  cases(show u=bo a from rx);obtain⟨mA,O,_⟩:=ins_get I.hok ea;obtain⟨od,J,_⟩:=O.look;exact cy (PySem.W.kitx_own (cl.get _) cl.hd ha hn htk hm) I.kIn J e (fun z=>nomatch z) h
end
structure ij(k:Nat)(A:Around):Prop where
 hd:A.handled=none
 dp:A.depth+3*k+5<recursionLimit
 un:A.units+16*k+200<cLine
theorem ij.mono{j k:Nat}{A:Around}(r:ij k A)(h:j<=k):ij j A:=⟨r.hd,by have :=r.dp;omega,by have :=r.un;omega⟩
theorem ij.deeper{k:Nat}{A:Around}(r:ij (k+1) A)(env:Env):ij k (A.deeper env):=
 ⟨r.hd,by have :=r.dp;show A.depth+1+3*k+5<_;omega,by have :=r.un;show A.units+3+16*k+200<_;omega⟩
theorem ij.depth{k:Nat}{A:Around}(r:ij k A):A.depth<recursionLimit:=by have :=r.dp;omega
theorem ij.units{k:Nat}{A:Around}(r:ij k A):A.units+64<cLine:=by have :=r.un;omega
noncomputable def qP:TA:=fun _ H Q=>Q [] H
noncomputable def kj(ta:TE)(tr:TA):TA:=fun σ H Q=>ta σ H fun x H1=>tr σ H1 fun xs H2=>Q (x::xs) H2
section
variable {X:Cx}{e:Expr}{es:List Expr}{te:TE}{t:TA}{pos:Pos}
theorem l6:PA X [] qP:=fun _ _ _ _ H Q I h=>Calls.spliced_nil ⟨[],H,I,.nil,h⟩
theorem gR(ha:PE X e te)(hr:PA X es t)(hs:bp (e::es) X.env=(false,eval e X.env)::bp es X.env:=by rfl):PA X (e::es) (kj te t):=by
 intro pos pins s σ H Q I h;rw[hs];show wpAny _ _ (spliced ((false,eval e X.env)::backTo pos (bp es X.env))) _ _ s;refine iz (thn (ha pins s σ H _ I h) fun u s1 ⟨x,H1,I1,r1,q1⟩=>?_);exact thn (hr pos pins s1 σ H1 _ I1 q1) fun us s2 ⟨xs,H2,I2,r2,q2⟩=>⟨x::xs,H2,I2,.cons r1 r2,q2⟩
noncomputable def tTup(t:TA):TE:=fun σ H Q=>t σ H fun xs H1=>xs.length<=sizeLine/\∀p,H1 p=none->Q (.ref p) (upd H1 p (.tup xs))
noncomputable def tLst(t:TA):TE:=fun σ H Q=>t σ H fun xs H1=>xs.length<=sizeLine/\∀p,H1 p=none->Q (.ref p) (upd H1 p (.lst xs))
theorem pe_tup{x1}(h:PA X es t):PE X (.Tuple es x1 pos) (tTup t):=by
 intro pins s σ H Q I hq;refine wpAny_Tuple_spliced (thn (h pos pins s σ H _ I hq) fun us s1 ⟨xs,H1,I1,r,z,q⟩=>⟨by rw[<-r.length];exact z,?_⟩);have hf:H1 s1.heap.objs.size=none:=I1.hok.fresh (aw _);refine⟨.ref s1.heap.objs.size,upd H1 s1.heap.objs.size (.tup xs),I1.laid (t':=s1.toks) (fun b u e=>af _ e) (aw _) ?_,rfl,q _ hf⟩;exact⟨z,us,r,⟨_,aE _ rfl,rfl,_,rfl⟩⟩
theorem pe_lst(h:PA X es t):PE X (.List es pos) (tLst t):=by
 intro pins s σ H Q I hq;refine wpAny_List_spliced (thn (h pos pins s σ H _ I hq) fun us s1 ⟨xs,H1,I1,r,z,q⟩=>⟨by rw[<-r.length];exact z,?_⟩);have hf:H1 s1.heap.objs.size=none:=I1.hok.fresh (aw _);refine⟨.ref s1.heap.objs.size,upd H1 s1.heap.objs.size (.lst xs),I1.laid (t':=s1.toks) (fun b u e=>af _ e) (aw _) ?_,rfl,q _ hf⟩;exact⟨z,us,0,r,aE _ rfl⟩
end
noncomputable abbrev Sp:=List V->Hp->VK->XK->Prop
noncomputable abbrev CXT:=List Env->Hp->Shared->XK->Value->Shared->Prop
structure Env0(P:Program)(w:World)(K:aa)(mg:Str->Option Value)(base:Heap)(A:Around)(outer:List Env)(s:Shared)(H:Hp):Prop where
 frames:A.frames=some outer
 mod:Mod K mg base
 bs:∀b o,base.get? b=some o->s.heap.get? b=some o/\H b=none
 bsz:base.objs.size<=s.heap.objs.size
 rK:s.heap.FunFrames base outer
 frf:∀b∈frs outer,H b=none
 hok:HOk P w H s.heap
 bare:jZ s.gens
noncomputable def CE(outer:List Env)(P:Program)(w:World)(H:Hp)(s:Shared)(Q:VK)(u:Value)(s':Shared):Prop:=
 ∃v H',s'.os=s.os/\jZ s'.gens/\Un (frs outer) [] H H' s.heap s'.heap/\HOk P w H' s'.heap/\RelV v u/\Q v H'
noncomputable def CR(CX:CXT)(outer:List Env)(P:Program)(w:World)(H:Hp)(s:Shared)(Q:VK)(E:XK)(r:Result)(s':Shared):Prop:=
 match r with
 |.ok (.ret u)=>CE outer P w H s Q u s'
 |.ok _=>False
 |.error e=>CX outer H s E e s'
structure gM(P:Program)(w:World)(K:aa)(mg:Str->Option Value)(base:Heap)(CX:CXT)(k:Nat)(f:Addr)(fd:ft)(ps:List Str)(sp:Sp):Prop where
 len:∀vs H Q E,sp vs H Q E->vs.length=ps.length
 run:∀(A:Around)(outer:List Env)(s:Shared)(H:Hp)(args:Args)(us:List Value)(vs:List V)(Q:VK)(E:XK),ij k A->Env0 P w K mg base A outer s H->BindsTo s fd args (ps.zip us)->bJ vs us->sp vs H Q E->
  gZ (model P w) A (.call (.ref f) args) (CR CX outer P w H s Q E) s
section
variable {X:Cx}{pins:List (Addr×Obj)}{σ:St}{H:Hp}{s s':Shared}
theorem Inv.env0(I:Inv X pins σ H s):Env0 X.prog X.w X.K X.mg X.base X.A X.stack s H:=
 ⟨I.ok.frames,I.ok.mod,I.bs,aQ I.ok.bsz I.sz,I.stack,I.qR,I.hok,I.bare⟩
theorem Inv.after{Q:VK}{u:Value}(I:Inv X pins σ H s)(h:CE X.stack X.prog X.w H s Q u s'):EP X pins σ Q u s':=by
 obtain⟨v,H',os,bare,un,hok,r,q⟩:=h;obtain⟨hh,g,d,t,os'⟩:=s';obtain rfl:os'=s.os:=os;exact⟨v,H',I.call (h':=hh) (g':=g) (d':=d) (t':=t) (ch:=[]) un hok bare (fun b z=>absurd z (by simp)),r,q⟩
end
noncomputable def sW(sp:Sp)(dvs:List V)(E:XK)(t:TA):TE:=fun σ H Q=>t σ H fun vs H1=>sp (vs++dvs) H1 Q E
noncomputable def tMeth(C:Addr)(m:Str)(sp:Sp)(dvs:List V)(E:XK)(ta:TE)(t:TA):TE:=fun σ H Q=>ta σ H fun x H1=>∃a dx fs,x=.ref a/\H1 a=some (.ins C dx fs)/\fs.lookup m=none/\
 t σ H1 fun vs H2=>sp (x::(vs++dvs)) H2 Q E
noncomputable def tMake(C:Addr)(sp:Sp)(dvs:List V)(E:XK)(t:TA):TE:=fun σ H Q=>t σ H fun vs H1=>∀x dx,H1 x=none->H1 dx=none->dx≠x->
 sp (.ref x::(vs++dvs)) (upd (upd H1 dx (.own x)) x (.ins C dx [])) (fun v H2=>v=.non/\Q (.ref x) H2) E
noncomputable def Binds(K:aa)(fd:ft)(ps:List Str)(ds:List Value):Prop:=
 ∀(s:Shared)(us:List Value),K.In s.heap->(us++ds).length=ps.length->BindsTo s fd ⟨us,[]⟩ (ps.zip (us++ds))
theorem Binds.all{K:aa}{fd:ft}{ps:List Str}(h:∀us:List Value,us.length=ps.length->bindArgs fd ⟨us,[]⟩=pure (ps.zip us)):Binds K fd ps []:=fun s us _ hl=>by
 rw[kg]at hl⊢;exact .of_eq (h us hl)
section
variable {X:Cx}{CX:CXT}{k:Nat}{f C:Addr}{fd:ft}{ps:List Str}{sp:Sp}{dvs:List V}{ds:List Value}{E:XK}{x m:Str}{p pos apos:Pos}{e o:Expr}{es:List Expr}{ta:TE}{t:TA}
structure Mk(K:aa)(C f:Addr):Prop where
 makes:PySem.W.makesIn K C=true
 init:gO K (.ref C) "__init__"=some (some (.ref f))
 fn:PySem.W.isFn K (.ref f)=true
 kp:bZ K (.ref C)=true
end
structure se(N P:List Str)(sc:Scope):Prop where
 kind:sc.kind=.function
 co:sc.isCoroutine=false
 gen:sc.isGenerator=false
 nd:N.Nodup
 pre:N.take P.length=P
 par:∀x∈P,sc.names.lookup x=some .local\/sc.names.lookup x=some .cell
 nofree:∀y∈sc.names,y.2≠.free
theorem qC{kindOf:Str->Option df}{x:Str}:∀{binds:List (Str×Value)}{m:Str->Option Value},(∀v,(x,v)∉binds)->bindL kindOf binds m x=m x
 | [],_,_=>rfl
 | (n,v)::r,m,h=>by
  unfold bindL;rw[qC fun w hw=>h w (aI _ hw)];split
  ·have :x≠n:=by rintro rfl;exact h v au
   simp[this]
  ·rfl
theorem qE{kindOf:Str->Option df}{x:Str}:∀{binds:List (Str×Value)}{m:Str->Option Value},(∀v,(x,v)∉binds)->bindC kindOf binds m x=m x
 | [],_,_=>rfl
 | (n,v)::r,m,h=>by
  unfold bindC;rw[qE fun w hw=>h w (aI _ hw)];split
  ·rfl
  ·have :x≠n:=by rintro rfl;exact h v au
   simp[this]
theorem qD{kindOf:Str->Option df}{x:Str}{v:Value}:∀{P:List Str}{vs:List Value}{i:Nat}{m:Str->Option Value},P.Nodup->P[i]? =some x->vs[i]? =some v->kindOf x=some .local->
  bindL kindOf (P.zip vs) m x=some v
 | [],_,_,_,_,h,_,_=>by simp at h
 |_::_,[],_,_,_,_,h,_=>by simp at h
 |p::P,w::vs,0,m,nd,h1,h2,hk=>by
  simp at h1 h2;subst h1;subst h2;show bindL kindOf ((p,w)::P.zip vs) m p=_;unfold bindL;rw[qC fun v hv=>(dG.mp nd).1 (qH hv).1,if_pos hk];simp
 |p::P,w::vs,i+1,m,nd,h1,h2,hk=>by
  show bindL kindOf ((p,w)::P.zip vs) m x=_;unfold bindL;exact qD (i:=i) (dG.mp nd).2 (by simpa using h1) (by simpa using h2) hk
theorem qF{kindOf:Str->Option df}{x:Str}{v:Value}:∀{P:List Str}{vs:List Value}{i:Nat}{m:Str->Option Value},P.Nodup->P[i]? =some x->vs[i]? =some v->kindOf x≠some .local->
  bindC kindOf (P.zip vs) m x=some v
 | [],_,_,_,_,h,_,_=>by simp at h
 |_::_,[],_,_,_,_,h,_=>by simp at h
 |p::P,w::vs,0,m,nd,h1,h2,hk=>by
  simp at h1 h2;subst h1;subst h2;show bindC kindOf ((p,w)::P.zip vs) m p=_;unfold bindC;rw[qE fun v hv=>(dG.mp nd).1 (qH hv).1,if_neg hk];simp
 |p::P,w::vs,i+1,m,nd,h1,h2,hk=>by
  show bindC kindOf ((p,w)::P.zip vs) m x=_;unfold bindC;exact qF (i:=i) (dG.mp nd).2 (by simpa using h1) (by simpa using h2) hk
noncomputable def start(N:List Str)(vs:List V):St:=vs.map some++fP (N.length-vs.length) none
noncomputable def rO(CX:CXT)(P:Program)(w:World)(K:aa)(mg:Str->Option Value)(base:Heap)(N:List Str)(qual:Str)(scope:Scope)(f:Addr)(cd:Value)(A:Around)(outer:List Env)(s:Shared)(H:Hp)(E:XK):Cx where
 prog:=P
 w:=w
 K:=K
 mg:=mg
 base:=base
 A:=A.deeper (envOfC qual scope s.heap.objs.size f cd)
 N:=N
 s₀:=s
 H₀:=H
 env:=envOfC qual scope s.heap.objs.size f cd
 outer:=outer
 stack:=envOfC qual scope s.heap.objs.size f cd::outer
 ex:=[]
 calm:=true
 fn:=fun _=>true
 pn:=[]
 xe:=fun e s'=>wpAny (model P w) (A.deeper (envOfC qual scope s.heap.objs.size f cd)) (leaving (envOfC qual scope s.heap.objs.size f cd) e) (fun _ s''=>CX outer H s E e s'') (fun e' s''=>CX outer H s E e' s'') s'
theorem uu{sc:Scope}{n:Nat}{x:Str}(h:sc.names.lookup x=some .cell):∃c,(bT n sc.names []).lookup x=some c:=by
 have q:=uK sc.names n [] (.inl h);exact fg.mp q
theorem yd{CX:CXT}{P:Program}{w:World}{K:aa}{mg:Str->Option Value}{base:Heap}{N ps:List Str}{qual:Str}{scope:Scope}{f:Addr}{cd:Value}{A:Around}{outer:List Env}{s s1:Shared}{H:Hp}{E:XK}{us:List Value}{vs:List V}
  (S:se N ps scope)(hd:A.handled=none)(e0:Env0 P w K mg base A outer s H)(hl:vs.length=ps.length)(r:bJ vs us)
  (x:InCallC s s.heap.objs.size (bindL (envOfC qual scope s.heap.objs.size f cd).kindOf (ps.zip us) fun _=>none) (bT (s.heap.objs.size+1) scope.names []) (bindC (envOfC qual scope s.heap.objs.size f cd).kindOf (ps.zip us) fun _=>none) s1):
  Inv (rO CX P w K mg base N qual scope f cd A outer s H E) [] (start N vs) H s1:=by
 have hpl:ps.length<=N.length:=by have :=congrArg pU S.pre;rw[aF]at this;omega
 obtain⟨h1,tk,rfl,hk⟩:=x.done;have noA:∀b:Addr,b∉(rO CX P w K mg base N qual scope f cd A outer s H E).ex:=fun b z=>absurd (show b∈([]:List Addr)from z) (by simp);refine⟨⟨e0.mod,S.kind,rfl,rfl,aw _,fun y z c h1 h2=>?_,fun y hy=>?_,fun y c _ h=>?_,fun _=>hd,Around.frames_deeper e0.frames,.inr ⟨rfl,rfl⟩,fun b z=>absurd z (noA b),e0.bs,e0.bsz,fun b _ _=>noA b,fun b z=>absurd z (noA b),e0.rK,e0.frf⟩,
  rfl,e0.bare,Un.kept hk,⟨_,x.toInCall.ns,fun i y v h1 h2 h3=>?_⟩,fun y c h=>⟨_,x.cell y c h⟩,e0.hok.fresh (aw _),fun y c h=>?_,fun p hp=>absurd (show p∈([]:List (Addr×Obj))from hp) (by simp),e0.hok.kept hk,?_⟩
 ·exact name_of_addr x.apart (ba h1) (ba h2)
 ·have hy:scope.names.lookup y=some .cell\/scope.names.lookup y=some .free:=hy
  rcases hy with hy|hy
  ·exact uu hy
  ·exact absurd rfl (S.nofree _ (ba hy))
 ·exact fU (x.above y c (ba h))
 ·have hi:i<vs.length:=by
   unfold start at h2;by_cases hi:i<vs.length
   ·exact hi
   ·rw[dA (by simpa using hi)]at h2
    rw[List.getElem?_replicate]at h2;split at h2<;>cases h2
  have ha:vs[i]? =some v:=by
   unfold start at h2;rw[iR (by simpa using hi),aW]at h2;cases e:vs[i]? with
   |none=>rw[e]at h2;cases h2
   |some a=>rw[e]at h2;cases h2;rfl
  obtain⟨u,hu,rv⟩:=r.get ha;have hp:ps[i]? =some y:=by
   rw[<-S.pre,uY (by omega)];exact h1
  have ndP:ps.Nodup:=by rw[<-S.pre];exact S.nd.sublist (fN _ _)
  refine⟨u,rv,?_⟩;rcases S.par y (dJ hp)with k|k
  ·exact .inl ⟨k,qD ndP hp hu k⟩
  ·obtain⟨c,e⟩:=uu (n:=s.heap.objs.size+1) k
   refine .inr ⟨.inl k,c,e,?_⟩;have q:=x.cell y c e;rw[qF ndP hp hu (by show scope.names.lookup y≠_;rw[k];decide)]at q;exact q
 ·exact e0.hok.fresh (fU (x.above y c (ba h)))
 ·unfold start
  show _=N.length;rw[aj,ai,List.length_replicate];omega
theorem fn_of{CX:CXT}{P:Program}{w:World}{K:aa}{mg:Str->Option Value}{base:Heap}{k:Nat}{f:Addr}{name qual:Str}{params:Arguments}{body:List Stmt}{scope:Scope}{dV kV doc pm cdv ct oc:Value}{an od:Option Addr}
  {osl:Array (Option Value)}{N ps:List Str}{sp:Sp}(lk:K.lookup f=some ⟨oc,od,.func (aL name qual params body scope dV kV doc pm an cdv ct),osl⟩)(hcd:dO K cdv qual=true)(S:se N ps scope)
  (len:∀vs H Q E,sp vs H Q E->vs.length=ps.length)
  (hbody:∀(A:Around)(outer:List Env)(s:Shared)(H:Hp)(vs:List V)(Q:VK)(E:XK),ij k (A.deeper (envOfC qual scope s.heap.objs.size f cdv))->sp vs H Q E->
   ∃t,PSs (rO CX P w K mg base N qual scope f cdv A outer s H E) body t/\t {nx:=fun _ H'=>Q .non H',rt:=Q} (start N vs) H):
  gM P w K mg base CX (k+1) f (aL name qual params body scope dV kV doc pm an cdv ct) ps sp:=by
 refine⟨len,fun A outer s H args us vs Q E hr e0 hb r hsp=>?_⟩;have hl:=len _ _ _ _ hsp;have KX:K.In s.heap:=e0.mod.kin.keeps fun b o e=>(e0.bs b o e).1;have lim:s.heap.NoLimit:=e0.mod.nolimit.keeps fun b o e=>(e0.bs b o e).1;have hkind:∀y∈ps.zip us,scope.names.lookup y.1=some .local\/(scope.names.lookup y.1=some .cell/\((bT (s.heap.objs.size+1) scope.names []).lookup y.1).isSome=true):=fun⟨n,v⟩ hy=>by
  rcases S.par n (qH hy).1 with q|q
  ·exact .inl q
  ·exact .inr ⟨q,uK _ _ _ (.inl q)⟩
 refine codeAny_call_function hr.depth (KX _ _ lk) rfl S.co S.gen rfl (PySem.W.codeRec_of KX hcd) (hb _ _ _ _ ?_);refine wpAny_newFunctionEnv_cells S.kind hkind fun env he s1 x=>?_;subst he;refine⟨lim.keeps x.toInCall.keep,codeAny_func ?_⟩;obtain⟨t,ht,hq⟩:=hbody A outer s H vs Q E (hr.deeper _) hsp;have I:Inv (rO CX P w K mg base N qual scope f cdv A outer s H E) [] (start N vs) H s1:=yd S hr.hd e0 hl r x;refine dz (ht [] s1 (start N vs) H _ I hq) (fun fl s' hs=>?_) fun e s' hs=>hs;have fin:∀{σ':St}{H':Hp}{v:V}{u:Value},Inv (rO CX P w K mg base N qual scope f cdv A outer s H E) [] σ' H' s'->RelV v u->Q v H'->CE outer P w H s Q u s':=
  fun{σ' H' v u} J rv q=>⟨v,H',J.os,J.bare,J.base,J.hok,rv,q⟩
 cases fl with
 |ret u=>
  obtain⟨v,σ',H',J,rv,q⟩:=hs;exact fin J rv q
 |next =>
  obtain⟨σ',H',J,q⟩:=hs;exact fin (v:=V.non) (u:=bA) J rfl q
 |brk=>
  obtain⟨_,_,_,q⟩:=hs;exact iy q
 |cont=>
  obtain⟨_,_,_,q⟩:=hs;exact iy q
section
variable {X:Cx}{x:Str}{p pos:Pos}{e:Expr}{es:List Expr}{t:TA}{id T:String}{r:List V->Hp->VK->Prop}
noncomputable def tCB(r:List V->Hp->VK->Prop)(t:TA):TE:=fun σ H Q=>t σ H fun vs H1=>r vs H1 Q
theorem Af(hc:eU X (.builtin id) r)(hg:Gl X x)(hm:X.mg x=none)(hv:dD x=some (.builtin id))(ha:PA X (e::es) t)(hn:x≠"__name__":=by decide) (hdb:(x==("__debug__":Str))=false:=by decide)
  (he:bp (e::es) X.env=(false,eval e X.env)::bp es X.env:=by rfl) (hpl:(backTo pos (bp es X.env)).any (·.1)=false:=by rfl):PE X (.Call (.Name x p) (e::es) [] pos) (tCB r t):=by
 intro pins s σ H Q I h;refine fS (iV I hg hm hv ?_ hn hdb);exact kR (thn (ha pos pins s σ H _ I h) fun us s1 ⟨vs,H1,I1,r1,q1⟩=>hc pins s1 σ H1 vs us Q I1 r1 q1) he hpl
theorem xO(hc:eU X (.type T) r)(hg:Gl X x)(hm:X.mg x=none)(hv:dD x=some (.type T))(ha:PA X (e::es) t)(hn:x≠"__name__":=by decide) (hdb:(x==("__debug__":Str))=false:=by decide)
  (he:bp (e::es) X.env=(false,eval e X.env)::bp es X.env:=by rfl) (hpl:(backTo pos (bp es X.env)).any (·.1)=false:=by rfl):PE X (.Call (.Name x p) (e::es) [] pos) (tCB r t):=by
 intro pins s σ H Q I h;refine fS (iV I hg hm hv ?_ hn hdb);exact cz (thn (ha pos pins s σ H _ I h) fun us s1 ⟨vs,H1,I1,r1,q1⟩=>hc pins s1 σ H1 vs us Q I1 r1 q1) he hpl
end
end L2
namespace HT
open PySem PyProof.Rows
section
open PySem.SeqAt
open PySem.AutoSeq1 (wpAny_loadPart')
open PySem.MeetsSeq PySem.MeetsSeq2 PySem.MeetsSeq3
end
section
variable {prog:Program}{w:World}{A:Around}{E:Value->Shared->Prop}{s:Shared}
noncomputable def sIx(n d:Nat):Option Int->Nat
 |none=>d
 |some v=>if v<0 then(v+(n:Int)).toNat else min v.toNat n
theorem oh(n d:Nat):sIx n d none=d:=rfl
theorem qY(n d k:Nat):sIx n d (some (k:Int))=min k n:=by
 show(if(k:Int)<0 then((k:Int)+(n:Int)).toNat else min (k:Int).toNat n)=min k n;rw[if_neg (by omega),dk]
theorem zw(n d:Nat)(hd:d<=n)(o:Option Int):sIx n d o<=n:=by
 cases o with
 |none=>exact hd
 |some v=>
  show(if v<0 then(v+(n:Int)).toNat else min v.toNat n)<=n;by_cases hv:v<0
  ·rw[if_pos hv];omega
  ·rw[if_neg hv];exact gq _ _
theorem clip_eq(v:Int)(n d:Nat):(if v<0 then max (v+(n:Int)) 0 else min v (n:Int))=((sIx n d (some v):Nat):Int):=by
 show(if v<0 then max (v+(n:Int)) 0 else min v (n:Int))=(((if v<0 then(v+(n:Int)).toNat else min v.toNat n):Nat):Int);by_cases hv:v<0
 ·simp only[if_pos hv];omega
 ·simp only[if_neg hv];omega
end
end HT
namespace L2
open PySem PySem.Spec PyProof.Rows
noncomputable abbrev TO:=St->Hp->(Option Int->Hp->Prop)->Prop
noncomputable def PO(X:Cx)(e:Option Expr)(t:TO):Prop:=
 ∀(pins:List (Addr×Obj))(s:Shared)(σ:St)(H:Hp)(Q:Option Int->Hp->Prop),Inv X pins σ H s->t σ H Q->
  wpAny (model X.prog X.w) X.A (evalPart e X.env) (fun u s'=>∃o H',Inv X pins σ H' s'/\IsPart u o/\Q o H') X.xe s
noncomputable def qO:TO:=fun _ H Q=>Q none H
noncomputable def za(t:TE):TO:=fun σ H Q=>t σ H fun x H1=>∃i,x=.int i/\Q (some i) H1
section
variable {X:Cx}{e:Expr}{te:TE}{lo hi:Option Expr}{tl th:TO}{pos p2:Pos}
theorem po_none:PO X none qO:=by
 intro pins s σ H Q I h;rw[Bb];exact ah ⟨none,H,I,.none,h⟩
theorem po_some(h:PE X e te):PO X (some e) (za te):=by
 intro pins s σ H Q I hw;rw[evalPart_some];refine thn (h pins s σ H _ I hw) fun u s1 ⟨x,H1,I1,r1,q1⟩=>?_;obtain⟨i,rfl,q⟩:=q1;obtain⟨t,rfl⟩:=r1;exact⟨some i,H1,I1,.int i t,q⟩
noncomputable def SlR(X:Cx)(r:V->Option Int->Option Int->Hp->VK->Prop):Prop:=
 ∀(pins:List (Addr×Obj))(s:Shared)(σ:St)(H:Hp)(x:V)(v vl vu:Value)(lo hi:Option Int)(sl:Addr)(Q:VK),Inv X pins σ H s->RelV x v->s.heap.IsSliceOf sl vl vu .none->IsPart vl lo->IsPart vu hi->r x lo hi H Q->
  ∃T id,typeLookup (.type T) "__getitem__"=pure (some (.builtin id))/\s.TypeIs v T/\wpAny (model X.prog X.w) X.A (xh v (.ref sl)) (EP X pins σ Q) X.xe s
theorem SlR.or{r r':V->Option Int->Option Int->Hp->VK->Prop}(h:SlR X r)(h':SlR X r'):SlR X (fun x lo hi H Q=>r x lo hi H Q\/r' x lo hi H Q):=by
 intro pins s σ H x v vl vu lo hi sl Q I rx hs pl pu q;rcases q with q|q
 ·exact h pins s σ H x v vl vu lo hi sl Q I rx hs pl pu q
 ·exact h' pins s σ H x v vl vu lo hi sl Q I rx hs pl pu q
noncomputable def tSl(r:V->Option Int->Option Int->Hp->VK->Prop)(te:TE)(tl th:TO):TE:=fun σ H Q=>te σ H fun x H1=>tl σ H1 fun l H2=>th σ H2 fun u H3=>r x l u H3 Q
theorem z0{r:V->Option Int->Option Int->Hp->VK->Prop}(hr:SlR X r)(he:PE X e te)(hl:PO X lo tl)(hu:PO X hi th):PE X (.Subscript e (.Slice lo hi none p2) pos) (tSl r te tl th):=by
 intro pins s σ H Q I h;refine yB (thn (he pins s σ H _ I h) fun v s1 ⟨x,H1,I1,r1,q1⟩=>?_);refine wpAny_Slice (thn (hl pins s1 σ H1 _ I1 q1) fun vl s2 ⟨l,H2,I2,pl,q2⟩=>thn (hu pins s2 σ H2 _ I2 q2) fun vu s3 ⟨u,H3,I3,pu,q3⟩=>?_);rw[Bb];refine ah ?_;have I4:Inv X pins σ H3 {s3 with heap:=s3.heap.push {cls:=.type "slice",data:=.fields #[vl,vu,.none]}}:=I3.kept (t':=s3.toks) fun b ob q=>af _ q;obtain⟨T,id,hT,ht,hg⟩:=hr pins {s3 with heap:=s3.heap.push {cls:=.type "slice",data:=.fields #[vl,vu,.none]}} σ H3 x v vl vu l u s3.heap.objs.size Q I4 r1 (qJ ..) pl pu q3;show wpAny (model X.prog X.w) X.A (pA e (.Slice lo hi none p2) v (.ref s3.heap.objs.size)) (EP X pins σ Q) X.xe {s3 with heap:=s3.heap.push {cls:=.type "slice",data:=.fields #[vl,vu,.none]}};exact tail_any (ops:=[.ref s3.heap.objs.size,v]) ht hT hg (by with_unfolding_all rfl)
noncomputable def pM(xs:List V)(lo hi:Option Int):List V:=(xs.drop (HT.sIx xs.length 0 lo)).take (HT.sIx xs.length xs.length hi-HT.sIx xs.length 0 lo)
theorem uo(xs:List V)(lo hi:Option Int):(pM xs lo hi).length<=xs.length:=by
 unfold pM;rw[aF,bq];omega
noncomputable def rSlT(K:aa):V->Option Int->Option Int->Hp->VK->Prop:=fun x lo hi H Q=>∃a xs,x=.ref a/\SqT K H a xs/\
 ¬(HT.sIx xs.length 0 lo=0/\HT.sIx xs.length xs.length hi=xs.length)/\∀p,H p=none->Q (.ref p) (upd H p (.tup (pM xs lo hi)))
end
noncomputable def ixN(n:Nat)(i:Int):Option Nat:=if 0<=i then(if i<n then some i.toNat else none)else if -(n:Int)<=i then some (i+n).toNat else none
noncomputable def atI{α:Type}(xs:List α)(i:Int):Option α:=(ixN xs.length i).bind fun j=>xs[j]?
theorem ixN_seq{n:Nat}{i:Int}{j:Nat}(h:ixN n i=some j):seqIndex? i n=some j/\j<n∧-(n:Int)<=i/\i<n:=by
 unfold ixN at h;by_cases h0:0<=i
 ·rw[if_pos h0]at h
  by_cases h1:i<n
  ·rw[if_pos h1]at h
   have e:i.toNat=j:=bz h;exact⟨by rw[seqIndex_of h0 h1,e],by omega,by omega,h1⟩
  ·rw[if_neg h1]at h;cases h
 ·rw[if_neg h0]at h
  by_cases h1: -(n:Int)<=i
  ·rw[if_pos h1]at h
   have e:(i+n).toNat=j:=bz h;exact⟨by rw[seqIndex_neg (by omega) h1,e],by omega,h1,by omega⟩
  ·rw[if_neg h1]at h;cases h
theorem rZ{α:Type}{xs:List α}{i:Int}{v:α}(h:atI xs i=some v):∃j,seqIndex? i xs.length=some j/\xs[j]? =some v/\j<xs.length∧-(xs.length:Int)<=i/\i<xs.length:=by
 unfold atI at h;cases e:ixN xs.length i with
 |none=>rw[e]at h;cases h
 |some j=>
  rw[e]at h;obtain⟨h1,h2,h3,h4⟩:=ixN_seq e;exact⟨j,h1,h,h2,h3,h4⟩
theorem lF{α:Type}{xs:List α}{j:Nat}{v:α}(h:xs[j]? =some v):atI xs (j:Int)=some v:=by
 have hj:j<xs.length:=(aR.mp h).1;have e:ixN xs.length (j:Int)=some j:=by
  unfold ixN;rw[if_pos (by omega),if_pos (by omega)];simp
 unfold atI;rw[e];exact h
noncomputable def xg(b:Expr):Prop:=∀o i,subscripted b false o i=operate [o,i] (xh o i)
noncomputable def IxR(X:Cx)(r:R2):Prop:=
 ∀(value slice:Expr)(pins:List (Addr×Obj))(s:Shared)(σ:St)(H:Hp)(x y:V)(v u:Value)(Q:VK),Inv X pins σ H s->RelV x v->RelV y u->r x y H Q->
  subscripted slice false v u=operate [v,u] (xh v u)->wpAny (model X.prog X.w) X.A (pA value slice v u) (EP X pins σ Q) X.xe s
noncomputable def MtR(X:Cx)(id:String)(r:V->List V->Hp->VK->Prop):Prop:=
 ∀(pins:List (Addr×Obj))(s:Shared)(σ:St)(H:Hp)(x:V)(xs:List V)(v:Value)(us:List Value)(Q:VK),Inv X pins σ H s->RelV x v->bJ xs us->r x xs H Q->
  wpAny (model X.prog X.w) X.A (call (.builtin id) (v::us)) (EP X pins σ Q) X.xe s
section
variable {X:Cx}{a b:Expr}{ta tb:TE}{pos:Pos}
theorem IxR.or{r r':R2}(h:IxR X r)(h':IxR X r'):IxR X (fun x y H Q=>r x y H Q\/r' x y H Q):=by
 intro value slice pins s σ H x y v u Q I rx ry q hs;rcases q with q|q
 ·exact h value slice pins s σ H x y v u Q I rx ry q hs
 ·exact h' value slice pins s σ H x y v u Q I rx ry q hs
theorem MtR.or{id:String}{r r':V->List V->Hp->VK->Prop}(h:MtR X id r)(h':MtR X id r'):MtR X id (fun x xs H Q=>r x xs H Q\/r' x xs H Q):=by
 intro pins s σ H x xs v us Q I rx rs q;rcases q with q|q
 ·exact h pins s σ H x xs v us Q I rx rs q
 ·exact h' pins s σ H x xs v us Q I rx rs q
theorem pe_ix{r:R2}(hr:IxR X r)(ha:PE X a ta)(hb:PE X b tb)(hs:xg b):PE X (.Subscript a b pos) (tOp r ta tb):=by
 intro pins s σ H Q I h;exact yB (binT ha hb I h fun v u s2 x y H2 I2 rx ry q=>hr a b pins s2 σ H2 x y v u Q I2 rx ry q (hs _ _))
noncomputable def rIxL(K:aa):R2:=fun x y H Q=>∃p xs i v,x=.ref p/\y=.int i/\SqL K H p xs/\atI xs i=some v/\Q v H
noncomputable def rIxT(K:aa):R2:=fun x y H Q=>∃p xs i v,x=.ref p/\y=.int i/\SqT K H p xs/\atI xs i=some v/\Q v H
noncomputable def rIxS:R2:=fun x y H Q=>∃z i c,x=.str z/\y=.int i/\z.length<=sizeLine/\atI z.cps.toList i=some c/\Q (.str ⟨#[c]⟩) H
theorem ix_list:IxR X (rIxL X.K):=by
 intro value slice pins s σ H x y v u Q I rx ry h hs;obtain⟨p,xs,i,z,rfl,rfl,hq,he,q⟩:=h;cases rx;obtain⟨t,rfl⟩:=ry;obtain⟨its,r,pl,hz⟩:=I.list hq;obtain⟨j,h1,h2,h3,h4,h5⟩:=rZ he;obtain⟨w,ew,rw'⟩:=r.get h2;have hl:=r.length;have hn:=md;have fin:EP X pins σ Q w s:=⟨z,H,I,rw',q⟩;by_cases h0:0<=i
 ·have hj:i.toNat=j:=by
   rw[seqIndex_of h0 h5]at h1;exact bz h1
  exact item_listR pl.isList h0 (by omega) (by rw[hj];simpa using ew) fin hs
 ·have hj:(i+(its.toArray.size:Int)).toNat=j:=by
   rw[seqIndex_neg (by omega) h4]at h1;rw[aq,<-hl];exact bz h1
  exact subscriptTail_builtinR (x:=w) pl.isList.typeIs sh.lookup
   (wpAny_getItem_list_neg (Q:=fun r s'=>r=w/\EP X pins σ Q r s') pl.isList (by omega) (by rw[aq]<;>omega) (by omega) (by rw[hj];simpa using ew) ⟨rfl,fin⟩) hs
theorem ix_tup:IxR X (rIxT X.K):=by
 intro value slice pins s σ H x y v u Q I rx ry h hs;obtain⟨p,xs,i,z,rfl,rfl,hq,he,q⟩:=h;cases rx;obtain⟨t,rfl⟩:=ry;obtain⟨its,r,pl,hz⟩:=I.tuple hq;obtain⟨j,h1,h2,h3,h4,h5⟩:=rZ he;obtain⟨w,ew,rw'⟩:=r.get h2;have hl:=r.length;have hn:=md;have fin:EP X pins σ Q w s:=⟨z,H,I,rw',q⟩;exact subscriptTail_builtinR (x:=w) pl.typeIs slot_tuple_getitem.lookup
  (getItem_tuple (j:=j) (Q:=fun r s'=>r=w/\EP X pins σ Q r s') pl (by omega) (by omega) (by rw[aq,<-hl];exact h1) (by simpa using ew) ⟨rfl,fin⟩) hs
theorem ix_str:IxR X rIxS:=by
 intro value slice pins s σ H x y v u Q I rx ry h hs;obtain⟨z,i,c,rfl,rfl,hz,he,q⟩:=h;obtain⟨t,rfl⟩:=rx;obtain⟨t',rfl⟩:=ry;obtain⟨j,h1,h2,h3,h4,h5⟩:=rZ he;have hl:z.cps.toList.length=z.length:=by simp[Str.length]
 rw[hl]at h1 h4 h5;have hn:=md;exact tail_any (typeIs_str s z t) slot_str_getitem.lookup (getItem_str (c:=c) (by
  have e1:decide (i< -(2^63:Int))=false:=decide_eq_false (by omega);have e2:decide (i≥ 2^63)=false:=decide_eq_false (by omega);rw[e1,e2,Bool.or_false]) (by rw[h1];simpa using h2) ⟨.str ⟨#[c]⟩,H,I.tok _,⟨_,rfl⟩,q⟩) hs
noncomputable def rIx(K:aa):R2:=fun x y H Q=>rIxL K x y H Q\/rIxT K x y H Q\/rIxS x y H Q
theorem ix_seq:IxR X (rIx X.K):=ix_list.or (ix_tup.or ix_str)
theorem qU(lo hi:Option Int)(n:Nat):(fj lo hi none n).1=((HT.sIx n 0 lo:Nat):Int)/\(fj lo hi none n).2.1=((HT.sIx n n hi:Nat):Int)/\(fj lo hi none n).2.2=1:=by
 refine⟨?_,?_,rfl⟩
 ·cases lo with
  |none=>simp[fj,HT.sIx]
  |some i=>
   simp only[fj,HT.sIx,nQ,show(1:Int)>0 by decide,if_true];by_cases h:i<0
   ·simp only[h,if_true]<;>omega
   ·simp only[h,if_false]<;>omega
 ·cases hi with
  |none=>simp[fj,HT.sIx]
  |some i=>
   simp only[fj,HT.sIx,nQ,show(1:Int)>0 by decide,if_true];by_cases h:i<0
   ·simp only[h,if_true]<;>omega
   ·simp only[h,if_false]<;>omega
theorem pG(its:List Value)(lo hi:Option Int):slicePick its.toArray lo hi none=((its.drop (HT.sIx its.length 0 lo)).take (HT.sIx its.length its.length hi-HT.sIx its.length 0 lo)).toArray:=by
 obtain⟨h1,h2,h3⟩:=qU lo hi its.toArray.size;unfold slicePick;rw[h1,h2,h3];simp only[sliceRange_one,pick_run,aq]<;>rfl
noncomputable def rSlL(K:aa):V->Option Int->Option Int->Hp->VK->Prop:=fun x lo hi H Q=>∃a xs,x=.ref a/\SqL K H a xs/\∀p,H p=none->Q (.ref p) (upd H p (.lst (pM xs lo hi)))
theorem sl_list:SlR X (rSlL X.K):=by
 intro pins s σ H x v vl vu lo hi sl Q I rx hs pl pu h;obtain⟨a,xs,rfl,hx,q⟩:=h;cases rx;obtain⟨its,r,ht,hz⟩:=I.list hx;have hlen:=r.length;refine⟨"list",_,sh.lookup,ht.isList.typeIs,?_⟩;refine Ba ht.isList hs pl pu .none (by simp) ?_ (by rw[aq]<;>omega);rw[pG,<-hlen];refine⟨.ref s.heap.objs.size,_,I.laid (t':=s.toks) (o:=.lst (pM xs lo hi)) (fun b ob q=>af _ q) (aw _) ?_,rfl,q _ (I.hok.fresh (aw _))⟩;exact⟨aQ (uo xs lo hi) hz,_,0,(r.drop (HT.sIx xs.length 0 lo)).take (HT.sIx xs.length xs.length hi-HT.sIx xs.length 0 lo),aE _ rfl⟩
noncomputable def mT:V->Bool
 |.non=>true
 |.bl _=>true
 |.int _=>true
 |.str _=>true
 |_=>false
noncomputable def eqV:V->V->Bool
 |.non,.non=>true
 |.bl a,.bl b=>a==b
 |.bl a,.int b=>(if a then 1 else 0)==b
 |.int a,.bl b=>a==(if b then 1 else 0)
 |.int a,.int b=>a==b
 |.str a,.str b=>a==b
 |_,_=>false
theorem eB{A:Around}{s:Shared}{y x:V}{u v:Value}(ry:RelV y u)(rx:RelV x v)(fy:mT y=true)(fx:mT x=true):SeqAt.EqAt A s u v (eqV y x):=by
 cases y with
 |non=>
  cases ry;cases x with
  |non=>cases rx;exact SeqAt.EqAt.same _
  |bl b=>cases rx;exact SeqAt.EqAt.none_bool b
  |int b=>obtain⟨t,rfl⟩:=rx;exact SeqAt.EqAt.none_int b t
  |str b=>obtain⟨t,rfl⟩:=rx;exact SeqAt.EqAt.none_str b t
  |_=>exact absurd (show false=true from fx) bF
 |bl a=>
  cases ry;cases x with
  |non=>cases rx;exact SeqAt.EqAt.bool_none a
  |bl b=>cases rx;exact SeqAt.EqAt.bool_bool a b
  |int b=>obtain⟨t,rfl⟩:=rx;exact SeqAt.EqAt.bool_int a b t
  |str b=>obtain⟨t,rfl⟩:=rx;exact SeqAt.EqAt.bool_str a b t
  |_=>exact absurd (show false=true from fx) bF
 |int a=>
  obtain⟨t',rfl⟩:=ry;cases x with
  |non=>cases rx;exact SeqAt.EqAt.int_none a t'
  |bl b=>cases rx;exact SeqAt.EqAt.int_bool a t' b
  |int b=>obtain⟨t,rfl⟩:=rx;exact uV a t' b t
  |str b=>obtain⟨t,rfl⟩:=rx;exact uU a t' b t
  |_=>exact absurd (show false=true from fx) bF
 |str a=>
  obtain⟨t',rfl⟩:=ry;cases x with
  |non=>cases rx;exact SeqAt.EqAt.str_none a t'
  |bl b=>cases rx;exact SeqAt.EqAt.str_bool a t' b
  |int b=>obtain⟨t,rfl⟩:=rx;exact uS a t' b t
  |str b=>obtain⟨t,rfl⟩:=rx;exact SeqAt.EqAt.str_str a t' b t
  |_=>exact absurd (show false=true from fx) bF
 |_=>exact absurd (show false=true from fy) bF
noncomputable def eqU(x:V)(u:Value):Bool:=match u with
 |.none=>eqV .non x
 |.bool b=>eqV (.bl b) x
 |.int i _=>eqV (.int i) x
 |.str z _=>eqV (.str z) x
 |_=>false
theorem AO{x y:V}{u:Value}(r:RelV y u)(f:mT y=true):eqU x u=eqV y x:=by
 cases y with
 |non=>cases r;rfl
 |bl b=>cases r;rfl
 |int i=>obtain⟨t,rfl⟩:=r;rfl
 |str z=>obtain⟨t,rfl⟩:=r;rfl
 |_=>exact absurd (show false=true from f) bF
theorem lI{x:V}:∀{xs:List V}{us:List Value},bJ xs us->xs.all mT=true->us.any (eqU x)=xs.any fun y=>eqV y x
 |_,_,.nil,_=>rfl
 |y::xs,u::us,.cons r t,f=>by
  rw[mD,aK]at f;rw[jg,jg,AO r f.1,lI t f.2]
theorem jw{A:Around}{s:Shared}{x:V}{v:Value}(rx:RelV x v)(fx:mT x=true):∀{xs:List V}{us:List Value},bJ xs us->xs.all mT=true->∀u∈us,SeqAt.EqAt A s u v (eqU x u)
 |_,_,.nil,_=>fun u hu=>by cases hu
 |y::xs,u::us,.cons r t,f=>fun u' hu=>by
  rw[mD,aK]at f;rcases aD.mp hu with rfl|hu
  ·rw[AO r f.1];exact eB r rx f.1 fx
  ·exact jw rx fx t f.2 u' hu
noncomputable def inV(x:V)(xs:List V):Bool:=xs.any fun y=>eqV y x
noncomputable def rIn(K:aa)(neg:Bool):R2:=fun x y H Q=>∃p xs,y=.ref p/\(SqL K H p xs\/SqT K H p xs)/\mT x=true/\xs.all mT=true/\Q (.bl (if neg then !inV x xs else inV x xs)) H
theorem xU:OpR X (cc .In) (rIn X.K false):=by
 intro pins s σ H x y v u Q I rx ry h;obtain⟨p,xs,rfl,hq,fx,fs,q⟩:=h;cases ry;rcases hq with hq|hq
 ·obtain⟨its,r,pl,hz⟩:=I.list hq
  refine SeqAt.in_listAt (eqU x) pl.isList (fun w hw=>jw rx fx r fs w (by simpa using hw)) ⟨.bl _,H,I,rfl,?_⟩;rw[show its.toArray.any (eqU x)=its.any (eqU x) by simp,lI r fs];exact q
 ·obtain⟨its,r,pl,hz⟩:=I.tuple hq
  refine SeqAt.in_tupleAt (eqU x) pl (fun w hw=>jw rx fx r fs w (by simpa using hw)) ⟨.bl _,H,I,rfl,?_⟩;rw[show its.toArray.any (eqU x)=its.any (eqU x) by simp,lI r fs];exact q
theorem ro:OpR X (cc .NotIn) (rIn X.K true):=by
 intro pins s σ H x y v u Q I rx ry h;obtain⟨p,xs,rfl,hq,fx,fs,q⟩:=h;cases ry;rcases hq with hq|hq
 ·obtain⟨its,r,pl,hz⟩:=I.list hq
  refine SeqAt.notIn_listAt (eqU x) pl.isList (fun w hw=>jw rx fx r fs w (by simpa using hw)) ⟨.bl _,H,I,rfl,?_⟩;rw[show its.toArray.any (eqU x)=its.any (eqU x) by simp,lI r fs];exact q
 ·obtain⟨its,r,pl,hz⟩:=I.tuple hq
  refine SeqAt.notIn_tupleAt (eqU x) pl (fun w hw=>jw rx fx r fs w (by simpa using hw)) ⟨.bl _,H,I,rfl,?_⟩;rw[show its.toArray.any (eqU x)=its.any (eqU x) by simp,lI r fs];exact q
theorem rn:OpR X (cc .NotIn) (fun x y H Q=>∃i j,x=.str i/\y=.str j/\Q (.bl (!(!(eX j i 0 j.length 1).isEmpty))) H):=by
 intro pins s σ H x y v u Q I rx ry h;obtain⟨i,j,rfl,rfl,q⟩:=h;obtain⟨t,rfl⟩:=rx;obtain⟨t',rfl⟩:=ry;exact notIn_str ⟨.bl _,H,I,rfl,q⟩
theorem rR:eU X (.builtin "len") (fun xs H Q=>∃p ys,xs=[.ref p]/\(SqL X.K H p ys\/SqT X.K H p ys)/\Q (.int ys.length) H):=by
 intro pins s σ H xs us Q I r h;obtain⟨p,ys,rfl,hq,q⟩:=h;obtain⟨u,rfl,rx⟩:=vals1 r;cases rx;have hn:=md;rcases hq with hq|hq
 ·obtain⟨its,r',pl,hz⟩:=I.list hq
  have hlen:=r'.length;exact Calls.call_len_list pl.isList (by simp only[aq]<;>omega) ⟨.int ys.length,H,I.tok _,⟨s.toks+1,by rw[aq,hlen]⟩,q⟩
 ·obtain⟨its,r',pl,hz⟩:=I.tuple hq
  have hlen:=r'.length;exact len_tuple pl (by simp only[aq]<;>omega) ⟨.int ys.length,H,I.tok _,⟨s.toks+1,by rw[aq,hlen]⟩,q⟩
theorem rQ:eU X (.builtin "len") (fun xs H Q=>∃z,xs=[.str z]/\z.length<=sizeLine/\Q (.int z.length) H):=by
 intro pins s σ H xs us Q I r h;obtain⟨z,rfl,hz,q⟩:=h;obtain⟨u,rfl,t,rfl⟩:=vals1 r;have hn:=md;exact len_str (by omega) ⟨.int z.length,H,I.tok _,⟨_,rfl⟩,q⟩
theorem eU.or{f:Value}{r r':List V->Hp->VK->Prop}(h:eU X f r)(h':eU X f r'):eU X f (fun xs H Q=>r xs H Q\/r' xs H Q):=by
 intro pins s σ H xs us Q I rs q;rcases q with q|q
 ·exact h pins s σ H xs us Q I rs q
 ·exact h' pins s σ H xs us Q I rs q
theorem rP:eU X (.type "list") (fun xs H Q=>∃p ys,xs=[.ref p]/\(SqL X.K H p ys\/SqT X.K H p ys)/\∀l,H l=none->Q (.ref l) (upd H l (.lst ys))):=by
 intro pins s σ H xs us Q I r h;obtain⟨p,ys,rfl,hq,q⟩:=h;obtain⟨u,rfl,rx⟩:=vals1 r;cases rx;have fin:∀(its:List Value),bJ ys its->ys.length<=sizeLine->∀(h':Heap)(c':Nat),(∀b o',s.heap.get? b=some o'->h'.get? b=some o')->
   h'.get? s.heap.objs.size=some {cls:=.type "list",dict:=none,data:=.seq its.toArray c',slots:= #[]}->EP X pins σ Q (.ref s.heap.objs.size) {s with heap:=h'}:=fun its r' hz h' c' kp e=>
  ⟨.ref s.heap.objs.size,_,I.laid (t':=s.toks) kp (aw _) (show cZ X.prog X.w _ h' _ (.lst ys)from⟨hz,its,c',r',e⟩),rfl,q _ (I.hok.fresh (aw _))⟩
 rcases hq with hq|hq
 ·obtain⟨its,r',pl,hz⟩:=I.list hq
  have hlen:=r'.length;obtain⟨o,ho,hc,n,hd⟩:=pl.isList;exact call_list_seq p (.inl rfl) ho hc hd (fun h' c' kp e=>fin its r' hz h' c' kp e) (by simp only[aq]<;>omega)
 ·obtain⟨its,r',pl,hz⟩:=I.tuple hq
  have hlen:=r'.length;obtain⟨o,ho,hc,n,hd⟩:=pl;exact call_list_seq p (.inr rfl) ho hc hd (fun h' c' kp e=>fin its r' hz h' c' kp e) (by simp only[aq]<;>omega)
theorem pO:eU X (.type "tuple") (fun xs H Q=>∃p ys,xs=[.ref p]/\((SqL X.K H p ys/\∀l,H l=none->Q (.ref l) (upd H l (.tup ys)))\/(SqT X.K H p ys/\Q (.ref p) H))):=by
 intro pins s σ H xs us Q I r h;obtain⟨p,ys,rfl,h⟩:=h;obtain⟨u,rfl,rx⟩:=vals1 r;cases rx;rcases h with⟨hq,q⟩ |⟨hq,q⟩
 ·obtain⟨its,r',pl,hz⟩:=I.list hq
  have hlen:=r'.length;refine call_tuple_list pl.isList (fun h' kp=>?_) (by simp only[aq]<;>omega);have I1:Inv X pins σ H {s with heap:=h'}:=I.kept (t':=s.toks) kp;have I2:Inv X pins σ (upd H h'.objs.size (.tup ys)) {s with heap:=h'.push {cls:=.type "tuple",data:=.seq its.toArray}}:=
   I1.laid (t':=s.toks) (fun b o e=>af _ e) (aw _) (show cZ X.prog X.w _ _ _ (.tup ys)from⟨hz,its,r',IsTup.new _ _⟩)
  exact⟨.ref h'.objs.size,_,I2,rfl,q _ (I1.hok.fresh (aw _))⟩
 ·obtain⟨its,r',pl,hz⟩:=I.tuple hq
  exact call_tuple_same pl ⟨.ref p,H,I,rfl,q⟩
noncomputable def tyV(K:aa)(T:String)(x:V)(H:Hp):Prop:=match x with
 |.str _=>T="str"
 |.int _=>T="int"
 |.ref p=>(T="list"/\∃xs,SqL K H p xs)\/(T="tuple"/\∃o,K.lookup p=some o/\o.cls=.type "tuple"/\o.dict=none)\/
   (T="dict"/\((∃kvs,H p=some (.dK kvs))\/∃kvs,H p=some (.dT kvs)))\/(T="set"/\∃S n,H p=some (.set S n))
 |_=>False
theorem yV{pins:List (Addr×Obj)}{σ:St}{H:Hp}{s:Shared}{T:String}{x:V}{v:Value}(I:Inv X pins σ H s)(r:RelV x v)(ty:tyV X.K T x H):
  s.TypeIs v T/\∀a,v=.ref a->∃ob,s.heap.get? a=some ob/\ob.dict=none:=by
 cases x with
 |str z=>
  obtain⟨t,rfl⟩:=r;cases(show T="str" from ty);exact⟨typeIs_str s z t,fun _ e=>nomatch e⟩
 |int i=>
  obtain⟨t,rfl⟩:=r;cases(show T="int" from ty);exact⟨typeIs_int s i t,fun _ e=>nomatch e⟩
 |ref p=>
  cases r;rcases ty with⟨rfl,xs,hq⟩ |⟨rfl,o,hk,hc,hd⟩ |⟨rfl,hk⟩ |⟨rfl,S,n,hk⟩
  ·obtain⟨its,_,pl,_⟩:=I.list hq
   refine⟨pl.isList.typeIs,fun a e=>?_⟩;cases e;obtain⟨o,n,e,c,hd,_⟩:=pl;exact⟨o,e,hd⟩
  ·refine⟨⟨o,I.kIn p o hk,hc⟩,fun a e=>?_⟩
   cases e;exact⟨o,I.kIn _ o hk,hd⟩
  ·have z:∃o,s.heap.get? p=some o/\o.ExactDict:=by
    rcases hk with⟨kvs,hk⟩ |⟨kvs,hk⟩
    ·obtain⟨_,_,_,_,o,_,_,e,ex,_⟩:=I.hok p _ hk
     exact⟨o,e,ex⟩
    ·obtain⟨_,_,_,_,o,_,_,e,ex,_⟩:=I.hok p _ hk
     exact⟨o,e,ex⟩
   obtain⟨o,e,ex⟩:=z;refine⟨⟨o,e,ex.1⟩,fun a e2=>?_⟩;cases e2;exact⟨o,e,ex.2.1⟩
  ·obtain⟨o,_,_,_,e,ex,_⟩:=I.hok p _ hk
   refine⟨⟨o,e,ex.1⟩,fun a e2=>?_⟩;cases e2;exact⟨o,e,ex.2.1⟩
 |_=>exact iy ty
noncomputable def tBM0(K:aa)(T:String)(r:V->List V->Hp->VK->Prop)(to:TE):TE:=fun σ H Q=>to σ H fun x H1=>tyV K T x H1/\r x [] H1 Q
noncomputable def tBM(K:aa)(T:String)(r:V->List V->Hp->VK->Prop)(to:TE)(t:TA):TE:=fun σ H Q=>to σ H fun x H1=>tyV K T x H1/\t σ H1 fun xs H2=>r x xs H2 Q
variable {o e:Expr}{es:List Expr}{to:TE}{t:TA}{name:Str}{apos cpos:Pos}{T id:String}{r:V->List V->Hp->VK->Prop}
theorem pe_bm0(pa:PlainAttrs T)(slot:Slot T name id)(hty:typeOf (.builtin id)=pure (.type "method_descriptor"))(hm:MtR X id r)(ho:PE X o to)
  (hbase:pB o name X.env (eval o X.env)=eval o X.env:=by rfl) (hline:(apos.endLine==cpos.line)=true:=by rfl):PE X (.Call (.Attribute o name apos) [] [] cpos) (tBM0 X.K T r to):=by
 intro pins s σ H Q I h;refine wpAny_Call_method0_late hbase hline (thn (ho pins s σ H _ I h) fun v s1 ⟨x,H1,I1,r1,ty,q1⟩=>?_);obtain⟨h1,h2⟩:=yV I1 r1 ty;exact⟨T,id,pa,slot,hty,h1,h2,jI rfl (PySem.evalArgs_none (hm pins s1 σ H1 x [] v [] Q I1 r1 .nil q1))⟩
theorem pe_bm(pa:PlainAttrs T)(slot:Slot T name id)(hty:typeOf (.builtin id)=pure (.type "method_descriptor"))(hm:MtR X id r)(ho:PE X o to)(ha:PA X (e::es) t)
  (hbase:pB o name X.env (eval o X.env)=eval o X.env:=by rfl)
  (hfew:((backTo cpos (bp (e::es) X.env)).all (fun x=> !x.1)&&(backToKw cpos (keywordEach [] X.env)).all (fun x=>x.1.isSome)
   &&decide ((e::es).length+([]:List Keyword).length+(if([]:List Keyword).isEmpty then 0 else 1)<30))=true:=by rfl)
  (hline:(apos.endLine==cpos.line)=true:=by rfl) (hs:bp (e::es) X.env=(false,eval e X.env)::bp es X.env:=by rfl) (hplain:(backTo cpos (bp es X.env)).any (·.1)=false:=by rfl):
  PE X (.Call (.Attribute o name apos) (e::es) [] cpos) (tBM X.K T r to t):=by
 intro pins s σ H Q I h;refine wpAny_Call_method_late hbase hfew hline rfl (thn (ho pins s σ H _ I h) fun v s1 ⟨x,H1,I1,r1,ty,q1⟩=>?_);obtain⟨h1,h2⟩:=yV I1 r1 ty;refine⟨T,id,pa,slot,hty,h1,h2,?_⟩;have hA:=ha cpos pins s1 σ H1 _ I1 q1;rw[hs]at hA⊢;refine jI (by show(false||(backTo cpos (bp es X.env)).any (·.1))=false;rw[hplain]<;>rfl) (yG ?_);exact thn hA fun us s2 ⟨vs,H2,I2,r2,q2⟩=>hm pins s2 σ H2 x vs v us Q I2 r1 r2 q2
end
noncomputable def MtM(X:Cx)(id:String)(r:V->List V->Hp->VK->Prop):Prop:=
 ∀(pins:List (Addr×Obj))(s:Shared)(σ:St)(H:Hp)(x:V)(xs:List V)(v:Value)(us:List Value)(Q:VK),Inv X pins σ H s->RelV x v->bJ xs us->r x xs H Q->
  wpAny (model X.prog X.w) X.A (call (.builtin id) (v::us)) (EP X pins σ Q) X.xe s
theorem bJ.one{x:V}{us:List Value}(h:bJ [x] us):∃u,us=[u]/\RelV x u:=by
 cases h with
 |cons r k=>cases k with
  |nil=>exact⟨_,rfl,r⟩
theorem bJ.two{x y:V}{us:List Value}(h:bJ [x,y] us):∃u v,us=[u,v]/\RelV x u/\RelV y v:=by
 cases h with
 |cons r k=>
  obtain⟨v,e,q⟩:=bJ.one k;exact⟨_,v,by rw[e],r,q⟩
theorem bJ.zero:∀{us:List Value},bJ [] us->us=[]
 |_,.nil=>rfl
theorem bJ.dropLast{xs:List V}{us:List Value}(h:bJ xs us):bJ xs.dropLast us.dropLast:=by
 induction h with
 |nil=>exact .nil
 |cons r t ih=>
  cases t with
  |nil=>exact .nil
  |cons q t'=>exact .cons r ih
theorem bJ.eraseIdx:∀{xs:List V}{us:List Value}(i:Nat),bJ xs us->bJ (xs.eraseIdx i) (us.eraseIdx i)
 |_,_,_,.nil=>.nil
 |_,_,0,.cons _ t=>t
 |_,_,i+1,.cons r t=>.cons r (bJ.eraseIdx i t)
theorem bJ.reverse{xs:List V}{us:List Value}(h:bJ xs us):bJ xs.reverse us.reverse:=by
 induction h with
 |nil=>exact .nil
 |cons r t ih=>rw[i4,i4];exact bJ.append ih (.cons r .nil)
theorem vM{α:Type}(l:List α):l.eraseIdx (l.length-1)=l.dropLast:=by
 induction l with
 |nil=>rfl
 |cons a r ih=>
  cases r with
  |nil=>rfl
  |cons b r=>
   have e:(a::b::r).length-1=((b::r).length-1)+1:=by
    have h1:(a::b::r).length=r.length+2:=rfl;have h2:(b::r).length=r.length+1:=rfl;omega
   rw[e,List.eraseIdx_cons_succ,ih];all_goals rfl
theorem ql{α:Type}:∀(l:List α)(i:Nat),(l.eraseIdx i).length<=l.length
 | [],_=>aw _
 |_::_,0=>gH _
 |_::r,i+1=>Nat.succ_le_succ (ql r i)
section
variable {X:Cx}{pins:List (Addr×Obj)}{σ:St}{H:Hp}{s:Shared}{l b:Addr}{xs ys zs:List V}
theorem Inv.x3{its its':List Value}{n:Nat}{f:Array Value->Array Value}{t':Nat}(I:Inv X pins σ H s)(hH:H l=some (.lst xs))
  (e:s.heap.get? l=some {cls:=.type "list",data:=.seq its.toArray n}) (hf:f its.toArray=its'.toArray) (hv:bJ ys its') (hz:ys.length<=sizeLine):
  Inv X pins σ (upd H l (.lst ys)) {s with heap:=s.heap.update l (b9 f),toks:=t'}:=by
 have q:=yD e f;rw[hf]at q;refine I.write (x:=l) (e:=l) (by rw[hH];exact trivial) (.inl rfl) (fun b' u hb hu=>(aZ s.heap (b9 f) (dg hb)).trans hu) ⟨_,q⟩ ?_;exact⟨hz,its',_,hv,q⟩
theorem Inv.lnew{its:List Value}{t':Nat}(I:Inv X pins σ H s)(hv:bJ ys its)(hz:ys.length<=sizeLine):
  Inv X pins σ (upd H s.heap.objs.size (.lst ys)) {s with heap:=s.heap.push {cls:=.type "list",data:=.seq its.toArray},toks:=t'}:=
 I.laid (fun _ _ q=>af _ q) (aw _) ⟨hz,its,0,hv,aE _ rfl⟩
theorem Inv.fresh(I:Inv X pins σ H s):H s.heap.objs.size=none:=I.hok.fresh (aw _)
theorem Inv.rE(I:Inv X pins σ H s)(hH:H l=some (.lst xs)):xs.length<=sizeLine/\∃(its:List Value)(n:Nat),bJ xs its/\xs.length=its.length/\s.heap.get? l=some {cls:=.type "list",data:=.seq its.toArray n}:=by
 obtain⟨z,its,n,r,e⟩:=I.hok l _ hH;exact⟨z,its,n,r,r.length,e⟩
theorem Ao{n:Nat}(h:n<=sizeLine):gJ n=false:=by
 unfold gJ;exact decide_eq_false (by omega)
end
section
variable {X:Cx}
noncomputable def wB:V->List V->Hp->VK->Prop:=fun x vs H Q=>∃l xs y,x=.ref l/\vs=[y]/\H l=some (.lst xs)/\xs.length<sizeLine/\Q .non (upd H l (.lst (xs++[y])))
theorem xY:MtM X "list.append" wB:=by
 intro pins s σ H x vs v us Q I rx rv h;obtain⟨l,xs,y,rfl,rfl,hH,hz,q⟩:=h;cases rx;obtain⟨u,rfl,ru⟩:=rv.one;obtain⟨z,its,n,r,hl,e⟩:=I.rE hH;refine jl F.slot_list_append ⟨_,e,rfl⟩ F.entry_list_append (F.args_list_append_2 _ _) (PySem.list_append l its.toArray n u (by rw[aq];omega)) ⟨e,?_⟩;refine⟨.non,_,I.x3 (its':=its++[u]) hH e (by simp) (r.append (.cons ru .nil)) ?_,rfl,q⟩;rw[aj,cS];omega
noncomputable def wA:V->List V->Hp->VK->Prop:=fun x vs H Q=>∃l b xs zs,x=.ref l/\vs=[.ref b]/\H l=some (.lst xs)/\H b=some (.lst zs)/\xs.length+zs.length<=sizeLine/\Q .non (upd H l (.lst (xs++zs)))
theorem xX:MtM X "list.extend" wA:=by
 intro pins s σ H x vs v us Q I rx rv h;obtain⟨l,b,xs,zs,rfl,rfl,hH,hB,hz,q⟩:=h;cases rx;obtain⟨u,rfl,ru⟩:=rv.one;cases ru;obtain⟨z,its,n,r,hl,e⟩:=I.rE hH;obtain⟨z2,its2,n2,r2,hl2,e2⟩:=I.rE hB;have hsz:its.toArray.size+its2.toArray.size<=sizeLine:=by rw[aq,aq];omega
 have hlong:¬(!its.toArray.isEmpty&&gJ (its.toArray.size+its2.toArray.size))=true:=by
  rw[Ao hsz,iG];exact bF
 refine jl F.slot_list_extend ⟨_,e,rfl⟩ F.entry_list_extend (F.args_list_extend_2 _ _)
  (AutoSeq1.list_extend_list_list_0 l its.toArray n b its2.toArray n2 hlong (by rw[aq];omega) (by omega)) ⟨e,e2,?_⟩
 refine⟨.non,_,I.x3 (its':=its++its2) hH e (by simp) (r.append r2) ?_,rfl,q⟩;rw[aj];omega
noncomputable def rPop:V->List V->Hp->VK->Prop:=fun x vs H Q=>∃l xs y,x=.ref l/\vs=[]/\H l=some (.lst xs)/\xs[xs.length-1]? =some y/\Q y (upd H l (.lst xs.dropLast))
theorem mt_pop:MtM X "list.pop" rPop:=by
 intro pins s σ H x vs v us Q I rx rv h;obtain⟨l,xs,y,rfl,rfl,hH,hy,q⟩:=h;cases rx;have hus:=rv.zero;subst hus;obtain⟨z,its,n,r,hl,e⟩:=I.rE hH;obtain⟨u,hu,ru⟩:=r.get hy;have hy':its.toArray[its.toArray.size-1]? =some u:=by
  show its.toArray[its.length-1]? =some u;rw[<-cR,<-hl];exact hu
 refine jl F.slot_list_pop ⟨_,e,rfl⟩ F.entry_list_pop (F.args_list_pop_1 _) (MeetsSeq.list_pop_last l its.toArray n u hy' (by rw[aq];omega)) ⟨e,?_⟩;refine⟨y,_,I.x3 (its':=its.dropLast) hH e ?_ r.dropLast ?_,ru,q⟩
 ·show its.toArray.eraseIdxIfInBounds (its.toArray.size-1)=its.dropLast.toArray
  rw[aq,pk,vM]
 ·rw[List.length_dropLast]
  omega
noncomputable def zK:V->List V->Hp->VK->Prop:=fun x vs H Q=>∃l xs i k y,x=.ref l/\vs=[.int i]/\H l=some (.lst xs)∧-(2^63)<=i/\i<2^63/\seqIndex? i xs.length=some k/\xs[k]? =some y/\Q y (upd H l (.lst (xs.eraseIdx k)))
theorem As:MtM X "list.pop" zK:=by
 intro pins s σ H x vs v us Q I rx rv h;obtain⟨l,xs,i,k,y,rfl,rfl,hH,h1,h2,hk,hy,q⟩:=h;cases rx;obtain⟨u,rfl,ru⟩:=rv.one;obtain⟨t,rfl⟩:=ru;obtain⟨z,its,n,r,hl,e⟩:=I.rE hH;obtain⟨w,hw,rw'⟩:=r.get hy;refine jl F.slot_list_pop ⟨_,e,rfl⟩ F.entry_list_pop (F.args_list_pop_2 _ _)
  (MeetsSeq.list_pop_at l its.toArray n i t k w (fitsIndex_both h1 h2) (by rw[aq,<-hl];exact hk) (by rw[<-cR];exact hw) (by rw[aq];omega)) ⟨e,?_⟩
 refine⟨y,_,I.x3 (its':=its.eraseIdx k) hH e ?_ (r.eraseIdx k) ?_,rw',q⟩
 ·show its.toArray.eraseIdxIfInBounds k=(its.eraseIdx k).toArray
  rw[pk]
 ·have :=ql xs k
  omega
noncomputable def tF:V->List V->Hp->VK->Prop:=fun x vs H Q=>∃l xs,x=.ref l/\vs=[]/\H l=some (.lst xs)/\Q .non (upd H l (.lst xs.reverse))
theorem vC:MtM X "list.reverse" tF:=by
 intro pins s σ H x vs v us Q I rx rv h;obtain⟨l,xs,rfl,rfl,hH,q⟩:=h;cases rx;have hus:=rv.zero;subst hus;obtain⟨z,its,n,r,hl,e⟩:=I.rE hH;refine jl F.slot_list_reverse ⟨_,e,rfl⟩ F.entry_list_reverse (F.args_list_reverse_1 _) (AutoSeq1.list_reverse_list_0 l its.toArray n (by rw[aq];omega)) ⟨e,?_⟩;refine⟨.non,_,I.x3 (its':=its.reverse) hH e (by simp) r.reverse ?_,rfl,q⟩;rw[dU];omega
noncomputable def zM:V->List V->Hp->VK->Prop:=fun x vs H Q=>∃l xs,x=.ref l/\vs=[]/\H l=some (.lst xs)/\Q .non (upd H l (.lst []))
theorem Au:MtM X "list.clear" zM:=by
 intro pins s σ H x vs v us Q I rx rv h;obtain⟨l,xs,rfl,rfl,hH,q⟩:=h;cases rx;have hus:=rv.zero;subst hus;obtain⟨z,its,n,r,hl,e⟩:=I.rE hH;refine jl F.slot_list_clear ⟨_,e,rfl⟩ F.entry_list_clear (F.args_list_clear_1 _) (AutoSeq1.list_clear_list_0 l its.toArray n (by rw[aq];omega)) ⟨e,?_⟩;exact⟨.non,_,I.x3 (its':=[]) (ys:=[]) hH e rfl .nil (aX _),rfl,q⟩
noncomputable def rCat:R2:=fun x y H Q=>∃l b xs zs,x=.ref l/\y=.ref b/\H l=some (.lst xs)/\H b=some (.lst zs)/\xs.length+zs.length<=sizeLine/\∀p,H p=none->Q (.ref p) (upd H p (.lst (xs++zs)))
theorem op_cat:OpR X (eN .Add) rCat:=by
 intro pins s σ H x y v u Q I rx ry h;obtain⟨l,b,xs,zs,rfl,rfl,hH,hB,hz,q⟩:=h;cases rx;cases ry;obtain⟨z,its,n,r,hl,e⟩:=I.rE hH;obtain⟨z2,its2,n2,r2,hl2,e2⟩:=I.rE hB;refine PySem.P.add_list e e2 ?_ (by rw[aq,aq];omega);have ea:its.toArray++its2.toArray=(its++its2).toArray:=by simp
 rw[ea];exact⟨.ref _,_,I.lnew (t':=s.toks) (r.append r2) (by rw[aj];omega),rfl,q _ I.fresh⟩
noncomputable def rRep:R2:=fun x y H Q=>∃l k xs,x=.ref l/\y=.int k/\H l=some (.lst xs)∧-(2^63)<=k/\k<2^63/\xs.length*k.toNat<=sizeLine/\
 ∀p,H p=none->Q (.ref p) (upd H p (.lst (fP k.toNat xs).flatten))
end
section
variable {κ:Type}[DecidableEq κ]
noncomputable def iH(kvs:List (κ×V))(k:κ):Option V:=(kvs.find? fun kv=>decide (kv.1=k)).map (·.2)
noncomputable def putK(kvs:List (κ×V))(k:κ)(v:V):List (κ×V):=
 if(kvs.any fun kv=>decide (kv.1=k))=true then kvs.map (fun kv=>if kv.1=k then(kv.1,v)else kv)else kvs++[(k,v)]
theorem kY{p:κ×V}{r:List (κ×V)}{k:κ}(e:p.1=k):iH (p::r) k=some p.2:=by simp[iH,di,e]
theorem kZ{p:κ×V}{r:List (κ×V)}{k:κ}(e:¬p.1=k):iH (p::r) k=iH r k:=by simp[iH,di,e]
theorem sQ(k:κ):∀kvs:List (κ×V),(kvs.any fun kv=>decide (kv.1=k))=(iH kvs k).isSome
 | []=>rfl
 |p::r=>by
  rw[jg];by_cases e:p.1=k
  ·simp only[kY e,decide_eq_true e,Bool.true_or,yL]
  ·rw[kZ e,decide_eq_false e,Bool.false_or];exact sQ k r
theorem jx(kvs:List (κ×V))(k:κ)(v:V):(putK kvs k v).length<=kvs.length+1:=by
 unfold putK;split
 ·rw[ai];omega
 ·rw[aj,aS,cN];omega
theorem kN.iM{o:Option V}{u:Option Value}(r:kN o u):o.isSome=u.isSome:=by
 cases o with
 |none=>cases u with
  |none=>rfl
  |some _=>exact(show False from r).elim
 |some _=>cases u with
  |none=>exact(show False from r).elim
  |some _=>rfl
theorem kN.getD{o:Option V}{u:Option Value}{d:V}{d':Value}(r:kN o u)(rd:RelV d d'):RelV (o.getD d) (u.getD d'):=by
 cases o with
 |none=>cases u with
  |none=>exact rd
  |some _=>exact(show False from r).elim
 |some _=>cases u with
  |none=>exact(show False from r).elim
  |some _=>exact r
theorem KV.val{kvs:List (κ×V)}{vs:List (κ×Value)}(r:KV kvs vs)(k:κ):kN (iH kvs k) (sf vs k):=by
 unfold KV at r
 induction r with
 |nil=>exact True.intro
 | @cons p q ps qs h t ih=>
  obtain⟨h1,h2⟩:=h;by_cases e:p.1=k
  ·have e':q.1=k:=h1.symm.trans e
   have b:sf (q::qs) k=some q.2:=by simp[sf,di,e']
   rw[kY e,b];exact h2
  ·have e':¬q.1=k:=fun z=>e (h1.trans z)
   have b:sf (q::qs) k=sf qs k:=by simp[sf,di,e']
   rw[kZ e,b];exact ih
theorem KV.any{kvs:List (κ×V)}{vs:List (κ×Value)}(r:KV kvs vs)(k:κ):(kvs.any fun kv=>decide (kv.1=k))=vs.any fun kv=>decide (kv.1=k):=by
 unfold KV at r
 induction r with
 |nil=>rfl
 |cons h t ih=>rw[jg,jg,ih,h.1]
theorem KV.repl{kvs:List (κ×V)}{vs:List (κ×Value)}(r:KV kvs vs)(k:κ){y:V}{u:Value}(ry:RelV y u):
  KV (kvs.map fun kv=>if kv.1=k then(kv.1,y)else kv) (vs.map fun kv=>if kv.1=k then(kv.1,u)else kv):=by
 unfold KV at r⊢
 induction r with
 |nil=>exact .nil
 | @cons p q ps qs h t ih=>
  rw[bw,bw];refine .cons ?_ ih;obtain⟨h1,h2⟩:=h;by_cases e:p.1=k
  ·rw[if_pos e,if_pos (h1.symm.trans e)];exact⟨h1,ry⟩
  ·rw[if_neg e,if_neg (fun z=>e (h1.trans z))];exact⟨h1,h2⟩
theorem KV.put{kvs:List (κ×V)}{vs:List (κ×Value)}(r:KV kvs vs)(k:κ){y:V}{u:Value}(ry:RelV y u):KV (putK kvs k y) (stored vs k u):=by
 unfold putK stored;rw[r.any k];by_cases e:(vs.any fun kv=>decide (kv.1=k))=true
 ·rw[if_pos e,if_pos e];exact r.repl k ry
 ·rw[if_neg e,if_neg e];exact Paired.snoc r ⟨rfl,ry⟩
theorem KV.keys{kvs:List (κ×V)}{vs:List (κ×Value)}(r:KV kvs vs):kvs.map (·.1)=vs.map (·.1):=by
 unfold KV at r
 induction r with
 |nil=>rfl
 |cons h t ih=>rw[bw,bw,ih,h.1]
theorem KV.length{kvs:List (κ×V)}{vs:List (κ×Value)}(r:KV kvs vs):kvs.length=vs.length:=lM r
end
theorem ll{P:Program}{w:World}{k:Key}{u:Value}(r:RelV (kV k) u):(bH P w).is k u=true:=by
 cases k with
 |inl i=>obtain⟨t,e⟩:=(show ∃t,u=uR i t from r);subst e;exact tX P w i t
 |inr x=>obtain⟨t,e⟩:=(show ∃t,u=uQ x t from r);subst e;exact mQ P w x t
theorem qr{P:Program}{w:World}:∀{ks:List Key}{us:List Value},bJ (ks.map kV) us->ItemsAre (bH P w) ks us
 | [],_,r=>by rw[nR]at r;cases r;exact .nil
 |k::ks,_,r=>by
  rw[bw]at r;cases r with
  |cons h t=>exact .cons (ll h) (qr t)
noncomputable abbrev KT(H:Hp):List (List Key×V)->List (List Key×Addr×Value)->Prop:=Paired fun p q=>p.1=q.1/\H q.2.1=some (.tup (p.1.map kV))/\RelV p.2 q.2.2
theorem KT.val{H:Hp}{kvs:List (List Key×V)}{xs:List (List Key×Addr×Value)}(r:KT H kvs xs)(k:List Key):kN (iH kvs k) ((atKey xs k).map (·.2)):=by
 induction r with
 |nil=>exact True.intro
 | @cons p q ps qs h t ih=>
  obtain⟨h1,_,h2⟩:=h;by_cases e:p.1=k
  ·have e':q.1=k:=h1.symm.trans e
   have b:atKey (q::qs) k=some q.2:=by simp[atKey,di,e']
   rw[kY e,b];exact h2
  ·have e':¬q.1=k:=fun z=>e (h1.trans z)
   have b:atKey (q::qs) k=atKey qs k:=by simp[atKey,di,e']
   rw[kZ e,b];exact ih
theorem KT.repl{H:Hp}{kvs:List (List Key×V)}{xs:List (List Key×Addr×Value)}(r:KT H kvs xs)(k:List Key){y:V}{u:Value}(ry:RelV y u):
  KT H (kvs.map fun kv=>if kv.1=k then(kv.1,y)else kv) (xs.map (putAt k u)):=by
 induction r with
 |nil=>exact .nil
 | @cons p q ps qs h t ih=>
  rw[bw,bw];refine .cons ?_ ih;obtain⟨h1,h2,h3⟩:=h;unfold putAt;by_cases e:p.1=k
  ·rw[if_pos e,if_pos (h1.symm.trans e)];exact⟨h1,h2,ry⟩
  ·rw[if_neg e,if_neg (fun z=>e (h1.trans z))];exact⟨h1,h2,h3⟩
theorem KT.put{H:Hp}{kvs:List (List Key×V)}{xs:List (List Key×Addr×Value)}(r:KT H kvs xs)(k:List Key){b:Addr}{y:V}{u:Value}(hb:H b=some (.tup (k.map kV)))(ry:RelV y u):
  KT H (putK kvs k y) (storedH xs k b u):=by
 have e:(kvs.any fun kv=>decide (kv.1=k))=(atKey xs k).isSome:=by
  rw[sQ,(r.val k).iM,nc]
 unfold putK storedH;rw[e];by_cases q:(atKey xs k).isSome=true
 ·rw[if_pos q,if_pos q];exact r.repl k ry
 ·rw[if_neg q,if_neg q];exact Paired.snoc r ⟨rfl,hb,ry⟩
theorem KT.keeps{H H':Hp}{kvs:List (List Key×V)}{xs:List (List Key×Addr×Value)}(r:KT H kvs xs)(ht:∀b ys,H b=some (.tup ys)->H' b=some (.tup ys)):KT H' kvs xs:=
 Paired.xZ r fun _ _ z=>⟨z.1,ht _ _ z.2.1,z.2.2⟩
section
variable {P:Program}{w:World}{H:Hp}{h:Heap}{a:Addr}
theorem rd_of{u:HO}(ok:HOk P w H h)(e:Rd H a u):cZ P w H h a u:=e.ok ok
theorem jB{kvs:List (Key×V)}(ok:HOk P w H h)(e:Rd H a (.dK kvs)):kvs.length<=sizeLine/\(a==d0)=false/\∃vs,KV kvs vs/\h.DictOf (bH P w) a vs:=
 show cZ P w H h a (.dK kvs)from rd_of ok e
theorem dk_of{kvs:List (Key×V)}(ok:HOk P w H h)(e:H a=some (.dK kvs)):kvs.length<=sizeLine/\(a==d0)=false/\∃vs,KV kvs vs/\h.DictOf (bH P w) a vs:=jB ok (.inl e)
theorem me{ks:List Key}(ok:HOk P w H h)(e:H a=some (.tup (ks.map kV))):(nN (bH P w)).is h ks a:=by
 obtain⟨_,its,r,o,h1,h2,n,h3⟩:=(show cZ P w H h a (.tup (ks.map kV))from ok a _ e);exact⟨o,its.toArray,n,h1,h2,h3,by simpa using qr r⟩
theorem oS{kvs:List (List Key×V)}(ok:HOk P w H h)(e:Rd H a (.dT kvs)):kvs.length<=sizeLine/\(a==d0)=false/\
  ∃xs,KT H kvs xs/\h.DictOfH (nN (bH P w)) a xs:=by
 obtain⟨z,y,xs,r,o,es,ep,h1,h2,h3,h4,h5⟩:=(show cZ P w H h a (.dT kvs)from rd_of ok e);refine⟨z,y,xs,r,o,es,ep,h1,h2,h3,h4,fun x hx=>?_,h5⟩;have all:∀{l:List (List Key×V)}{m:List (List Key×Addr×Value)},KT H l m->∀x∈m,(nN (bH P w)).is h x.1 x.2.1:=by
  intro l m q
  induction q with
  |nil=>intro x hx;exact nomatch hx
  | @cons p q ps qs hq t ih=>
   intro x hx;rcases aD.mp hx with e|hx
   ·subst e
    exact me ok (by rw[<-hq.1];exact hq.2.1)
   ·exact ih x hx
 exact all r x hx
theorem dt_of{kvs:List (List Key×V)}(ok:HOk P w H h)(e:H a=some (.dT kvs)):kvs.length<=sizeLine/\(a==d0)=false/\
  ∃xs,KT H kvs xs/\h.DictOfH (nN (bH P w)) a xs:=oS ok (.inl e)
end
noncomputable def o9(H:Hp)(a:Addr)(y:V)(r:Option V):Prop:=
 (∃kvs k,Rd H a (.dK kvs)/\y=kV k/\r=iH kvs k)\/∃kvs k b,Rd H a (.dT kvs)/\y=.ref b/\H b=some (.tup (k.map kV))/\r=iH kvs k
noncomputable def yx(H:Hp)(a:Addr)(y v:V)(H':Hp):Prop:=
 (∃kvs k,H a=some (.dK kvs)/\y=kV k/\kvs.length<sizeLine/\H'=upd H a (.dK (putK kvs k v)))\/
 ∃kvs k b,H a=some (.dT kvs)/\y=.ref b/\H b=some (.tup (k.map kV))/\kvs.length<sizeLine/\H'=upd H a (.dT (putK kvs k v))
theorem yx.k{H:Hp}{a:Addr}{kvs:List (Key×V)}{k:Key}{v:V}(e:H a=some (.dK kvs))(hl:kvs.length<sizeLine):yx H a (kV k) v (upd H a (.dK (putK kvs k v))):=.inl ⟨kvs,k,e,rfl,hl,rfl⟩
section
variable {X:Cx}{pins:List (Addr×Obj)}{σ:St}{H:Hp}{s:Shared}{a:Addr}{y v:V}{u r:Value}{o:Option V}{A:Around}{E:Value->Shared->Prop}
theorem Inv.big(I:Inv X pins σ H s):d0<s.heap.objs.size:=by
 have h:bK<s.heap.objs.size:=(I.mod.glob.keeps I.bk).lt;exact j9 (by decide) h
theorem yi{Q:Value->Shared->Prop}(hu:A.units+1<cLine)(I:Inv X pins σ H s)(g:o9 H a y (some v))(ry:RelV y u)(h:∀w' s',Inv X pins σ H s'->RelV v w'->Q w' s'):
  wpAny (model X.prog X.w) A (xh (.ref a) u) Q E s:=by
 rcases g with⟨kvs,k,e,ey,l⟩ |⟨kvs,k,b,e,ey,eb,l⟩
 ·subst ey
  obtain⟨z,hd,vs,rel,dd⟩:=jB I.hok e;obtain⟨w',hw,rw'⟩:=kN.some_of (v:=v) (o:=sf vs k) (by rw[l];exact rel.val k);exact wpAny_getItem_of (ll ry) dd.mapOf hw (h w' _ (I.tok _) rw')
 ·subst ey
  cases(show u=bo b from ry);obtain⟨z,hd,xs,rel,dd⟩:=oS I.hok e;obtain⟨w',hw,rw'⟩:=kN.some_of (v:=v) (o:=(atKey xs k).map (·.2)) (by rw[l];exact rel.val k);obtain⟨p,hp,hp2⟩:=Option.map_eq_some_iff.mp hw;refine wpAny_getItem_heap (fT hu) (me I.hok eb) dd hp ?_;rw[hp2];exact h w' _ (I.tok _) rw'
theorem d_in{Q:Value->Shared->Prop}(hu:A.units+1<cLine)(I:Inv X pins σ H s)(g:o9 H a y o)(ry:RelV y u)(h:∀s',Inv X pins σ H s'->Q (.bool o.isSome) s'):
  wpAny (model X.prog X.w) A (cc .In u (.ref a)) Q E s:=by
 rcases g with⟨kvs,k,e,ey,l⟩ |⟨kvs,k,b,e,ey,eb,l⟩
 ·subst ey
  obtain⟨z,hd,vs,rel,dd⟩:=jB I.hok e;refine wpAny_in_of (ll ry) hd dd.mapOf ?_;rw[<-(rel.val k).iM,<-l];exact h _ (I.tok _)
 ·subst ey
  cases(show u=bo b from ry);obtain⟨z,hd,xs,rel,dd⟩:=oS I.hok e;refine wpAny_in_heap (fT hu) (me I.hok eb) hd dd ?_;have q:=(rel.val k).iM;rw[nc]at q;rw[<-q,<-l];exact h _ (I.tok _)
theorem d_notIn{Q:Value->Shared->Prop}(hu:A.units+1<cLine)(I:Inv X pins σ H s)(g:o9 H a y o)(ry:RelV y u)(h:∀s',Inv X pins σ H s'->Q (.bool (!o.isSome)) s'):
  wpAny (model X.prog X.w) A (cc .NotIn u (.ref a)) Q E s:=by
 rcases g with⟨kvs,k,e,ey,l⟩ |⟨kvs,k,b,e,ey,eb,l⟩
 ·subst ey
  obtain⟨z,hd,vs,rel,dd⟩:=jB I.hok e;refine wpAny_notIn_of (ll ry) hd dd.mapOf ?_;rw[<-(rel.val k).iM,<-l];exact h _ (I.tok _)
 ·subst ey
  cases(show u=bo b from ry);obtain⟨z,hd,xs,rel,dd⟩:=oS I.hok e;refine wpAny_notIn_heap (fT hu) (me I.hok eb) hd dd ?_;have q:=(rel.val k).iM;rw[nc]at q;rw[<-q,<-l];exact h _ (I.tok _)
theorem rM{h':Heap}{t':Nat}{ob:HO}(I:Inv X pins σ H s)(mu:Mut (H a))(hs:dy a s.heap h')(he:∃q,h'.get? a=some q)(new:cZ X.prog X.w (upd H a ob) h' a ob):
  Inv X pins σ (upd H a ob) {s with heap:=h',toks:=t'}:=
 I.write (x:=a) (e:=a) mu (.inl rfl) (fun b q hb z=>(hs.2 b hb).trans z) he new
theorem AQ{P:Program}{w:World}{H':Hp}{h':Heap}{kvs:List (Key×V)}{vs:List (Key×Value)}(z:kvs.length<=sizeLine)(hd:(a==d0)=false)(rel:KV kvs vs)(dd:h'.DictOf (bH P w) a vs):
  cZ P w H' h' a (.dK kvs):=⟨z,hd,vs,rel,dd⟩
theorem yh{H':Hp}{Q:Unit->Shared->Prop}(hu:A.units+1<cLine)(I:Inv X pins σ H s)(g:yx H a y v H')(ry:RelV y u)(rv:RelV v r)(h:∀s',Inv X pins σ H' s'->Q () s'):
  wpAny (model X.prog X.w) A (setItem (.ref a) u r) Q E s:=by
 rcases g with⟨kvs,k,e,ey,l,eH⟩ |⟨kvs,k,b,e,ey,eb,l,eH⟩
 ·subst ey eH
  obtain⟨z,hd,vs,rel,dd⟩:=dk_of I.hok e;have hz:vs.length<=sizeLine:=by rw[<-rel.length];exact z
  have hl:(putK kvs k v).length<=sizeLine:=by have :=jx kvs k v;omega
  refine wpAny_setItem_pairs (hsz:=hz) (ll ry) dd fun h' dd' hs=>h _ ?_;have he:∃q,h'.get? a=some q:=let⟨q,_,_,hq,_⟩:=dd';⟨q,hq⟩;exact rM I (by rw[e];exact True.intro) hs he (AQ hl hd (rel.put k rv) dd')
 ·subst ey eH
  cases(show u=bo b from ry);obtain⟨z,hd,xs,rel,dd⟩:=dt_of I.hok e;have hz:xs.length<=sizeLine:=by rw[<-lM rel];exact z
  have hl:(putK kvs k v).length<=sizeLine:=by have :=jx kvs k v;omega
  refine wpAny_setItem_heap (hsz:=hz) (fT hu) (me I.hok eb) dd fun h' dd' hs=>h _ ?_;obtain⟨q,es,ep,hq,h2,h3,h4,_,h5⟩:=dd';refine rM I (by rw[e];exact True.intro) hs ⟨q,hq⟩ ⟨hl,hd,_,(rel.put k eb rv).keeps fun c ys ec=>?_,q,es,ep,hq,h2,h3,h4,h5⟩;rw[bC (mI ec e (fun z=>nomatch z))];exact ec
end
section
variable {X:Cx}{pins:List (Addr×Obj)}{σ:St}{H:Hp}{s:Shared}{a:Addr}{kvs:List (Key×V)}{k:Key}{u:Value}{A:Around}{E:Value->Shared->Prop}
theorem d_len{Q:Value->Shared->Prop}(I:Inv X pins σ H s)(e:Rd H a (.dK kvs))(h:∀t s',Inv X pins σ H s'->Q (.int kvs.length t) s'):wpAny (model X.prog X.w) A (call (.builtin "len") [.ref a]) Q E s:=by
 obtain⟨z,hd,vs,rel,dd⟩:=jB I.hok e;refine call_len_dict hd dd (by rw[<-rel.length];rw[nB]at z;omega) ?_;rw[<-rel.length];exact h _ _ (I.tok _)
end
noncomputable def NoSl(i:Expr):Prop:=∀ov iv,subscripted i false ov iv=operate [ov,iv] (xh ov iv)
theorem subD_of{prog:Program}{w:World}{A:Around}{E:Value->Shared->Prop}{s:Shared}{env:Env}{value slice:Expr}{pos:Pos}{T id:String}{Q:Value->Shared->Prop}
  (hl:typeLookup (.type T) "__getitem__"=pure (some (.builtin id)))(hs:NoSl slice)
  (h:wpAny (model prog w) A (eval value env) (fun o s₁=>wpAny (model prog w) A (eval slice env) (fun i s₂=>s₂.TypeIs o T/\wpAny (model prog w) A (xh o i) Q E s₂) E s₁) E s):
  wpAny (model prog w) A (eval (.Subscript value slice pos) env) Q E s:=by
 refine yB (dz h (fun o s₁ h₁=>dz h₁ (fun i s₂ h₂=>?_) fun _ _ x=>x) fun _ _ x=>x);obtain⟨hT,h₂⟩:=h₂;unfold pA;refine ae ?_;rw[getitemInPython_of_ne hT.not_modules];refine ae (lO hT hl ?_);have fin:wpAny (model prog w) A (subscripted slice false o i) (fun r s₃=>wpAny (model prog w) A (letTemporaryGo value o r>>=fun _=>pure r) Q E s₃) E s₂:=by
  rw[hs o i];exact wpAny_operating (dz h₂ (fun r s₃ h₃=>ae (wpAny_letTemporaryGo (ah h₃))) fun _ _ x=>x)
 first
  |exact ah (ae fin)
  |exact ae (ah (ae fin))
  |exact ae fin
theorem uk{X:Cx}{pins:List (Addr×Obj)}{σ:St}{H:Hp}{s:Shared}{a:Addr}{y:V}{o:Option V}(I:Inv X pins σ H s)(g:o9 H a y o):s.TypeIs (.ref a) "dict":=by
 rcases g with⟨kvs,k,e,_,_⟩ |⟨kvs,k,b,e,_,_,_⟩
 ·obtain⟨_,_,vs,_,dd⟩:=jB I.hok e
  exact dd.typeIs
 ·obtain⟨_,_,xs,_,dd⟩:=oS I.hok e
  exact dd.typeIs
noncomputable def zf(td ty:TE):TE:=fun σ H Q=>td σ H fun x H1=>ty σ H1 fun y H2=>∃a v,x=.ref a/\o9 H2 a y (some v)/\Q v H2
noncomputable def tDIn(ty td:TE):TE:=fun σ H Q=>ty σ H fun y H1=>td σ H1 fun x H2=>∃a o,x=.ref a/\o9 H2 a y o/\Q (.bl o.isSome) H2
noncomputable def nF(ty td:TE):TE:=fun σ H Q=>ty σ H fun y H1=>td σ H1 fun x H2=>∃a o,x=.ref a/\o9 H2 a y o/\Q (.bl (!o.isSome)) H2
noncomputable def zG(td ty tv:TE):TS:=fun D σ H=>tv σ H fun v H1=>td σ H1 fun x H2=>ty σ H2 fun y H3=>∃a H4,x=.ref a/\yx H3 a y v H4/\D.nx σ H4
section
variable {X:Cx}{o i e value:Expr}{pos pos' tpos:Pos}{td ty tv:TE}
theorem pe_dget(hu:X.A.units+1<cLine)(ho:PE X o td)(hi:PE X i ty)(hs:NoSl i):PE X (.Subscript o i pos) (zf td ty):=by
 intro pins s σ H Q I h;refine subD_of PySem.F.slot_dict_getitem.lookup hs (thn (ho pins s σ H _ I h) fun u s1 ⟨x,H1,I1,rx,q1⟩=>thn (hi pins s1 σ H1 _ I1 q1) fun iv s2 ⟨y,H2,I2,ry,a,v,ex,g,q2⟩=>?_);subst ex;obtain rfl:u=bo a:=rx;exact⟨uk I2 g,yi hu I2 g ry fun w' s3 I3 rw'=>⟨v,H2,I3,rw',q2⟩⟩
theorem Ah(hu:X.A.units+1<cLine)(hi:PE X i ty)(ho:PE X o td):PC X .In i o (tDIn ty td):=by
 intro pins s σ H Q I h;refine thn (hi pins s σ H _ I h) fun iv s1 ⟨y,H1,I1,ry,q1⟩=>thn (ho pins s1 σ H1 _ I1 q1) fun u s2 ⟨x,H2,I2,rx,a,ov,ex,g,q2⟩=>?_;subst ex;obtain rfl:u=bo a:=rx;exact d_in hu I2 g ry fun s3 I3=>⟨.bl ov.isSome,H2,I3,rfl,q2⟩
theorem qf(hu:X.A.units+1<cLine)(hi:PE X i ty)(ho:PE X o td):PC X .NotIn i o (nF ty td):=by
 intro pins s σ H Q I h;refine thn (hi pins s σ H _ I h) fun iv s1 ⟨y,H1,I1,ry,q1⟩=>thn (ho pins s1 σ H1 _ I1 q1) fun u s2 ⟨x,H2,I2,rx,a,ov,ex,g,q2⟩=>?_;subst ex;obtain rfl:u=bo a:=rx;exact d_notIn hu I2 g ry fun s3 I3=>⟨.bl (!ov.isSome),H2,I3,rfl,q2⟩
theorem ps_dput(hu:X.A.units+1<cLine)(ho:PE X o td)(hi:PE X i ty)(hv:PE X value tv)(hs:kO value (some (.Subscript o i pos')) pos.line X.env=pure false):
  PS X (.Assign [.Subscript o i pos'] value pos) (zG td ty tv):=by
 intro pins s σ H D I h;refine wpAny_Assign_Subscript (thn (hv pins s σ H _ I h) fun r s1 ⟨v,H1,I1,rv,q1⟩=>thn (ho pins s1 σ H1 _ I1 q1) fun u s2 ⟨x,H2,I2,rx,q2⟩=>thn (hi pins s2 σ H2 _ I2 q2) fun iv s3 ⟨y,H3,I3,ry,a,H4,ex,g,q3⟩=>?_) hs;subst ex;obtain rfl:u=bo a:=rx;exact yh hu I3 g ry rv fun s4 I4=>⟨σ,H4,I4,q3⟩
end
theorem uj{P:Program}{w:World}{H:Hp}(h:Heap)(hb:d0<h.objs.size):cZ P w H (h.push {cls:=.type "dict",data:=.dict #[]}) h.objs.size (.dK []):=
 ⟨aX _,beq_eq_false_iff_ne.mpr (dg (aH hb)),[],.nil,Heap.DictOf.new h⟩
noncomputable def ze:TE:=fun _ H Q=>∀p,H p=none->Q (.ref p) (upd H p (.dK []))
noncomputable def tDNewT:TE:=fun _ H Q=>∀p,H p=none->Q (.ref p) (upd H p (.dT []))
section
variable {X:Cx}{pos:Pos}
theorem Aa:PE X (.Dict [] [] pos) ze:=fun pins s σ H Q I h=>
 wpAny_Dict_empty ⟨.ref s.heap.objs.size,_,I.laid (a:=s.heap.objs.size) (o:=.dK []) (t':=s.toks) (fun _ _ q=>af _ q) (aw _) (uj s.heap I.big),rfl,h _ (I.hok.fresh (aw _))⟩
end
noncomputable def qN:List (TE×TE)->St->Hp->(List (V×V)->Hp->Prop)->Prop
 | [],_,H,Q=>Q [] H
 | (tk,tv)::r,σ,H,Q=>tk σ H fun x H1=>tv σ H1 fun y H2=>qN r σ H2 fun ps H3=>Q ((x,y)::ps) H3
noncomputable abbrev VV:List (V×V)->List (Value×Value)->Prop:=Paired fun p q=>RelV p.1 q.1/\RelV p.2 q.2
noncomputable def PPs(X:Cx)(pos:Pos)(keys:List (Option Expr))(values:List Expr)(trs:List (TE×TE)):Prop:=
 ∀(pins:List (Addr×Obj))(s:Shared)(σ:St)(H:Hp)(Q:List (V×V)->Hp->Prop),Inv X pins σ H s->qN trs σ H Q->
  wpAny (model X.prog X.w) X.A (evalPairs (pairTrees keys values X.env pos)) (fun vs s'=>∃ps H',Inv X pins σ H' s'/\VV ps vs/\Q ps H') X.xe s
theorem pps_nil{X:Cx}{pos:Pos}:PPs X pos [] [] []:=fun pins s σ H Q I h=>pairTrees_nil_walk ⟨[],H,I,.nil,h⟩
theorem zX{X:Cx}{pos:Pos}{k v:Expr}{ks:List (Option Expr)}{vs:List Expr}{tk tv:TE}{trs:List (TE×TE)}(hk:PE X k tk)(hv:PE X v tv)(hr:PPs X pos ks vs trs):
  PPs X pos (some k::ks) (v::vs) ((tk,tv)::trs):=fun pins s σ H Q I h=>
 pairTrees_cons_walk (thn (hk pins s σ H _ I h) fun u s1 ⟨x,H1,I1,rx,q1⟩=>thn (hv pins s1 σ H1 _ I1 q1) fun w2 s2 ⟨y,H2,I2,ry,q2⟩=>
  thn (hr pins s2 σ H2 _ I2 q2) fun ws s3 ⟨ps,H3,I3,rel,q3⟩=>⟨(x,y)::ps,H3,I3,.cons ⟨rx,ry⟩ rel,q3⟩)
noncomputable def oB(kvs more:List (Key×V)):List (Key×V):=more.foldl (fun acc kv=>putK acc kv.1 kv.2) kvs
theorem KV.merge:∀{more:List (Key×V)}{rs:List (Key×Value)}{kvs:List (Key×V)}{vs:List (Key×Value)},KV more rs->KV kvs vs->KV (oB kvs more) (merged vs rs):=by
 intro more rs kvs vs r;unfold KV at r
 induction r generalizing kvs vs with
 |nil=>intro q;exact q
 | @cons p q ps qs h t ih=>
  intro r0;have e:KV (putK kvs p.1 p.2) (stored vs q.1 q.2):=by
   have :=r0.put p.1 h.2
   rw[<-h.1];exact this
  exact ih e
theorem ko:∀(more kvs:List (Key×V)),(oB kvs more).length<=kvs.length+more.length
 | [],kvs=>by show kvs.length<=kvs.length+0;omega
 |p::r,kvs=>by
  have h1:=ko r (putK kvs p.1 p.2);have h2:=jx kvs p.1 p.2;show(oB (putK kvs p.1 p.2) r).length<=_;rw[aS];omega
theorem oZ{P:Program}{w:World}:∀{kvs:List (Key×V)}{ws:List (Value×Value)},VV (kvs.map fun kv=>(kV kv.1,kv.2)) ws->∃rs,Carries (bH P w) ws rs/\KV kvs rs
 | [],_,r=>by rw[nR]at r;cases r;exact⟨[],True.intro,.nil⟩
 |p::kvs,_,r=>by
  rw[bw]at r;cases r with
  | @cons a b as bs h t=>
   obtain⟨rs,c,q⟩:=oZ (P:=P) (w:=w) t;obtain⟨b1,b2⟩:=b;exact⟨(p.1,b2)::rs,⟨ll h.1,rfl,c⟩,.cons ⟨rfl,h.2⟩ q⟩
noncomputable def tDisp(trs:List (TE×TE)):TE:=fun σ H Q=>∀p,H p=none->qN trs σ (upd H p (.dK [])) fun ps H2=>H2 p=some (.dK [])/\∃kvs:List (Key×V),ps=kvs.map (fun kv=>(kV kv.1,kv.2))/\kvs.length<=15/\Q (.ref p) (upd H2 p (.dK (oB [] kvs)))
theorem pe_disp{X:Cx}{pos:Pos}{keys:List (Option Expr)}{values:List Expr}{trs:List (TE×TE)}(h:PPs X pos keys values trs)(hall:keys.all (·.isSome)=true)(hl:keys.length=values.length)(h0:keys≠[])
  (h15:keys.length<=15):PE X (.Dict keys values pos) (tDisp trs):=by
 intro pins s σ H Q I q;have hn:=I.hok.fresh (aw s.heap.objs.size);have I1:=I.laid (a:=s.heap.objs.size) (o:=.dK []) (h':=s.heap.push {cls:=.type "dict",data:=.dict #[]}) (t':=s.toks) (fun _ _ q=>af _ q) (aw _) (uj s.heap I.big);refine wpAny_Dict_walk (knd:=bH X.prog X.w) hall hl h0 h15 (thn (h pins _ σ _ _ I1 (q _ hn)) fun ws s2 ⟨ps,H2,I2,rel,e,kvs,ep,lk,q2⟩=>?_);subst ep;obtain⟨rs,c,rk⟩:=oZ (P:=X.prog) (w:=X.w) rel;obtain⟨z,hd,vs0,r0,dd⟩:=dk_of I2.hok e;cases r0;refine⟨rs,c,dd,fun h' dd' hs=>⟨.ref s.heap.objs.size,_,?_,rfl,q2⟩⟩;have hz:(oB [] kvs).length<=sizeLine:=by
  have h1:=ko kvs [];rw[cN]at h1;rw[nB];omega
 have he:∃q,h'.get? s.heap.objs.size=some q:=let⟨q,_,_,hq,_⟩:=dd';⟨q,hq⟩;exact rM I2 (by rw[e];exact True.intro) hs he (AQ hz hd (rk.merge .nil) dd')
structure M1(X:Cx)(o:Expr)(m:Str)(apos:Pos)(e:Expr)(cpos:Pos):Prop where
 base:pB o m X.env (eval o X.env)=eval o X.env
 few:((backTo cpos (bp [e] X.env)).all (fun x=> !x.1)&&(backToKw cpos (keywordEach [] X.env)).all (fun x=>x.1.isSome)
  &&decide (([e]:List Expr).length+([]:List Keyword).length+(if([]:List Keyword).isEmpty then 0 else 1)<30))=true
 line:(apos.endLine==cpos.line)=true
 trees:backTo cpos (bp [e] X.env)=[(false,eval e X.env)]
noncomputable def IsD(H:Hp)(a:Addr):Prop:=(∃kvs,Rd H a (.dK kvs))\/∃kvs,Rd H a (.dT kvs)
theorem isD_at{X:Cx}{pins:List (Addr×Obj)}{σ:St}{H:Hp}{s:Shared}{a:Addr}(I:Inv X pins σ H s)(d:IsD H a):
  s.TypeIs (.ref a) "dict"/\(∀b,bo a=.ref b->∃ob,s.heap.get? b=some ob/\ob.dict=none)/\(a==d0)=false:=by
 rcases d with⟨kvs,e⟩ |⟨kvs,e⟩
 ·obtain⟨_,hd,vs,_,dd⟩:=jB I.hok e
  refine⟨dd.typeIs,fun b q=>?_,hd⟩;cases q;obtain⟨ob,_,_,h1,h2,_⟩:=dd;exact⟨ob,h1,h2.2.1⟩
 ·obtain⟨_,hd,xs,_,dd⟩:=oS I.hok e
  refine⟨dd.typeIs,fun b q=>?_,hd⟩;cases q;obtain⟨ob,_,_,h1,h2,_⟩:=dd;exact⟨ob,h1,h2.2.1⟩
section
variable {X:Cx}{pins:List (Addr×Obj)}{σ:St}{H:Hp}{s:Shared}{a:Addr}{y d:V}{u r:Value}{o:Option V}{A:Around}{E:Value->Shared->Prop}
theorem d_get1{Q:Value->Shared->Prop}(hu:A.units+1<cLine)(I:Inv X pins σ H s)(g:o9 H a y o)(ry:RelV y u)(h:∀w' s',Inv X pins σ H s'->RelV (o.getD .non) w'->Q w' s'):
  wpAny (model X.prog X.w) A (call (.builtin "dict.get") [.ref a,u]) Q E s:=by
 rcases g with⟨kvs,k,e,ey,l⟩ |⟨kvs,k,b,e,ey,eb,l⟩
 ·subst ey
  obtain⟨z,hd,vs,rel,dd⟩:=jB I.hok e;refine call_meetsIn jH dd.typeIs uL (sE _ _) (meets_dict_get (bH X.prog X.w) a (ll ry) hd) ⟨_,dd.mapOf,h _ _ (I.tok _) ?_⟩;rw[l];exact(rel.val k).getD rfl
 ·subst ey
  cases(show u=bo b from ry);obtain⟨z,hd,xs,rel,dd⟩:=oS I.hok e;refine call_meetsIn jH dd.typeIs uL (sE _ _) (meetsH_dict_get (nN (bH X.prog X.w)) a b hd) ⟨fT hu,k,xs,me I.hok eb,dd,h _ _ (I.tok _) ?_⟩;rw[l];exact(rel.val k).getD rfl
end
noncomputable def vc(td ty:TE):TE:=fun σ H Q=>td σ H fun x H1=>∃a,x=.ref a/\IsD H1 a/\ty σ H1 fun y H2=>∃o,o9 H2 a y o/\Q (o.getD .non) H2
section
variable {X:Cx}{o e f:Expr}{apos cpos:Pos}{td ty tx:TE}
theorem Ab(hu:X.A.units+1<cLine)(ho:PE X o td)(he:PE X e ty)(m:M1 X o "get" apos e cpos):PE X (.Call (.Attribute o "get" apos) [e] [] cpos) (vc td ty):=by
 intro pins s σ H Q I h;refine wpAny_Call_method m.base m.few m.line PySem.F.plainAttrs_dict jH PySem.F.type_dict_get (thn (ho pins s σ H _ I h) fun u s1 ⟨x,H1,I1,rx,a,ex,d,q1⟩=>?_);subst ex;obtain rfl:u=bo a:=rx;obtain⟨t1,t2,_⟩:=isD_at I1 d;refine⟨t1,t2,?_⟩;rw[m.trees];refine jI rfl (yG (iz (thn (he pins s1 σ H1 _ I1 q1) fun iv s2 ⟨y,H2,I2,ry,ov,g,q2⟩=>Calls.spliced_nil ?_)));exact d_get1 hu I2 g ry fun w' s3 I3 rw'=>⟨_,H2,I3,rw',q2⟩
end
end L2
namespace Att
open PySem PySem.W PySem.Calls PyProof.Rows
theorem nq{P:Params}{h:Heap}:∀(ns:List Int)(vs:List Value),WellAll P h vs (ns.map WData.int)->IntsAre vs ns:=by
 intro ns
 induction ns with
 |nil=>
  intro vs w;rw[nR]at w;cases w;exact .nil
 |cons n ns ih=>
  intro vs w;rw[bw]at w;cases w with
  |cons a b=>
   cases a;exact .cons _ _ (ih _ b)
theorem xD{l:OpenLaw}{n:Nat}(hn:l.most=some n){P:Params}{h:Heap}{args:List WData}{vals:List Value}
  (hpre:l.row.toRowW.claim.pre args=true)(hwl:WellAll P h vals args):
  ∃a vs ns,vals=[bo a]/\args=[WData.list (ns.map WData.int)]/\h.get? a=some {cls:=.type "list",data:=.seq vs.toArray}/\IntsAre vs ns/\ns.length<=n:=by
 have hsh:WShape.hasAll [] args [.list .int]=true:=(pre_splitW hpre).1;have hc:l.pre.holds [] {args:=args}=true:=(pre_splitW hpre).2;obtain⟨d,r,rfl,h1,h2⟩:=hasAllW_cons hsh;obtain rfl:=hasAllW_nil h2;obtain⟨xs,rfl,h3⟩:=hasW_list h1;obtain⟨ns,rfl⟩:=items_int h3;have hlen:ns.length<=n:=by
  unfold OpenLaw.pre at hc;have h4:(WTm.not (.lt (.lit (.int (n:Int))) (.len (.arg 0)))).holds [] {args:=[.list (ns.map .int)]}=true:=by
   have h4:=(holds_andW hc).1;rw[hn]at h4;exact h4
  have h5:=condW_of h4 (w_not (w_lt w_lit (w_len_list (w_arg rfl))));rw[ai]at h5;refine fe fun q=>?_;have q':(n:Int)<((ns.length:Nat):Int):=by omega
  first
   | (rw[decide_eq_true q']at h5;exact absurd h5 (by decide))
   | (simp at h5;omega)
 cases hwl with
 |cons w1 w2=>
  cases w2;cases w1 with
  |list ho hall=>exact⟨_,_,ns,rfl,rfl,ho,nq ns _ hall,hlen⟩
theorem xI(l:OpenLaw)(args:List WData):l.row.toRowW.claim.post args (.bool true) args=true:=
 postW_of (r:=l.row.toRowW) (X:=(true==true))
  (show WShape.has [] (.bool true) .bool=true by first |rfl|decide|simp[WShape.has,WShape.arms,WShape.armsAll])
  (show(WTm.eq .res (.lit (.bool true))).value [] {args:=args,res:=some (.bool true),after:=args}=some (.bool (true==true))from w_eq_bool (w_res rfl) w_lit) rfl
theorem uC{l:OpenLaw}{n:Nat}{q:Program}{loose:List Str}{XP:(Str->Option Value)->Heap->Prop}{YP:World->Heap->Prop}{d:DefRec}
  (hn:l.most=some n)(hdf:d.params.defaults=[])
  (call:∀(w:World)(s₀ s₁:Shared)(mg mb:Str->Option Value)(fa:Addr)(o:Obj)(pm cd doc:Value)(a:Addr)(vs:List Value)(ns:List Int),
   Ground q loose [] XP w s₀ mg mb s₁.heap->YP w s₁.heap->
   s₁.heap.get? fa=some o->o.data=.func (docDef d.name d.params d.body d.scope pm cd doc)->s₁.heap.CodeRec cd d.name->mg d.name=some (.ref fa)->
   s₁.heap.get? a=some {cls:=.type "list",data:=.seq vs.toArray}->IntsAre vs ns->ns.length<=n->s₁.gens= #[]->
   gZ (model l.prog w) xi (.call (.ref fa) ⟨[.ref a],[]⟩) (fun r s'=>r=.ok (.ret (.bool true))/\OldK s₁.heap s'.heap/\s'.os=s₁.os/\jZ s'.gens) s₁):
  WalkO q loose XP YP l.row.toRowW d [] (fun f vs=>PySem.call f vs):=by
 intro w s₀ s₁ mg mb G Y fa o pm cd doc dV kV ho hd hcd hD hmg hg args vals as hpre hlay hrd hwl hlo;obtain rfl:dV=.none:=Dflts.none hD hdf;obtain rfl:kV=.none:=Dflts.noKw hD;obtain⟨a,vs,ns,rfl,rfl,hobj,hints,hlen⟩:=xD hn hpre hwl;refine enter_call (iZ (call w s₀ s₁ mg mb fa o pm cd doc a vs ns G Y ho (fd_plain hd) hcd hmg hobj hints hlen hg) fun r s' hq=>?_);obtain⟨rfl,h2,h3,h4⟩:=hq;exact⟨.inl ⟨.bool true,.bool true,[],rfl,fun _=>rfl,.bool true,xI l _,fun _=>⟨kh,fun _ hm=>(nomatch hm)⟩⟩,h2,h3,h4⟩
end Att
namespace L2
open PySem PySem.Spec PyProof.Rows
theorem pZ:∀{vs:List Value}{ns:List Int},IntsAre vs ns->bJ (ns.map V.int) vs
 |_,_,.nil=>.nil
 |_,_,.cons n t h=>.cons ⟨t,rfl⟩ (pZ h)
noncomputable def bX(s:Stmt):Arguments:=match s with
 |.FunctionDef _ a _ _ _ _ _ _ _ _=>a
 |_=>{posonlyargs:=[],args:=[],vararg:=none,kwonlyargs:=[],kw_defaults:=[],kwarg:=none,defaults:=[]}
noncomputable def bI(s:Stmt):List Stmt:=match s with
 |.FunctionDef _ _ b _ _ _ _ _ _ _=>b
 |_=>[]
noncomputable def aU(s:Stmt):Scope:=match s with
 |.FunctionDef _ _ _ _ _ _ sc _ _ _=>sc
 |_=>{kind:=.function,names:=[],isGenerator:=false,isCoroutine:=false}
noncomputable abbrev CX0:CXT:=fun _ _ _ _ _ _=>False
noncomputable abbrev E0:XK:=fun _ _ _=>False
structure Fun(K:aa)(x qual:Str)(st:Stmt)(f:Addr)(fd:ft):Prop where
 ex:∃(oc:Value)(od:Option Addr)(kV doc pm:Value)(an:Option Addr)(cdv ct:Value)(osl:Array (Option Value)),
  fd=aL x qual (bX st) (bI st) (aU st) .none kV doc pm an cdv ct/\K.lookup f=some ⟨oc,od,.func fd,osl⟩/\dO K cdv qual=true
 kp:bZ K (.ref f)=true
section
variable {P:Program}{w:World}{K:aa}{mg:Str->Option Value}{base:Heap}
theorem Fun.binds{x qual:Str}{st:Stmt}{f:Addr}{fd:ft}{ps:List Str}(F:Fun K x qual st f fd)
  (h:∀(kV doc pm:Value)(an:Option Addr)(cdv ct:Value)(us:List Value),us.length=ps.length->bindArgs (aL x qual (bX st) (bI st) (aU st) .none kV doc pm an cdv ct) ⟨us,[]⟩=pure (ps.zip us)):Binds K fd ps []:=by
 obtain⟨oc,od,kV,doc,pm,an,cdv,ct,osl,rfl,lk,hcd⟩:=F.ex;exact .all (h kV doc pm an cdv ct)
theorem AL{x qual:Str}{st:Stmt}{f:Addr}{oc:Value}{od an:Option Addr}{osl:Array (Option Value)}{kV doc pm cdv ct:Value}(l:K.lookup f=some ⟨oc,od,.func (aL x qual (bX st) (bI st) (aU st) .none kV doc pm an cdv ct),osl⟩)
  (c:dO K cdv qual=true)(k:bZ K (.ref f)=true):Fun K x qual st f (aL x qual (bX st) (bI st) (aU st) .none kV doc pm an cdv ct):=⟨⟨oc,od,kV,doc,pm,an,cdv,ct,osl,rfl,l,c⟩,k⟩
end
noncomputable def bP(H H':Hp):Prop:=∀b o,H b=some o->H' b=some o
theorem bP.refl(H:Hp):bP H H:=fun _ _ h=>h
theorem bP.trans{H H1 H2:Hp}(a:bP H H1)(b:bP H1 H2):bP H H2:=fun c o h=>b c o (a c o h)
theorem bP.free{H H':Hp}(e:bP H H'){l:Addr}(h:H' l=Option.none):H l=Option.none:=by
 cases q:H l with
 |none=>rfl
 |some o=>
  rw[e l o q]at h;cases h
theorem bP.seq{K:aa}{H H':Hp}{a:Addr}{xs:List V}(e:bP H H')(h:SqL K H a xs):SqL K H' a xs:=by
 rcases h with(h|⟨o,h⟩) |h
 ·exact .inl (.inl (e _ _ h))
 ·exact .inl (.inr ⟨o,e _ _ h⟩)
 ·exact .inr h
noncomputable def dS(cells:List (Str×Addr)):List (Str×df)->List (Str×Addr)->List (Str×Addr)
 | [],acc=>acc
 | (n,k)::r,acc=>dS cells r (if k=.free then(n,(cells.lookup n).getD 0)::acc else acc)
theorem kJ{env:Env}{f:Str×df->List (Str×Addr)->Sem (ForInStep (List (Str×Addr)))}
  (hf:∀n k a c,k=.free->env.cells.lookup n=some c->f (n,k) a=pure (.yield ((n,c)::a)))(hg:∀n k a,k≠.free->f (n,k) a=pure (.yield a)):
  ∀(names:List (Str×df))(acc:List (Str×Addr)),(∀y∈names,y.2=.free->∃c,env.cells.lookup y.1=some c)->forIn names acc f=(pure (dS env.cells names acc):Sem _)
 | [],acc,_=>rfl
 | (n,k)::r,acc,h=>by
  rw[kf];by_cases e:k=.free
  ·obtain⟨c,hc⟩:=h (n,k) au e
   rw[hf n k acc c e hc];show forIn r ((n,c)::acc) f=_;rw[kJ hf hg r _ fun y hy=>h y (aI _ hy)];simp[dS,e,hc]
  ·rw[hg n k acc e]
   show forIn r acc f=_;rw[kJ hf hg r _ fun y hy=>h y (aI _ hy)];simp[dS,e]
theorem pN{scope:Scope}{env:Env}(h:∀y∈scope.names,y.2=.free->∃c,env.cells.lookup y.1=some c):closureFor scope env=pure (dS env.cells scope.names []):=by
 have q:=kJ (env:=env) (f:=fun x cs=>match x with | (name,kind)=>if(kind==bG)=true then(do let a<-cellOf env name;pure (eW ((name,a)::cs)))else pure (eW cs))
  (fun n k a c e hc=>by
   subst e;simp only[cellOf,hc];rfl) (fun n k a e=>by
   have e':(k==bG)=false:=by simpa using e
   simp only[e',bh,if_false]) scope.names [] h
 unfold closureFor;show(forIn scope.names [] _>>=fun r=>pure r)=_;exact(congrArg (·>>=fun r=>pure r) q).trans rfl
theorem hU{cells:List (Str×Addr)}:∀(names:List (Str×df))(acc:List (Str×Addr))(x:Str)(c:Addr),(dS cells names acc).lookup x=some c->
  ((x,bG)∈names/\c=(cells.lookup x).getD 0)\/acc.lookup x=some c
 | [],acc,x,c,h=>.inr h
 | (n,k)::r,acc,x,c,h=>by
  rcases hU r _ x c h with⟨q,e⟩ |q
  ·exact .inl ⟨aI _ q,e⟩
  ·by_cases e:k=.free
   ·rw[if_pos e,aY]at q
    cases hx:x==n with
    |true=>
     rw[hx]at q;have en:x=n:=by simpa using hx
     subst en;subst e;exact .inl ⟨au,(bz q).symm⟩
    |false=>
     rw[hx]at q;exact .inr q
   ·rw[if_neg e]at q
    exact .inr q
theorem oU{cells:List (Str×Addr)}:∀(names:List (Str×df))(acc:List (Str×Addr))(x:Str),(acc.lookup x).isSome=true->((dS cells names acc).lookup x).isSome=true
 | [],acc,x,h=>h
 | (n,k)::r,acc,x,h=>by
  refine oU r _ x ?_;split
  ·rw[aY]
   cases x==n<;>simp_all
  ·exact h
theorem kK{cells:List (Str×Addr)}:∀(names:List (Str×df))(acc:List (Str×Addr))(x:Str),(x,bG)∈names->((dS cells names acc).lookup x).isSome=true
 | [],acc,x,h=>by simp at h
 | (n,k)::r,acc,x,h=>by
  rcases aD.mp h with q|q
  ·cases q
   refine oU r _ n ?_;simp[aY]
  ·exact kK r _ x q
theorem ed:∀(names:List (Str×df))(n:Nat)(acc:List (Str×Addr)),bT n names acc=bT n names []++acc
 | [],_,_=>rfl
 | (x,k)::r,n,acc=>by
  unfold bT;split
  ·rw[ed r (n+1) ((x,n)::acc),ed r (n+1) [(x,n)],bt]
   rfl
  ·exact ed r n acc
theorem hX:∀(names:List (Str×df))(n:Nat)(acc:List (Str×Addr))(x:Str),(acc.lookup x).isSome=true->((bT n names acc).lookup x).isSome=true
 | [],_,_,_,h=>h
 | (y,k)::r,n,acc,x,h=>by
  unfold bT;split
  ·refine hX r _ _ x ?_
   rw[aY];cases x==y<;>simp_all
  ·exact hX r _ _ x h
theorem fM:∀(names:List (Str×df))(n:Nat)(acc:List (Str×Addr))(x:Str),(x,cf)∈names->((bT n names acc).lookup x).isSome=true
 | [],_,_,_,h=>nomatch h
 | (y,k)::r,n,acc,x,h=>by
  unfold bT;rcases aD.mp h with q|q
  ·cases q
   rw[if_pos (by rfl)];refine hX r _ _ _ ?_;simp[aY]
  ·split
   ·exact fM r _ _ x q
   ·exact fM r _ _ x q
theorem hV:∀(names:List (Str×df))(n:Nat)(acc:List (Str×Addr))(x:Str)(c:Addr),(x,c)∈bT n names acc->(x,cf)∈names\/(x,c)∈acc
 | [],_,_,_,_,h=>.inr h
 | (y,k)::r,n,acc,x,c,h=>by
  unfold bT at h;split at h
  ·rename_i hk
   rcases hV r _ _ x c h with q|q
   ·exact .inl (aI _ q)
   ·rcases aD.mp q with e|e
    ·cases e
     have :k=.cell:=by simpa using hk
     subst this;exact .inl au
    ·exact .inr e
  ·rcases hV r _ _ x c h with q|q
   ·exact .inl (aI _ q)
   ·exact .inr q
theorem vN{M:Model}{A:Around}{E:Value->Shared->Prop}{s:Shared}{scope:Scope}{globals:Addr}{cl:List (Str×Addr)}{qual:Str}{func:Option Addr}{code:Value}{outer:Env}{builtins:Addr}{Q:Env->Shared->Prop}
  (h:Q (newEnv scope s.heap.objs.size globals (bT (s.heap.objs.size+1) scope.names cl) qual func code (some outer) builtins) {s with heap:=pushCells (s.heap.push {cls:=.type "dict",data:=.dict #[]}) scope.names}):
  wpAny M A (newFunctionEnv scope globals cl [] qual func code (some outer) builtins) Q E s:=by
 simp only[newFunctionEnv,yL,if_true];refine ae (wpAny_alloc ?_);refine ae (wpAny_layCells _ (fun name kind cells=>by cases hkc:kind==cf<;>simp[hkc]) _ _ _ _ ?_);rw[show({s with heap:=s.heap.push {cls:=.type "dict",data:=.dict #[]}}:Shared).heap.objs.size=s.heap.objs.size+1 from cM ..];rw[iD];exact ae (ah (ah h))
structure jT(X:Cx)(N':List Str)(sc:Scope):Prop where
 kind:sc.kind=.function
 cellk:∀y∈sc.names,y.2=.cell->sc.names.lookup y.1=some .cell
 own:∀y∈sc.names,y.2=.local->sc.names.lookup y.1=some .local
 free:∀y∈sc.names,y.2=.free->X.env.kindOf y.1=some .cell\/X.env.kindOf y.1=some .free
noncomputable def cU(X:Cx)(N':List Str)(sc:Scope)(C:Addr)(s₀:Shared)(H₀:Hp)(fp:List Addr):Cx:=
 {X with N:=N',s₀:=s₀,H₀:=H₀,env:=compEnvC sc (bT (C+1) sc.names (dS X.env.cells sc.names [])) C X.env,outer:=X.stack,stack:=X.stack,ex:=fp,fn:=fun x=>sc.names.any fun y=>decide (y.1=x)&&decide (y.2=.cell),pn:=[],xe:=fun _ _=>False}
theorem jt{env:Env}:∀{names:List (Str×df)}{x:Str}{k:df},
  (names.map fun(n,k)=>if(k==bG&&env.scope.kind== .function&&env.kindOf n==some .cell)then(n,cf)else(n,k)).lookup x=some k->
  names.lookup x=some k\/(names.lookup x=some .free/\k=.cell)
 | [],_,_,h=>by simp at h
 | (n,k)::r,x,k',h=>by
  have ih:= @jt env r x k';rw[bw]at h;change gx x ((if(k==bG&&env.scope.kind== .function&&env.kindOf n==some .cell)=true then(n,cf)else(n,k))::_)=_ at h;cases hx:x==n with
  |true=>
   by_cases hc:(k==bG&&env.scope.kind== .function&&env.kindOf n==some .cell)=true
   ·rw[if_pos hc]at h
    simp only[aY,hx]at h⊢;have :k=.free:=by
     have :=hc
     simp only[aK]at this;simpa using this.1.1
    subst this;exact .inr ⟨rfl,(bz h).symm⟩
   ·rw[if_neg hc]at h
    simp only[aY,hx]at h⊢;exact .inl h
  |false=>
   have e:gx x (r.map fun(n,k)=>if(k==bG&&env.scope.kind== .function&&env.kindOf n==some .cell)then(n,cf)else(n,k))=some k':=by
    split at h<;>simpa only[aY,hx]using h
   simp only[aY,hx];exact ih e
theorem eL{env:Env}:∀{names:List (Str×df)}{x:Str},names.lookup x=some .free->
  (names.map fun(n,k)=>if(k==bG&&env.scope.kind== .function&&env.kindOf n==some .cell)then(n,cf)else(n,k)).lookup x=some .free\/
  (names.map fun(n,k)=>if(k==bG&&env.scope.kind== .function&&env.kindOf n==some .cell)then(n,cf)else(n,k)).lookup x=some .cell
 | [],_,h=>by simp at h
 | (n,k)::r,x,h=>by
  have ih:= @eL env r x;rw[bw];change gx x ((if(k==bG&&env.scope.kind== .function&&env.kindOf n==some .cell)=true then(n,cf)else(n,k))::_)=_\/gx x ((if(k==bG&&env.scope.kind== .function&&env.kindOf n==some .cell)=true then(n,cf)else(n,k))::_)=_;cases hx:x==n with
  |true=>
   simp only[aY,hx]at h;cases h;by_cases hc:(bG==bG&&env.scope.kind== .function&&env.kindOf n==some .cell)=true
   ·rw[if_pos hc];right;simp only[aY,hx]
   ·rw[if_neg hc];left;simp only[aY,hx]
  |false=>
   simp only[aY,hx]at h;split <;>simpa only[aY,hx]using ih h
theorem eA{env:Env}:∀{names:List (Str×df)}{x:Str}{k:Option df},names.lookup x=k->k≠some .free->
  (names.map fun(n,k)=>if(k==bG&&env.scope.kind== .function&&env.kindOf n==some .cell)then(n,cf)else(n,k)).lookup x=k
 | [],_,_,h,_=>by simpa using h
 | (n,k)::r,x,k',h,hf=>by
  have ih:= @eA env r x k';rw[bw];change gx x ((if(k==bG&&env.scope.kind== .function&&env.kindOf n==some .cell)=true then(n,cf)else(n,k))::_)=_;cases hx:x==n with
  |true=>
   simp only[aY,hx]at h;have hk:k≠.free:=fun e=>hf (by rw[<-h,e]);have hb:(k==bG)=false:=by simpa using hk
   rw[if_neg (by rw[hb];simp)];simp only[aY,hx];exact h
  |false=>
   simp only[aY,hx]at h;split <;>simpa only[aY,hx]using ih h hf
theorem qp{sc:Scope}{cl:List (Str×Addr)}{C:Addr}{env:Env}{x:Str}{k:df}(h:(compEnvC sc cl C env).kindOf x=some k):sc.names.lookup x=some k\/(sc.names.lookup x=some .free/\k=.cell):=jt (env:=env) h
theorem vU{prog:Program}{w:World}{A:Around}{R:Result->Shared->Prop}{s:Shared}{elt target iter:Expr}{ifs:List Expr}{scope:Scope}{pos:Pos}{it acc:Value}{env:Env}(I:Nat->Shared->Prop)
  (turn:∀n s,I n s->wpAny (model prog w) A (pyNext it) (fun r s₁=>match r with
   |none=>R (.ok .next) s₁
   |some v=>wpAny (model prog w) A (lR target it v) (fun _ s₁'=>wpAny (model prog w) A (assign target env v) (fun _ s₂=>
     wpAny (model prog w) A (forIn ifs true fun c r=>if r=true then do let ok<-isTrue c env (eval c env);pure (eW ok)else pure (eW r)) (fun ok s₃=>
      if ok=true then wpAny (model prog w) A (eval elt env) (fun x s₄=>
       wpAny (model prog w) A (call (.builtin "list.append") [acc,x]) (fun _ s₅=>∃m,m<n/\I m s₅) (fun _ _=>False) s₄) (fun _ _=>False) s₃
      else ∃m,m<n/\I m s₃) (fun _ _=>False) s₂) (fun _ _=>False) s₁') (fun _ _=>False) s₁) (fun _ _=>False) s)
  (n:Nat) (h:I n s):
  gZ (model prog w) A (.compLoop (.ListComp elt [⟨target,iter,ifs,0⟩] scope pos) 0 it acc env) R s:=by
 refine codeAny_loop rfl I (fun n s hI=>?_) n h;show wpAny _ A ((compTurn (.ListComp elt [⟨target,iter,ifs,0⟩] scope pos) 0 it acc env).onRaise (fun x=>do jd x env;theTreesLotGoes x)) _ _ s;refine wpAny_noted ?_;rw[compTurn_list];refine ae (pv (ae (dz (turn n s hI) (fun r s₁ h₁=>?_) fun _ _ h'=>h'.elim)));cases r with
 |none=>exact ah h₁
 |some v=>
  refine ae (dz h₁ (fun _ s₁' h₁'=>?_) fun _ _ h'=>h'.elim);refine ae (dz h₁' (fun _ s₂ h₂=>ae (dz h₂ (fun ok s₃ h₃=>?_) fun _ _ h'=>h'.elim)) fun _ _ h'=>h'.elim);cases ok with
  |false=>exact ah ⟨rfl,h₃⟩
  |true=>
   exact ae (ae (dz h₃ (fun x s₄ h₄=>ae (dz h₄ (fun _ s₅ h₅=>ah (ah ⟨rfl,h₅⟩)) fun _ _ h'=>h'.elim)) fun _ _ h'=>h'.elim))
noncomputable def PTs(X:Cx)(ifs:List Expr)(t:TT):Prop:=
 ∀(pins:List (Addr×Obj))(s:Shared)(σ:St)(H:Hp)(Q:Bool->Hp->Prop),Inv X pins σ H s->t σ H Q->
  wpAny (model X.prog X.w) X.A (forIn ifs true fun c r=>if r=true then do let ok<-isTrue c X.env (eval c X.env);pure (eW ok)else pure (eW r)) (TP X pins σ Q) X.xe s
noncomputable def yZ:TT:=fun _ H Q=>Q true H
theorem pts_nil{X:Cx}:PTs X [] yZ:=by
 intro pins s σ H Q I h;rw[iD];exact ah ⟨H,I,h⟩
theorem pts_one{X:Cx}{c:Expr}{t:TT}(h:PT X c t):PTs X [c] t:=by
 intro pins s σ H Q I hw;rw[kf];simp only[if_true];refine ae (ae (thn (h pins s σ H Q I hw) fun b s1 q=>?_));refine ah ?_;show wpAny _ _ (forIn ([]:List Expr) b _) _ _ s1;rw[iD];exact ah q
noncomputable def nX(wi:TI)(g:TG)(tc:TT)(te:TE)(mk:St->St):TE:=fun σ H Q=>wi σ H fun J H1=>∃W:Nat->Nat->St->List V->Hp->Prop,(∃m,W 0 m (mk σ) [] H1)/\
 ∀i m τ acc H2,W i m τ acc H2->(J.stop i H2/\∀l,H2 l=none->Q (.ref l) (upd H2 l (.lst acc)))\/(J.go i H2/\∃N:St->List V->Hp->Prop,(∀τ' acc' H',N τ' acc' H'->∃m',m'<m/\W (i+1) m' τ' acc' H')/\
  ∀x H3,J.yld i H2 x H3->g x τ H3 fun τ4 H4=>tc τ4 H4 fun b H5=>if b=true then te τ4 H5 fun v H6=>acc.length<sizeLine/\N τ4 (acc++[v]) H6 else N τ4 acc H5)
theorem Inv.track{X:Cx}{pins:List (Addr×Obj)}{σ:St}{H:Hp}{s:Shared}{a:Addr}{o:HO}(I:Inv X pins σ H s)(hf:lJ X pins H a)(new:cZ X.prog X.w (upd H a o) s.heap a o):Inv X pins σ (upd H a o) s:=by
 obtain⟨h0,h1,h2,h3,h4,h5⟩:=hf;have :=I.step (g':=s.gens) (d':=s.drawn) (t':=s.toks) (h':=s.heap) (H':=upd H a o) (ch:=[a]) (fun b hb=>by
   have e:b=a:=by simpa using hb
   subst e;exact⟨h3,h1,h4,h5⟩)
  (fun b ob _ _ _ q _=>q) (fun b ob _ _ _ q _=>⟨ob.slots,q⟩) (fun b ob hb q n=>by rw[bC (fun z=>hb (by simp[z]))];exact n) (fun b ob _ q=>⟨ob,q⟩)
  (fun b xs q=>by rw[bC (bR q h0)];exact q) (fun b ob u q=>by rw[bC (bR q h0)];exact q) (fun b ps q=>⟨#[],by rw[bC (bR q h0),q];simp⟩)
  (fun m hm=>hm) (fun b u q=>by
   by_cases hb:b=a
   ·subst hb;rw[aM]at q;cases q;exact new
   ·rw[bC hb]at q
    exact(I.hok b u q).qS (fun c v _ e=>e) (fun c e=>by rw[bC (bR e h0)];exact e) fun c xs e=>by rw[bC (bR e h0)];exact e) I.bare
 exact this
theorem v8{X:Cx}{pins:List (Addr×Obj)}{σ:St}{H:Hp}{s:Shared}{a:Addr}{its:List Value}{n:Nat}{u:Value}{Q:Value->Shared->Prop}{E:Value->Shared->Prop}(I:Inv X pins σ H s)(hf:lJ X pins H a)
  (e:s.heap.get? a=some {cls:=.type "list",data:=.seq its.toArray n}) (hz:its.length<sizeLine)
  (h:∀h' n',Inv X pins σ H {s with heap:=h'}->h'.get? a=some {cls:=.type "list",data:=.seq (its++[u]).toArray n'}->(∀b o,b≠a->s.heap.get? b=some o->h'.get? b=some o)->Q .none {s with heap:=h'}):
  wpAny (model X.prog X.w) X.A (call (.builtin "list.append") [.ref a,u]) Q E s:=by
 refine jl F.slot_list_append ⟨_,e,rfl⟩ F.entry_list_append (F.args_list_append_2 _ _) (PySem.list_append a its.toArray n u (by rw[aq];omega)) ⟨e,?_⟩;have q:=yD e (·.push u);have eq:its.toArray.push u=(its++[u]).toArray:=by simp
 rw[eq]at q;have k:∀b o,b≠a->s.heap.get? b=some o->(s.heap.update a (b9 (·.push u))).get? b=some o:=fun b o hb z=>(aZ s.heap _ (dg hb)).trans z;obtain⟨h0,h1,h2,h3,h4,h5⟩:=hf;exact h _ _ (I.turned (t':=s.toks) k h0 h1 h3 h4 h5) q k
section
variable {X:Cx}{N':List Str}{sc:Scope}{elt tg iter:Expr}{ifs:List Expr}{pos:Pos}{wi:TI}{g:TG}{tc:TT}{te:TE}{mk:St->St}
noncomputable def MkOk(X:Cx)(N':List Str)(sc:Scope)(mk:St->St):Prop:=
 ∀σ:St,σ.length=X.N.length->(mk σ).length=N'.length/\∀(i:Nat)(x:Str)(v:V),N'[i]? =some x->(mk σ)[i]? =some (some v)->sc.names.lookup x=some .free/\∃j:Nat,X.N[j]? =some x/\σ[j]? =some (some v)
theorem qx{pins:List (Addr×Obj)}{σ:St}{H:Hp}{s:Shared}{Q:VK}{use:Option (Value->Sem Unit)}{QQ:Value->Shared->Prop}(S:jT X N' sc)(hm:MkOk X N' sc mk)(hc:X.calm=true)
  (hi:PI X tg iter wi)
  (hb:∀C s₀ H₀ fp,(cU X N' sc C s₀ H₀ fp).Ok->PG (cU X N' sc C s₀ H₀ fp) tg g/\PTs (cU X N' sc C s₀ H₀ fp) ifs tc/\PE (cU X N' sc C s₀ H₀ fp) elt te)
  (hs:∀x,gm iter X.env x=pure x)(I:Inv X pins σ H s)(h:nX wi g tc te mk σ H Q)
  (fin:∀(l C:Addr)(H':Hp)(s':Shared)(m:Str->Option Value),Inv X pins σ H' s'->s'.heap.Ns C m->lJ X pins H' C->(∃o,s'.heap.get? C=some o/\∀v,o.data≠.cell v)->Q (.ref l) H'->compPost (model X.prog X.w) X.A X.xe use QQ (.ref l) C (.ok .next) s'):
  wpAny (model X.prog X.w) X.A (comprehension (.ListComp elt [⟨tg,iter,ifs,0⟩] sc pos) sc X.env (firstIterPos [⟨tg,iter,ifs,0⟩] pos) (newList []) false (eval iter X.env) use) QQ X.xe s:=by
 have hcells:∀y∈sc.names,y.2=.free->∃c,X.env.cells.lookup y.1=some c:=fun y hy hf=>I.ok.has _ (S.free y hy hf);refine wpAny_comprehension_free (use:=use) rfl hs (pN hcells) S.kind S.own ?_;refine thn (hi pins s σ H _ I h) fun v s1 h1=>thn h1 fun itv s2 h2=>?_;obtain⟨it,fp,tn,J,H2,e,I2,T,st2,f2,W,⟨m0,w0⟩,turn⟩:=h2;subst e
 --the list
 refine dv ?_;have hl0:H2 s2.heap.objs.size=none:=I2.fresh;have fD:lJ X pins H2 s2.heap.objs.size:=I2.vK (aw _) hl0;have eD3:(s2.heap.push {cls:=.type "list",dict:=none,data:=.seq ([]:List Value).toArray}).get? s2.heap.objs.size=some {cls:=.type "list",data:=.seq ([]:List Value).toArray 0}:=aE _ rfl;have I3:Inv X pins σ H2 {s2 with heap:=s2.heap.push {cls:=.type "list",dict:=none,data:=.seq ([]:List Value).toArray}}:=I2.kept (t':=s2.toks) fun b o e=>af _ e
 --the block's frame
 refine vN ?_;dsimp only;have szL:(s2.heap.push {cls:=.type "list",dict:=none,data:=.seq ([]:List Value).toArray}).objs.size=s2.heap.objs.size+1:=cM ..;have hDC:s2.heap.objs.size≠(s2.heap.push {cls:=.type "list",dict:=none,data:=.seq ([]:List Value).toArray}).objs.size:=by rw[szL];exact aH (cq _)
 have k23:∀b o,s2.heap.get? b=some o->(s2.heap.push {cls:=.type "list",dict:=none,data:=.seq ([]:List Value).toArray}).get? b=some o:=fun b o e=>af _ e;generalize hH3:s2.heap.push {cls:=.type "list",dict:=none,data:=.seq ([]:List Value).toArray}=P3 at I3 szL eD3 hDC k23⊢;generalize hD:s2.heap.objs.size=D0 at *;have hns4:(pushCells (P3.push {cls:=.type "dict",data:=.dict #[]}) sc.names).Ns P3.objs.size (fun _=>none):=(Heap.Ns.new P3 (.type "dict")).keeps (pushCells_keeps _ _);have keep4:∀b o,P3.get? b=some o->(pushCells (P3.push {cls:=.type "dict",data:=.dict #[]}) sc.names).get? b=some o:=fun b o e=>pushCells_keeps _ _ b o (af _ e);have own4:=cellsFrom_ok sc.names (P3.push {cls:=.type "dict",data:=.dict #[]}) (P3.objs.size+1) [] ⟨fun _ _ hm=>(nomatch hm),kh⟩ (by rw[cM];exact aw _);rw[cM]at own4;generalize pushCells (P3.push {cls:=.type "dict",data:=.dict #[]}) sc.names=h4 at hns4 keep4 own4⊢
 --the context
 have fpl:∀b∈fp,b<D0:=fun b hb=>by
  obtain⟨o,e,_⟩:=T.obj _ _ st2 b hb;rw[<-hD];exact ay e
 have hCb:D0<P3.objs.size:=by rw[szL];exact cq _
 have clo:∀x c,(dS X.env.cells sc.names []).lookup x=some c->X.env.cells.lookup x=some c/\(x,bG)∈sc.names:=fun x c e=>by
  rcases hU _ _ x c e with⟨q,e'⟩ |q
  ·obtain⟨c',hc'⟩:=hcells _ q rfl
   have hc'':X.env.cells.lookup x=some c':=hc';rw[hc'']at e'⊢;exact⟨by rw[e'];rfl,q⟩
  ·simp at q
 have clt:∀x c,(dS X.env.cells sc.names []).lookup x=some c->c<P3.objs.size:=fun x c e=>by
  obtain⟨v,o,ho,_⟩:=I3.cell x c (clo x c e).1;exact ay ho
 have cel:∀x c,(bT (P3.objs.size+1) sc.names (dS X.env.cells sc.names [])).lookup x=some c->((x,c)∈bT (P3.objs.size+1) sc.names []/\P3.objs.size+1<=c/\h4.IsCell c none)\/(dS X.env.cells sc.names []).lookup x=some c:=fun x c e=>by
  rw[ed,ng]at e;cases ho:(bT (P3.objs.size+1) sc.names []).lookup x with
  |none=>
   rw[ho]at e;exact .inr e
  |some c'=>
   rw[ho]at e;cases e;have m:=ba ho;exact .inl ⟨m,(own4.empty x c m).2,(own4.empty x c m).1⟩
 have celf:∀x,sc.names.lookup x=some .free->(bT (P3.objs.size+1) sc.names (dS X.env.cells sc.names [])).lookup x=(dS X.env.cells sc.names []).lookup x:=fun x hf=>by
  rw[ed,ng];cases ho:(bT (P3.objs.size+1) sc.names []).lookup x with
  |none=>rfl
  |some c'=>
   rcases hV _ _ _ _ _ (ba ho)with q|q
   ·have :=S.cellk _ q rfl
    rw[hf]at this;cases this
   ·cases q
 have f3:∀b∈D0::fp,lJ X pins H2 b/\b<P3.objs.size:=fun b hb=>by
  rcases aD.mp hb with z|z
  ·rw[z];exact⟨fD,hCb⟩
  ·exact⟨f2 b z,j9 (fpl b z) hCb⟩
 have ok:(cU X N' sc P3.objs.size {s2 with heap:=P3} H2 (D0::fp)).Ok:=by
  refine⟨I.ok.mod,S.kind,I.ok.glob,I.ok.blt,aw _,fun x y c h1 h2=>?_,fun x hx=>?_,fun x c z=>?_,fun z=>I.ok.hd z,I.ok.frames,.inl rfl,fun b hb=>⟨?_,fun x c e=>?_⟩,I3.bs,aQ I.ok.bsz I3.sz,fun b o e hb=>?_,fun b hb z=>?_,I3.stack,I3.qR⟩
  ·rcases cel x c h1 with⟨m1,l1,_⟩ |q1<;>rcases cel y c h2 with⟨m2,l2,_⟩ |q2
   ·exact PySem.name_of_addr own4.apart m1 m2
   ·exact absurd l1 (Nat.not_le.mpr (bu (clt y c q2)))
   ·exact absurd l2 (Nat.not_le.mpr (bu (clt x c q1)))
   ·exact I.ok.inj x y c (clo x c q1).1 (clo y c q2).1
  ·have q:sc.names.lookup x=some .free\/sc.names.lookup x=some .cell:=by
    rcases hx with hx|hx
    ·rcases qp hx with q|q
     ·exact .inr q
     ·exact .inl q.1
    ·rcases qp hx with q|q
     ·exact .inl q
     ·exact .inl q.1
   rcases q with q|q
   ·have h1:=fg.mp (kK (cells:=X.env.cells) _ [] _ (ba q))
    show ∃c,(bT (P3.objs.size+1) sc.names (dS X.env.cells sc.names [])).lookup x=some c;rw[celf x q];exact h1
   ·exact fg.mp (fM _ _ _ _ (ba q))
  ·have z:(sc.names.any fun y=>decide (y.1=x)&&decide (y.2=cf))=true:=z
   obtain⟨y,hy,e⟩:=jq.mp z;rw[aK,decide_eq_true_eq,decide_eq_true_eq]at e;intro hc;rcases cel x c hc with⟨_,l1,_⟩ |q1
   ·show P3.objs.size<=c
    omega
   ·have hk:=S.cellk y hy e.2
    rw[e.1]at hk;rcases hU _ _ x c q1 with⟨q,_⟩ |q
    ·have h2:(bT (P3.objs.size+1) sc.names []).lookup x≠none:=fun h=>by
      have :=fM sc.names (P3.objs.size+1) [] x (ba hk)
      rw[h]at this;cases this
     have hc':(bT (P3.objs.size+1) sc.names (dS X.env.cells sc.names [])).lookup x=some c:=hc;rw[ed,ng]at hc';cases ho:(bT (P3.objs.size+1) sc.names []).lookup x with
     |none=>exact absurd ho h2
     |some c'=>
      rw[ho]at hc';cases hc';have :=(own4.empty x c (ba ho)).2;show P3.objs.size<=c;omega
    ·cases q
  ·exact aH (f3 b hb).2
  ·rcases cel x c e with⟨_,l1,_⟩ |q1
   ·have :=(f3 b hb).2
    exact fun z=>by subst z;omega
   ·exact(f3 b hb).1.2.2.2.2.1 x c (clo x c q1).1
  ·rcases(f3 b hb).1.2.2.2.1 with z|z
   ·exact I.ok.noex b o e z
   ·exact absurd (aO (ay e) (aQ I.ok.bsz z)) (de _)
  ·rcases aD.mp (I2.ve b z)with q|q
   ·exact(f3 b hb).1.2.1 q
   ·exact(f3 b hb).1.2.2.1 q
 obtain⟨pg,pt,pe⟩:=hb _ _ _ _ ok;have I4:Inv (cU X N' sc P3.objs.size {s2 with heap:=P3} H2 (D0::fp)) [] (mk σ) H2 {s2 with heap:=h4}:=by
  obtain⟨ml,hmk⟩:=hm σ I.len;have locC:∀x c v,X.env.cells.lookup x=some c->P3.IsCell c v->h4.IsCell c v:=fun x c v e ⟨o,ho,hd⟩=>⟨o,keep4 c o ho,hd⟩;refine⟨ok,rfl,I2.bare,Un.kept keep4,⟨_,hns4,fun i x v e1 e2 e3=>?_⟩,fun x c e=>?_,I3.hok.fresh (aw _),fun x c e=>?_,fun p hp=>absurd (show p∈([]:List (Addr×Obj))from hp) (by simp),I3.hok.kept keep4,ml⟩
  ·obtain⟨hf,j,hj,hv⟩:=hmk i x v e1 e2
   obtain⟨m,hn,hl⟩:=I3.loc;have kx:=S.free (x,.free) (ba hf) rfl;obtain⟨u,r,l⟩:=hl j x v hj hv (by
    rcases kx with q|q
    ·exact .inr (.inl q)
    ·exact .inr (.inr q))
   refine⟨u,r,.inr ⟨?_,?_⟩⟩
   ·rcases eL (env:=X.env) hf with q|q
    ·exact .inr q
    ·exact .inl q
   ·rcases l with⟨q,_⟩ |⟨_,c,hc1,hc2⟩
    ·have kx':X.env.kindOf x=some .cell\/X.env.kindOf x=some .free:=kx
     rw[q]at kx';rcases kx' with z|z<;>cases z
    ·obtain⟨c',q⟩:=fg.mp (kK (cells:=X.env.cells) _ [] _ (ba hf))
     have :=(clo x c' q).1
     rw[hc1]at this;cases this;exact⟨c,by show(bT (P3.objs.size+1) sc.names (dS X.env.cells sc.names [])).lookup x=some c;rw[celf x hf];exact q,locC x c _ hc1 hc2⟩
  ·rcases cel x c e with⟨_,_,hv⟩ |q1
   ·exact⟨none,hv⟩
   ·obtain⟨v,hv⟩:=I3.cell x c (clo x c q1).1
    exact⟨v,locC x c v (clo x c q1).1 hv⟩
  ·rcases cel x c e with⟨_,l1,_⟩ |q1
   ·exact I3.hok.fresh (by show P3.objs.size<=c;omega)
   ·exact I3.freeC x c (clo x c q1).1
 have st4:tn 0 h4:=T.keep _ _ _ st2 fun b hb o e=>keep4 b o (k23 b o e);have f4:∀{H':Hp}{b:Addr},b∈D0::fp->H' b=none->lJ (cU X N' sc P3.objs.size {s2 with heap:=P3} H2 (D0::fp)) [] H' b:=fun{H' b} hb hn=>
  ⟨hn,(ok.exf b hb).1,ok.exfs b hb,.inl hb,(ok.exf b hb).2,fun p hp=>absurd (show p∈([]:List (Addr×Obj))from hp) (by simp)⟩
 have ofp:∀{b:Addr},b∈fp->b∈D0::fp:=fun hb=>aI _ hb;have nD:∀b∈fp,b≠D0:=fun b hb=>aH (fpl b hb)
 --the loop
 have loop:gZ (model X.prog X.w) X.A (.compLoop (.ListComp elt [⟨tg,iter,ifs,0⟩] sc pos) 0 (.ref it) (.ref D0) (compEnvC sc (bT (P3.objs.size+1) sc.names (dS X.env.cells sc.names [])) P3.objs.size X.env))
   (compPost (model X.prog X.w) X.A X.xe use QQ (.ref D0) P3.objs.size) {s2 with heap:=h4}:=by
  refine vU (fun n s'=>∃i τ acc H' its k,Inv (cU X N' sc P3.objs.size {s2 with heap:=P3} H2 (D0::fp)) [] τ H' s'/\tn i s'.heap/\(∀b∈D0::fp,H' b=none)/\bJ acc its/\acc.length<=sizeLine/\
    s'.heap.get? D0=some {cls:=.type "list",data:=.seq its.toArray k}/\W i n τ acc H') ?_ m0
   ⟨0,mk σ,[],_,[],0,I4,st4,fun b hb=>(f3 b hb).1.1,.nil,aX _,keep4 _ _ eD3,w0⟩
  rintro n s5 ⟨i,τ,acc,H5,its,kk,I5,st5,fr5,va5,hz5,e5,w5⟩;have I5p:Inv (cU X N' sc P3.objs.size {s2 with heap:=P3} H2 (D0::fp)) ([]++fZ [D0] s5.heap) τ H5 s5:=by
   refine I5.pinned (fun b hb=>?_) (fun b hb=>?_)
   ·have z:b=D0:=by simpa using hb
    rw[z];exact f4 au (fr5 D0 au)
   ·have z:b=D0:=by simpa using hb
    rw[z];exact⟨_,e5,fun v z=>by cases z⟩
  obtain q|⟨go,NN,hN,step⟩:=turn i n τ acc H5 w5
  ·obtain⟨stop,q⟩:=q
   refine thn (T.done (cU X N' sc P3.objs.size {s2 with heap:=P3} H2 (D0::fp)) rfl rfl rfl hc i _ s5 τ H5 (fun _ _=>False) I5p (fun b hb=>?_) st5 stop) fun r s6 ⟨hr,I6p⟩=>?_
   ·obtain⟨g0,g1,g2,g3,g4,_⟩:=f4 (ofp hb) (fr5 b (ofp hb))
    refine⟨g0,g1,g2,g3,g4,fun p hp=>?_⟩;have hp':p∈fZ [D0] s5.heap:=by simpa[cU]using hp
    obtain⟨z,_⟩:=l8 hp';have z':p.1=D0:=by simpa using z
    rw[z'];exact(nD b hb).symm
   subst hr;have I6:=I6p.fu;have e6:s6.heap.get? D0=some {cls:=.type "list",data:=.seq its.toArray kk}:=(I6p.pin (D0,_) (aN _ (aN _ (fK (by simp) e5)))).1
   --back in the context around
   have un:Un (frs X.stack) fp H2 H5 s2.heap s6.heap:=by
    have u:=I6.base;have nb:∀b o,s2.heap.get? b=some o->b∉fp->b∉D0::fp:=fun b o e hb z=>by
     rcases aD.mp z with z|z
     ·exact absurd (ay e) (by rw[z,hD];exact de _)
     ·exact hb z
    exact⟨fun b o e n hb hx=>u.keep b o (k23 b o e) n hb (nb b o e hx),fun b o e n hb hx=>u.slot b o (k23 b o e) n hb (nb b o e hx),fun b o e n hx=>u.free b o (k23 b o e) n (nb b o e hx),fun b o e hx=>u.there b o (k23 b o e) (nb b o e hx),u.tups,u.frzs,u.tbls⟩
   have I7:Inv X pins σ H5 s6:=by
    obtain⟨hh,g6,d6,t6,os6⟩:=s6;have eo:os6=s2.os:=I6.os;subst eo;exact I2.call (h':=hh) (g':=g6) (d':=d6) (t':=t6) (ch:=fp) un I6.hok I6.bare fun b hb=>⟨(f2 b hb).2.2.2.1,(f2 b hb).2.1,(f2 b hb).2.2.2.2.1,(f2 b hb).2.2.2.2.2⟩
   have fD5:lJ X pins H5 D0:=⟨fr5 D0 au,fD.2⟩;have I8:=I7.track (o:=.lst acc) fD5 (show cZ X.prog X.w _ s6.heap D0 (.lst acc)from⟨hz5,its,kk,va5,e6⟩);obtain⟨m,hn,_⟩:=id I6.loc;refine fin _ P3.objs.size _ s6 m I8 hn (I2.vK (by rw[hD];exact fU hCb) (by rw[bC (dg hDC)];exact I6.free)) ?_ (q D0 (fr5 D0 au));obtain⟨o,es,ep,ho,hd,_⟩:=hn;exact⟨o,ho,fun v z=>by rw[hd]at z;cases z⟩
  ·skip
   have fpi:∀{H':Hp}{b:Addr},b∈fp->H' b=none->lJ (cU X N' sc P3.objs.size {s2 with heap:=P3} H2 (D0::fp)) ([]++fZ [D0] s5.heap) H' b:=fun{H' b} hb hn=>by
    obtain⟨g0,g1,g2,g3,g4,_⟩:=f4 (H':=H') (ofp hb) hn;refine⟨g0,g1,g2,g3,g4,fun p hp=>?_⟩;have hp':p∈fZ [D0] s5.heap:=by simpa[cU]using hp
    obtain⟨z,_⟩:=l8 hp';have z':p.1=D0:=by simpa using z
    rw[z'];exact(nD b hb).symm
   refine thn (T.item (cU X N' sc P3.objs.size {s2 with heap:=P3} H2 (D0::fp)) rfl rfl rfl hc i _ s5 τ H5 (fun _ _=>False) I5p (fun b hb=>fpi hb (fr5 b (ofp hb))) st5 go) fun r s6 ⟨u,hr,h6⟩=>?_;subst hr;refine thn h6 fun _ s7 ⟨x,H7,I7,r7,y7,st7,fr7⟩=>?_;have I7':=I7.pinned (fun b hb=>fpi hb (fr7 b hb)) (T.obj _ _ st7);refine thn (pg _ s7 τ H7 x u _ I7' r7 (step x H7 y7)) fun _ s8 ⟨τ8,H8,I8,q8⟩=>?_;refine thn (pt _ s8 τ8 H8 _ I8 q8) fun b s9 ⟨H9,I9,q9⟩=>?_;have pinD:∀{τ':St}{H':Hp}{s':Shared},Inv (cU X N' sc P3.objs.size {s2 with heap:=P3} H2 (D0::fp)) ([]++fZ [D0] s5.heap++fZ fp s7.heap) τ' H' s'->s'.heap.get? D0=some {cls:=.type "list",data:=.seq its.toArray kk}/\H' D0=none:=fun{τ' H' s'} J=>by
    have :=J.pin (D0,_) (aN _ (kU _ (aN _ (fK (by simp) e5))))
    exact⟨this.1,this.2.1⟩
   have pinF:∀{τ':St}{H':Hp}{s':Shared},Inv (cU X N' sc P3.objs.size {s2 with heap:=P3} H2 (D0::fp)) ([]++fZ [D0] s5.heap++fZ fp s7.heap) τ' H' s'->(∀b∈fp,∀o,s7.heap.get? b=some o->s'.heap.get? b=some o)/\(∀b∈fp,H' b=none):=fun{τ' H' s'} J=>by
    refine⟨fun b hb o e=>(J.pin (b,o) (aN _ (aN _ (fK hb e)))).1,fun b hb=>?_⟩;obtain⟨o,e,d⟩:=T.obj _ _ st7 b hb;exact(J.pin (b,o) (aN _ (aN _ (fK hb e)))).2.1
   cases b with
   |false=>
    rw[if_neg (by decide)]at q9⊢;obtain⟨m',hm',w7⟩:=hN τ8 acc H9 q9;obtain⟨d1,d2⟩:=pinD I9;obtain⟨p1,p2⟩:=pinF I9;refine⟨m',hm',i+1,τ8,acc,H9,its,kk,I9.fu.fu,T.keep _ _ _ st7 p1,fun b hb=>?_,va5,hz5,d1,w7⟩;rcases aD.mp hb with z|z
    ·rw[z];exact d2
    ·exact p2 b z
   |true=>
    rw[if_pos rfl]at q9⊢;refine thn (pe _ s9 τ8 H9 _ I9 q9) fun y s10 ⟨z,H10,I10,r10,q10⟩=>?_;obtain⟨hz10,n10⟩:=q10;obtain⟨m',hm',w7⟩:=hN τ8 _ H10 n10;obtain⟨d1,d2⟩:=pinD I10;obtain⟨p1,p2⟩:=pinF I10;have hlen:its.length=acc.length:=va5.length.symm;refine v8 (X:=cU X N' sc P3.objs.size {s2 with heap:=P3} H2 (D0::fp)) I10.fu.fu (f4 au d2) d1 (by omega) fun h' n' I11 e11 k11=>?_;refine⟨m',hm',i+1,τ8,acc++[z],H10,its++[y],n',I11,T.keep _ _ _ st7 fun b hb o e=>k11 b o (nD b hb) (p1 b hb o e),fun b hb=>?_,va5.append (.cons r10 .nil),?_,e11,w7⟩
    ·rcases aD.mp hb with w|w
     ·rw[w];exact d2
     ·exact p2 b w
    ·rw[aj,cS];omega
 exact codeAny_compStart_list loop (T.self _ 0 _ _ _ st4 loop)
theorem pe_comp(S:jT X N' sc)(hm:MkOk X N' sc mk)(hc:X.calm=true)(hi:PI X tg iter wi)
  (hb:∀C s₀ H₀ fp,(cU X N' sc C s₀ H₀ fp).Ok->PG (cU X N' sc C s₀ H₀ fp) tg g/\PTs (cU X N' sc C s₀ H₀ fp) ifs tc/\PE (cU X N' sc C s₀ H₀ fp) elt te)
  (hs:∀x,gm iter X.env x=pure x:=by intro _;rfl):PE X (.ListComp elt [⟨tg,iter,ifs,0⟩] sc pos) (nX wi g tc te mk):=by
 intro pins s σ H Q I h;rw[eval_ListComp];refine qx (use:=none) S hm hc hi hb hs I h fun l C H' s' m I' hn hC hCo q=>⟨m,hn,fun h'' hs''=>?_⟩;have I'':Inv X pins σ H' {s' with heap:=h'',toks:=s'.toks}:=I'.turned (fun b o hb e=>hs''.extBut b o hb e) hC.1 hC.2.1 hC.2.2.2.1 hC.2.2.2.2.1 hC.2.2.2.2.2;exact⟨.ref l,H',I'',rfl,q⟩
theorem vn{i:Nat}{x:Str}{pos' spos:Pos}(S:jT X N' sc)(hm:MkOk X N' sc mk)(hc:X.calm=true)(hi:PI X tg iter wi)
  (hb:∀C s₀ H₀ fp,(cU X N' sc C s₀ H₀ fp).Ok->PG (cU X N' sc C s₀ H₀ fp) tg g/\PTs (cU X N' sc C s₀ H₀ fp) ifs tc/\PE (cU X N' sc C s₀ H₀ fp) elt te)
  (hN:X.N.Nodup)(hx:X.N[i]? =some x)(hl:X.env.scope.names.lookup x=some .local)
  (hsw:kO (.ListComp elt [⟨tg,iter,ifs,0⟩] sc pos) (some (.Name x pos')) spos.line X.env=pure true)
  (hs:∀x,gm iter X.env x=pure x:=by intro _;rfl):PS X (.Assign [.Name x pos'] (.ListComp elt [⟨tg,iter,ifs,0⟩] sc pos) spos) (xu (nX wi g tc te mk) (lp i)):=by
 intro pins s σ H D I h;rw[exec_Assign_Name_used _ _ _ _ hsw];refine ae (pv (ae ?_));show wpAny _ X.A (do let _<-comprehension (.ListComp elt [⟨tg,iter,ifs,0⟩] sc pos) sc X.env (firstIterPos [⟨tg,iter,ifs,0⟩] pos) (newList []) false (eval iter X.env) (some (assign (.Name x pos') X.env))) _ _ s;refine ae (thn (qx (use:=some (assign (.Name x pos') X.env)) (QQ:=fun _ s'=>SP X pins D .next s') S hm hc hi hb hs I h fun l C H' s' m I' hn hC hCo q=>?_) fun _ s' hq=>ah (ah hq));obtain⟨oC,eC,dC⟩:=id hCo;have I1:Inv X (pins++[(C,oC)]) σ H' s':=I'.ri fun p hp=>(aG.mp hp).elim (fun z=>I'.pin p (aN _ z)) fun z=>by
  have e:p=(C,oC):=by simpa using z
  subst e;exact⟨eC,hC.1,hC.2.1,hC.2.2.1,dC⟩
 show wpAny _ X.A (assign (.Name x pos') X.env (.ref l)) _ _ s';refine thn (wG (i:=i) hN hx (.inl hl) (.inr hl) (pins++[(C,oC)]) s' σ H' (.ref l) (.ref l) D.nx I1 rfl q) fun _ s2 ⟨σ2,H2,I2,q2⟩=>?_;obtain⟨eC2,nC2,_,_,_⟩:=I2.pin (C,oC) (aN _ (aN _ (by simp)));have hn2:s2.heap.Ns C m:=by
  obtain⟨o,es,ep,ho,r⟩:=hn;have :o=oC:=by rw[eC]at ho;exact(bz ho).symm
  subst this;exact⟨o,es,ep,eC2,r⟩
 refine⟨m,hn2,fun h'' hs''=>?_⟩;have I3:Inv X pins σ2 H2 {s2 with heap:=h'',toks:=s2.toks}:=I2.fu.turned (fun b o hb e=>hs''.extBut b o hb e) nC2 hC.2.1 hC.2.2.2.1 hC.2.2.2.2.1 hC.2.2.2.2.2;exact⟨σ2,H2,I3,q2⟩
end
section
variable {X:Cx}
theorem uv:eU X (.builtin "isinstance") (fun xs H Q=>∃x T t b,xs=[x,.ty T]/\ji X.K H x t/\fG X.K t (.type T)=some b/\Q (.bl b) H):=by
 intro pins s σ H xs us Q I rv h;obtain⟨x,T,t,b,rfl,ty,e,q⟩:=h;obtain⟨u,c,rfl,ru,rc⟩:=rv.two;cases rc;exact qt I ru ty e fun tk=>⟨.bl b,H,I.tok tk,rfl,q⟩
theorem rS:eU X (.builtin "isinstance") (fun xs H Q=>∃x C t b,xs=[x,.ref C]/\ji X.K H x t/\fG X.K t (.ref C)=some b/\Q (.bl b) H):=by
 intro pins s σ H xs us Q I rv h;obtain⟨x,T,t,b,rfl,ty,e,q⟩:=h;obtain⟨u,c,rfl,ru,rc⟩:=rv.two;cases rc;exact qt I ru ty e fun tk=>⟨.bl b,H,I.tok tk,rfl,q⟩
theorem yY{prog:Program}{w:World}{A:Around}{its:List Value}{bs:List Bool}(r:bJ (bs.map V.bl) its):TruthOf prog w A (fun i v=>its.toArray[i]? =some v) (fun i=>bs.getD i false):=by
 intro i v s Q E hP h;have hi:its[i]? =some v:=by simpa using hP
 have e:v=.bool (bs.getD i false):=by
  have hl:=r.length;rw[ai]at hl;have hlt:i<bs.length:=by
   have :=(aR.mp hi).1
   omega
  obtain⟨u,hu,ru⟩:=bJ.get (i:=i) (x:=.bl bs[i]) r (by simp[hlt]);rw[hi]at hu;cases hu;have ru':v=so bs[i]:=ru;rw[ru',av,ag hlt];rfl
 rw[e];exact cE h
theorem range_all(bs:List Bool):(aA bs.length).all (fun i=>bs.getD i false)=bs.all id:=by
 have :bs=(aA bs.length).map fun i=>bs.getD i false:=by
  apply cX
  ·simp
  ·intro i h1 h2
   simp[h1]
 rw[ki];simp only[dY,cC];constructor
 ·intro h x hx
  obtain⟨i,hi,rfl⟩:=aJ.mp hx;have :=h i hi;simpa[hi]using this
 ·intro h i hi
  have :=h bs[i] (bL hi)
  simpa[hi]using this
theorem AW(hc:X.calm=true):eU X (.builtin "all") (fun xs H Q=>∃(p:Addr)(bs:List Bool),xs=[.ref p]/\SqL X.K H p (bs.map V.bl)/\Q (.bl (bs.all id)) H):=by
 intro pins s σ H xs us Q I rv h;obtain⟨p,bs,rfl,hq,q⟩:=h;obtain⟨u,rfl,ru⟩:=rv.one;cases ru;obtain⟨its,r,pl,hz⟩:=I.list hq;have hlen:its.toArray.size=bs.length:=by rw[aq,<-r.length,ai]
 have hne:p≠s.heap.objs.size:=by obtain⟨o,n,ho,_⟩:=id pl;exact aH (ay ho)
 refine call_all_walk (jU pl.isList ⟨s.heap.objs.size,_,_,_,_,_,fun i=>bs.getD i false,rfl,Walks.list (A:=X.A.in1) (I.ok.hd hc) _ p hne its.toArray,⟨⟨_,aE _ rfl,rfl,rfl⟩,pl.isList.at fun o e=>af _ e⟩,yY r,fun h' tk k=>?_⟩);rw[hlen,range_all];exact⟨.bl (bs.all id),H,I.kept (t':=tk) fun b o e=>k b o (by simpa using aH (ay e)) (af _ e),rfl,q⟩
noncomputable def vT(x:Str)(lo hi:Option Int):Str:=⟨((x.cps.toList.drop (HT.sIx x.length 0 lo)).take (HT.sIx x.length x.length hi-HT.sIx x.length 0 lo)).toArray⟩
theorem sIx_eq(n d:Nat)(i:Int):(max 0 (min (if i<0 then i+(n:Int)else i) (n:Int)))=((HT.sIx n d (some i):Nat):Int):=by
 have :=HT.clip_eq i n d
 rw[<-this];split <;>omega
theorem strIx(lo hi:Option Int)(n:Nat):nh lo hi 1 n=(aA (HT.sIx n n hi-HT.sIx n 0 lo)).map fun k=>HT.sIx n 0 lo+k:=by
 have key:∀a b:Nat,yy (a:Int) (b:Int) 1=(aA (b-a)).map fun k=>a+k:=by
  intro a b;unfold yy;have e:(if(1:Int)>0 then(if(a:Int)<b then((b:Int)-a+1-1)/1 else 0)else(if(a:Int)>b then((a:Int)-b-1-1)/(-1)else 0)).toNat=b-a:=by
   rw[if_pos (by decide)];split <;>omega
  simp only[e];apply lU;intro k hk;omega
 have e1:∀(o:Option Int)(d:Nat),(match o with |none=>(d:Int) |some i=>max 0 (min (if i<0 then i+(n:Int)else i) (n:Int)))=((HT.sIx n d o:Nat):Int):=by
  intro o d;cases o with
  |none=>rfl
  |some i=>exact sIx_eq n d i
 have a1:=e1 lo 0;have a2:=e1 hi n;unfold nh;simp only[show(1:Int)>0 by decide,if_true];have b1:((0:Nat):Int)=0:=rfl;rw[b1]at a1;rw[<-key,<-a1,<-a2];cases lo<;>cases hi<;>rfl
theorem pickN(xs:Array Nat)(i:Nat):∀k,((aA k).map fun m=>i+m).filterMap (xs[·]?)=(xs.toList.drop i).take k:=by
 intro k
 induction k with
 |zero=>simp
 |succ k ih=>
  rw[kc,bj,List.filterMap_append,ih];by_cases h:i+k<xs.size
  ·rw[List.take_succ,iC]
   simp[h]
  ·rw[List.take_succ,iC]
   simp[h]
theorem xy(x:Str)(lo hi:Option Int):Txt.slice x lo hi=vT x lo hi:=by
 have hl:HT.sIx x.length 0 lo<=x.length:=HT.zw _ _ (aX _) lo;have hu:HT.sIx x.length x.length hi<=x.length:=HT.zw _ _ (aw _) hi;unfold Txt.slice vT;rw[strIx];split
 ·rename_i h
  rw[aK,beq_iff_eq,beq_iff_eq,ai,cb]at h;have a:HT.sIx x.length 0 lo=0:=by omega
  have b:HT.sIx x.length x.length hi=x.length:=by omega
  rw[a,b];have :x.cps.toList.length=x.length:=by simp[Str.length]
  rw[sH,yE,<-this,eV]
 ·rw[pickN]
theorem mS{v:Value}{o:Option Int}(p:IsPart v o):∃l:Option (Int×Tok),v=partValue l/\o=l.map (·.1):=by
 cases p with
 |none=>exact⟨none,rfl,rfl⟩
 |int i t=>exact⟨some (i,t),rfl,rfl⟩
noncomputable def rSlS:V->Option Int->Option Int->Hp->VK->Prop:=fun x lo hi H Q=>∃z,x=.str z/\z.length<=sizeLine/\Q (.str (vT z lo hi)) H
theorem sl_str:SlR X rSlS:=by
 intro pins s σ H x v vl vu lo hi sl Q I rx hs pl pu h;obtain⟨z,rfl,hz,q⟩:=h;obtain⟨t,rfl⟩:=rx;obtain⟨l,rfl,rfl⟩:=mS pl;obtain⟨u,rfl,rfl⟩:=mS pu;refine⟨"str",_,F.slot_str_getitem.lookup,typeIs_str _ _ _,?_⟩;refine wpAny_getItem_str_slice (l:=l) (u:=u) (st:=none) hs rfl (post_val_or_str ⟨aQ (Txt.slice_le z _ _) hz,fun t' k=>?_⟩);have e:=xy z (l.map (·.1)) (u.map (·.1));unfold Txt.slice at e;refine⟨.str (vT z (l.map (·.1)) (u.map (·.1))),H,I.tok k,⟨t',?_⟩,q⟩;rw[<-e];rfl
noncomputable def Its(x:Str):It:=⟨fun i _=>i<x.length,fun i H v H'=>H'=H/\∃c,x.cps[i]? =some c/\v=.str ⟨#[c]⟩,fun i _=>x.length<=i⟩
end
theorem qc{prog:Program}{w:World}(it:Addr)(x:Str)(t:Tok)(A:Around)(hA:A.handled=none):
  Walks prog w A it [it] [it] x.cps.size (SignAt x) (fun i h=>h.IsStrIter it (fi x) x t i):=by
 unfold fi;cases ha:x.cps.all (·<128)
 ·simp only[bh,if_false];exact Walks.strWide hA it x t
 ·simp only[if_true];exact Walks.strAscii hA it x t
theorem yX{P:Program}{w:World}{K:aa}{tg:Expr}(x:Str)(it:Addr)(t:Tok):Turn P w K tg (Its x) [it] it (fun i h=>h.IsStrIter it (fi x) x t i) where
 mem:=by simp
 obj:=fun i h st b hb=>by
  have e:b=it:=by simpa using hb
  subst e;obtain⟨o,e,c,d⟩:=st;exact⟨o,e,fun v z=>by rw[d]at z;cases z⟩
 keep:=fun i h h' st k=>let⟨o,ho,r⟩:=st;⟨o,k it (by simp) o ho,r⟩
 item:=by
  intro X hP hw hK hc i pins s σ H E I hf st hg;subst hP hw hK;obtain⟨f0,f1,f2,f3,f4,f5⟩:=hf it (by simp);have W:=qc (prog:=X.prog) (w:=X.w) it x t X.A (I.ok.hd hc);refine W.item i s _ _ hg st fun v h' tk hv st' kk=>?_;obtain⟨c,u,hc',rfl⟩:=hv;have I1:Inv X pins σ H {s with heap:=h',toks:=tk}:=I.turned (fun b o hb e=>kk b o (by simpa using hb) e) f0 f1 f3 f4 f5;obtain⟨o,e,cl,d⟩:=id st';refine⟨_,rfl,wV (s:={s with heap:=h',toks:=tk}) (n:=fi x) e cl d ?_ ⟨.str ⟨#[c]⟩,H,I1,⟨u,rfl⟩,⟨rfl,c,hc',rfl⟩,st',fun b hb=>(hf b hb).1⟩⟩;unfold fi;split <;>decide
 done:=by
  intro X hP hw hK hc i pins s σ H E I hf st hg;subst hP hw hK;obtain⟨f0,f1,f2,f3,f4,f5⟩:=hf it (by simp);have hg':x.length<=i:=hg;by_cases hi:i=x.cps.size
  ·subst hi
   have W:=qc (prog:=X.prog) (w:=X.w) it x t X.A (I.ok.hd hc);exact W.done s _ _ st fun h' tk kk=>⟨rfl,I.turned (fun b o hb e=>kk b o (by simpa using hb) e) f0 f1 f3 f4 f5⟩
  ·have hn:x.cps[i]? =none:=by
    rw[Array.getElem?_eq_none_iff];exact hg'
   have st2:s.heap.IsStrIter it (fi x) x t i:=st;unfold fi at st2;cases ha:x.cps.all (·<128)
   ·rw[ha]at st2
    exact wpAny_pyNext_wide_end (I.ok.hd hc) st2 hn fun h' eb=>⟨rfl,I.turned (t':=s.toks) (fun b o hb e=>eb b o hb e) f0 f1 f3 f4 f5⟩
   ·rw[ha]at st2
    exact wpAny_pyNext_ascii_end (I.ok.hd hc) st2 hn fun h' eb=>⟨rfl,I.turned (t':=s.toks) (fun b o hb e=>eb b o hb e) f0 f1 f3 f4 f5⟩
 self:=fun A i s Q E st h=>by
  have st2:s.heap.IsStrIter it (fi x) x t i:=st;unfold fi at st2;cases ha:x.cps.all (·<128)
  ·rw[ha]at st2;exact wpAny_pyIter_striter_wide st2 h
  ·rw[ha]at st2;exact wpAny_pyIter_striter_ascii st2 h
noncomputable def Ite(K:aa)(a:Addr):It:=
 ⟨fun i H=>∃xs x,SqL K H a xs/\xs[i]? =some x,fun i H v H'=>∃p x,H p=none/\H'=upd H p (.tup [.int i,x])/\v=.ref p/\∀xs,SqL K H a xs->xs[i]? =some x,fun i H=>∃xs,SqL K H a xs/\xs.length<=i⟩
section
variable {X:Cx}{es:List Expr}{kk:Nat}{pp:Pos}
noncomputable def iEnum(K:aa)(tl:TE):TI:=fun σ H R=>tl σ H fun x H1=>∃a,x=.ref a/\(∃xs,SqL K H1 a xs)/\R (Ite K a) H1
end
inductive D where
 |non|bl (b:Bool) |int (i:Int) |str (x:Str) |tup (ds:List D) |lst (ds:List D)
 deriving Inhabited
mutual
noncomputable def Rep(K:aa)(H:Hp):D->V->Prop
 |.non,v=>v=.non
 |.bl b,v=>v=.bl b
 |.int i,v=>v=.int i
 |.str x,v=>v=.str x
 |.tup ds,v=>∃a xs,v=.ref a/\SqT K H a xs/\gj K H ds xs
 |.lst ds,v=>∃a xs,v=.ref a/\SqL K H a xs/\gj K H ds xs
noncomputable def gj(K:aa)(H:Hp):List D->List V->Prop
 | [],xs=>xs=[]
 |d::ds,xs=>∃x r,xs=x::r/\Rep K H d x/\gj K H ds r
end
theorem gj.length{K:aa}{H:Hp}:∀{ds:List D}{xs:List V},gj K H ds xs->xs.length=ds.length
 | [],_,h=>by rw[show _=[]from h];rfl
 |d::ds,_,h=>by
  obtain⟨x,r,rfl,_,h2⟩:=h;rw[aS,aS,gj.length h2]
theorem gj.at{K:aa}{H:Hp}:∀{ds:List D}{xs:List V}{i:Nat}{d:D},gj K H ds xs->ds[i]? =some d->∃x,xs[i]? =some x/\Rep K H d x
 | [],_,i,d,h,e=>by simp at e
 |d::ds,_,0,d',h,e=>by
  obtain⟨y,r,rfl,h1,h2⟩:=h;simp at e;subst e;exact⟨y,rfl,h1⟩
 |d::ds,_,i+1,d',h,e=>by
  obtain⟨y,r,rfl,h1,h2⟩:=h;obtain⟨x,e',h'⟩:=gj.at (i:=i) h2 (by simpa using e);exact⟨x,by simpa using e',h'⟩
mutual
noncomputable def eqD:D->D->Bool
 |.non,.non=>true
 |.bl a,.bl b=>a==b
 |.bl a,.int b=>(if a then 1 else 0)==b
 |.int a,.bl b=>a==(if b then 1 else 0)
 |.int a,.int b=>a==b
 |.str a,.str b=>a==b
 |.tup a,.tup b=>iW a b
 |.lst a,.lst b=>iW a b
 |_,_=>false
noncomputable def iW:List D->List D->Bool
 | [],[]=>true
 |a::as,b::bs=>eqD a b&&iW as bs
 |_,_=>false
end
mutual
noncomputable def hgt:D->Nat
 |.tup ds=>gD ds+1
 |.lst ds=>gD ds+1
 |_=>0
noncomputable def gD:List D->Nat
 | []=>0
 |d::ds=>max (hgt d) (gD ds)
end
theorem mf:∀{ds:List D}{i:Nat}{d:D},ds[i]? =some d->hgt d<=gD ds
 | [],i,d,e=>by simp at e
 |d::ds,0,d',e=>by simp at e;subst e;simp only[gD];omega
 |d::ds,i+1,d',e=>by
  have :=mf (i:=i) (ds:=ds) (d:=d') (by simpa using e)
  simp only[gD];omega
theorem jA:∀(as bs:List D)(e:Nat->Bool),as.length=bs.length->(∀(i:Nat) a b,as[i]? =some a->bs[i]? =some b->e i=eqD a b)->(aA as.length).all e=iW as bs
 | [],[],e,_,_=>rfl
 |a::as,b::bs,e,hl,h=>by
  rw[aS,jX,mD,xo];have h0:=h 0 a b rfl rfl;have ih:=jA as bs (fun i=>e (i+1)) (by simpa using hl) fun i x y hx hy=>h (i+1) x y (by simpa using hx) (by simpa using hy);rw[h0];show(eqD a b&&(aA as.length).all (fun i=>e (i+1)))=_;rw[ih,iW]
 | [],b::bs,e,hl,_=>by simp at hl
 |a::as,[],e,hl,_=>by simp at hl
theorem jz:∀(as bs:List D),as.length≠bs.length->iW as bs=false
 | [],[],h=>absurd rfl h
 |a::as,b::bs,h=>by
  rw[iW,jz as bs (by simpa using h),iG]
 | [],b::bs,_=>rfl
 |a::as,[],_=>rfl
mutual
theorem oR:∀d:D,eqD d d=true
 |.non=>rfl
 |.bl b=>by simp[eqD]
 |.int i=>by simp[eqD]
 |.str x=>by simp[eqD]
 |.tup ds=>by rw[eqD];exact mo ds
 |.lst ds=>by rw[eqD];exact mo ds
theorem mo:∀ds:List D,iW ds ds=true
 | []=>rfl
 |d::ds=>by rw[iW,oR d,mo ds];rfl
end
section
variable {X:Cx}{pins:List (Addr×Obj)}{σ:St}{H:Hp}{s:Shared}
mutual
theorem Inv.rb(I:Inv X pins σ H s):∀{d d':D}{v:V},Rep X.K H d v->Rep X.K H d' v->d=d'
 |.non,d',v,h,h'=>by
  cases(show v=V.non from h);cases d'<;>first | (obtain⟨_,_,z,_⟩:=h';cases z;done) |rfl| (cases h';done)
 |.bl b,d',v,h,h'=>by
  cases(show v=V.bl b from h);cases d'<;>first | (obtain⟨_,_,z,_⟩:=h';cases z;done) | (cases h';rfl) | (cases h';done)
 |.int b,d',v,h,h'=>by
  cases(show v=V.int b from h);cases d'<;>first | (obtain⟨_,_,z,_⟩:=h';cases z;done) | (cases h';rfl) | (cases h';done)
 |.str b,d',v,h,h'=>by
  cases(show v=V.str b from h);cases d'<;>first | (obtain⟨_,_,z,_⟩:=h';cases z;done) | (cases h';rfl) | (cases h';done)
 |.tup ds,d',v,h,h'=>by
  obtain⟨a,xs,rfl,h1,h2⟩:=h;cases d' with
  |tup ds'=>
   obtain⟨b,ys,e,h1',h2'⟩:=h';cases e;have :=I.qa h1 h1';subst this;rw[Inv.oi I h2 h2']
  |lst ds'=>
   obtain⟨b,ys,e,h1',h2'⟩:=h';cases e;obtain⟨its,_,⟨o,e1,c1,_⟩,_⟩:=I.tuple h1;obtain⟨its',_,⟨o',n,e2,c2,_⟩,_⟩:=I.list h1';rw[e1]at e2;cases e2;rw[c1]at c2;exact absurd c2 (by decide+kernel)
  |_=>cases h'
 |.lst ds,d',v,h,h'=>by
  obtain⟨a,xs,rfl,h1,h2⟩:=h;cases d' with
  |lst ds'=>
   obtain⟨b,ys,e,h1',h2'⟩:=h';cases e;have :=I.t4 h1 h1';subst this;rw[Inv.oi I h2 h2']
  |tup ds'=>
   obtain⟨b,ys,e,h1',h2'⟩:=h';cases e;obtain⟨its,_,⟨o,n,e1,c1,_⟩,_⟩:=I.list h1;obtain⟨its',_,⟨o',e2,c2,_⟩,_⟩:=I.tuple h1';rw[e1]at e2;cases e2;rw[c1]at c2;exact absurd c2 (by decide+kernel)
  |_=>cases h'
theorem Inv.oi(I:Inv X pins σ H s):∀{ds ds':List D}{xs:List V},gj X.K H ds xs->gj X.K H ds' xs->ds=ds'
 | [],[],_,_,_=>rfl
 | [],d::ds,xs,h,h'=>by
  obtain⟨x,r,e,_⟩:=h';rw[show xs=[]from h]at e;cases e
 |d::ds,[],xs,h,h'=>by
  obtain⟨x,r,e,_⟩:=h;rw[show xs=[]from h']at e;cases e
 |d::ds,d'::ds',xs,h,h'=>by
  obtain⟨x,r,rfl,h1,h2⟩:=h;obtain⟨y,r',e,h1',h2'⟩:=h';cases e;rw[Inv.rb I h1 h1',Inv.oi I h2 h2']
end
open PySem.SeqAt
theorem Inv.rcTup(I:Inv X pins σ H s)(A:Around){ds ds':List D}{a b:Addr}{xs ys:List V}(hit:∀(i:Nat)(d d':D)(x y:V)(u u':Value),ds[i]? =some d->ds'[i]? =some d'->Rep X.K H d x->Rep X.K H d' y->RelV x u->RelV y u'->EqAt A.in1 s u u' (eqD d d'))(h1:SqT X.K H a xs)(h2:gj X.K H ds xs)(h1':SqT X.K H b ys)(h2':gj X.K H ds' ys)(hu:A.units<cLine):RcAt A s (.ref a) (.ref b) (iW ds ds'):=by
  obtain⟨its,r,p,_⟩:=I.tuple h1;obtain⟨its',r',p',_⟩:=I.tuple h1';have l1:=h2.length;have l2:=h2'.length;have l3:=r.length;have l4:=r'.length;have key:=RcAt.tuples (e:=fun j=>match ds[j]?,ds'[j]? with |some d,some d'=>eqD d d'|_,_=>false) p p' (A:=A) (by omega) (fun j g1 g2=>by
   have g1':j<its.length:=by simpa using g1
   have g2':j<its'.length:=by simpa using g2
   have e1:ds[j]? =some ds[j]:=ag (by omega);have e2:ds'[j]? =some ds'[j]:=ag (by omega);show EqAt A.in1 s _ _ (match ds[j]?,ds'[j]? with |some d,some d'=>eqD d d'|_,_=>false);rw[e1,e2];obtain⟨x,hx,rx⟩:=h2.at e1;obtain⟨y,hy,ry⟩:=h2'.at e2;obtain⟨u,hu1,ru⟩:=r.get hx;obtain⟨u',hu2,ru'⟩:=r'.get hy;have q1:its.toArray[j]=u:=by have :its[j]? =some its[j]:=ag g1';rw[this]at hu1;simpa using hu1
   have q2:its'.toArray[j]=u':=by have :its'[j]? =some its'[j]:=ag g2';rw[this]at hu2;simpa using hu2
   rw[q1,q2];exact hit j _ _ x y u u' e1 e2 rx ry ru ru')
  have hs:its.toArray.size=ds.length:=by simp;omega
  have hs':its'.toArray.size=ds'.length:=by simp;omega
  rw[hs,hs']at key;by_cases hl:ds.length=ds'.length
  ·have e:((aA (min ds.length ds'.length)).all (fun j=>match ds[j]?,ds'[j]? with |some d,some d'=>eqD d d'|_,_=>false)&&ds.length==ds'.length)=iW ds ds':=by
    rw[<-hl,pj,beq_self_eq_true,Bool.and_true];refine jA ds ds' _ hl fun i x y hx hy=>?_;simp only[hx,hy]
   rw[e]at key;exact key
  ·have e:((aA (min ds.length ds'.length)).all (fun j=>match ds[j]?,ds'[j]? with |some d,some d'=>eqD d d'|_,_=>false)&&ds.length==ds'.length)=iW ds ds':=by
    rw[jz ds ds' hl,beq_eq_false_iff_ne.mpr hl,iG]
   rw[e]at key;exact key
theorem Inv.rcLst(I:Inv X pins σ H s)(A:Around){ds ds':List D}{a b:Addr}{xs ys:List V}(hit:∀(i:Nat)(d d':D)(x y:V)(u u':Value),ds[i]? =some d->ds'[i]? =some d'->Rep X.K H d x->Rep X.K H d' y->RelV x u->RelV y u'->EqAt A.in1 s u u' (eqD d d'))(h1:SqL X.K H a xs)(h2:gj X.K H ds xs)(h1':SqL X.K H b ys)(h2':gj X.K H ds' ys)(hu:A.units<cLine):RcAt A s (.ref a) (.ref b) (iW ds ds'):=by
  obtain⟨its,r,p,_⟩:=I.list h1;obtain⟨its',r',p',_⟩:=I.list h1';have l1:=h2.length;have l2:=h2'.length;have l3:=r.length;have l4:=r'.length;by_cases hl:ds.length=ds'.length
  ·have key:=RcAt.lists (e:=fun j=>match ds[j]?,ds'[j]? with |some d,some d'=>eqD d d'|_,_=>false) p.isList p'.isList (A:=A) (by simp;omega) (by omega) (fun j g1 g2=>by
    have g1':j<its.length:=by simpa using g1
    have g2':j<its'.length:=by simpa using g2
    have e1:ds[j]? =some ds[j]:=ag (by omega);have e2:ds'[j]? =some ds'[j]:=ag (by omega);show EqAt A.in1 s _ _ (match ds[j]?,ds'[j]? with |some d,some d'=>eqD d d'|_,_=>false);rw[e1,e2];obtain⟨x,hx,rx⟩:=h2.at e1;obtain⟨y,hy,ry⟩:=h2'.at e2;obtain⟨u,hu1,ru⟩:=r.get hx;obtain⟨u',hu2,ru'⟩:=r'.get hy;have q1:its.toArray[j]=u:=by have :its[j]? =some its[j]:=ag g1';rw[this]at hu1;simpa using hu1
    have q2:its'.toArray[j]=u':=by have :its'[j]? =some its'[j]:=ag g2';rw[this]at hu2;simpa using hu2
    rw[q1,q2];exact hit j _ _ x y u u' e1 e2 rx ry ru ru')
   have hs:its.toArray.size=ds.length:=by simp;omega
   rw[hs,jA ds ds' _ hl fun i x y hx hy=>by simp only[hx,hy]]at key;exact key
  ·have key:=RcAt.lists_lengths p.isList p'.isList (A:=A) (by simp;omega) (by omega)
   rw[jz ds ds' hl];exact key
theorem Inv.shp(I:Inv X pins σ H s){d:D}{v:V}{u:Value}(h:Rep X.K H d v)(r:RelV v u):(d=.non/\v=.non/\u=.none)\/(∃x,d=.bl x/\v=.bl x/\u=.bool x)\/(∃x t,d=.int x/\v=.int x/\u=.int x t)\/(∃x t,d=.str x/\v=.str x/\u=.str x t)\/(∃ds a xs its,d=.tup ds/\v=.ref a/\u=.ref a/\SqT X.K H a xs/\gj X.K H ds xs/\IsTup s.heap a its)\/∃ds a xs its,d=.lst ds/\v=.ref a/\u=.ref a/\SqL X.K H a xs/\gj X.K H ds xs/\s.heap.IsList a its:=by
 cases d with
 |non=>cases(show v=_ from h);cases r;exact .inl ⟨rfl,rfl,rfl⟩
 |bl x=>cases(show v=_ from h);cases r;exact .inr (.inl ⟨x,rfl,rfl,rfl⟩)
 |int x=>cases(show v=_ from h);obtain⟨t,rfl⟩:=r;exact .inr (.inr (.inl ⟨x,t,rfl,rfl,rfl⟩))
 |str x=>cases(show v=_ from h);obtain⟨t,rfl⟩:=r;exact .inr (.inr (.inr (.inl ⟨x,t,rfl,rfl,rfl⟩)))
 |tup ds=>obtain⟨a,xs,rfl,h1,h2⟩:=id h;cases r;obtain⟨its,_,p,_⟩:=I.tuple h1;exact .inr (.inr (.inr (.inr (.inl ⟨ds,a,xs,_,rfl,rfl,rfl,h1,h2,p⟩))))
 |lst ds=>obtain⟨a,xs,rfl,h1,h2⟩:=id h;cases r;obtain⟨its,_,p,_⟩:=I.list h1;exact .inr (.inr (.inr (.inr (.inr ⟨ds,a,xs,_,rfl,rfl,rfl,h1,h2,p.isList⟩))))
theorem Inv.eqAt1(I:Inv X pins σ H s){n:Nat}(A:Around)(hit:∀(m:Nat)(ds ds':List D)(i:Nat)(d d':D)(x y:V)(u u':Value),n=m+1->gD ds<=m->ds[i]? =some d->ds'[i]? =some d'->Rep X.K H d x->Rep X.K H d' y->RelV x u->RelV y u'->EqAt A.in1 s u u' (eqD d d')):
  ∀(d d':D)(v v':V)(u u':Value),Rep X.K H d v->Rep X.K H d' v'->RelV v u->RelV v' u'->hgt d<=n->A.units+n+1<cLine->EqAt A s u u' (eqD d d'):=by
 intro d d' v v' u u' h h' r r' hn hu;obtain⟨rfl,rfl,rfl⟩ |⟨_,rfl,rfl,rfl⟩ |⟨_,t,rfl,rfl,rfl⟩ |⟨_,t,rfl,rfl,rfl⟩ |⟨ds,a,xs,its,rfl,rfl,rfl,h1,h2,p⟩ |⟨ds,a,xs,its,rfl,rfl,rfl,h1,h2,p⟩:=I.shp h r<;>obtain⟨rfl,rfl,rfl⟩ |⟨_,rfl,rfl,rfl⟩ |⟨_,t',rfl,rfl,rfl⟩ |⟨_,t',rfl,rfl,rfl⟩ |⟨ds',b,ys,its',rfl,rfl,rfl,h1',h2',p'⟩ |⟨ds',b,ys,its',rfl,rfl,rfl,h1',h2',p'⟩:=I.shp h' r'
 ·exact eB r r' rfl rfl
 ·exact eB r r' rfl rfl
 ·exact eB r r' rfl rfl
 ·exact eB r r' rfl rfl
 ·exact EqAt.none_tuple p' (by omega)
 ·exact EqAt.none_list p' (by omega)
 ·exact eB r r' rfl rfl
 ·exact eB r r' rfl rfl
 ·exact eB r r' rfl rfl
 ·exact eB r r' rfl rfl
 ·exact EqAt.bool_tuple _ p' (by omega)
 ·exact EqAt.bool_list _ p' (by omega)
 ·exact eB r r' rfl rfl
 ·exact eB r r' rfl rfl
 ·exact eB r r' rfl rfl
 ·exact eB r r' rfl rfl
 ·exact EqAt.int_tuple _ t p' (by omega)
 ·exact EqAt.int_list _ t p' (by omega)
 ·exact eB r r' rfl rfl
 ·exact eB r r' rfl rfl
 ·exact eB r r' rfl rfl
 ·exact eB r r' rfl rfl
 ·exact EqAt.str_tuple _ t p' (by omega)
 ·exact EqAt.str_list _ t p' (by omega)
 ·exact EqAt.tuple_none p (by omega)
 ·exact EqAt.tuple_bool _ p (by omega)
 ·exact EqAt.tuple_int _ t' p (by omega)
 ·exact EqAt.tuple_str _ t' p (by omega)
 ·rw[hgt]at hn
  by_cases z:a=b
  ·subst z
   have e:=I.rb h h';rw[<-e,oR];exact EqAt.same _
  ·rw[eqD]
   exact EqAt.of_refs z (Inv.rcTup I A (fun i d d' x y u u' e1 e2 rx ry ru ru'=>hit (n-1) ds ds' i d d' x y u u' (by omega) (by omega) e1 e2 rx ry ru ru') h1 h2 h1' h2' (by omega))
 ·exact EqAt.tuple_list p p' (by omega)
 ·exact EqAt.list_none p (by omega)
 ·exact EqAt.list_bool _ p (by omega)
 ·exact EqAt.list_int _ t' p (by omega)
 ·exact EqAt.list_str _ t' p (by omega)
 ·exact EqAt.list_tuple p p' (by omega)
 ·rw[hgt]at hn
  by_cases z:a=b
  ·subst z
   have e:=I.rb h h';rw[<-e,oR];exact EqAt.same _
  ·rw[eqD]
   exact EqAt.of_refs z (Inv.rcLst I A (fun i d d' x y u u' e1 e2 rx ry ru ru'=>hit (n-1) ds ds' i d d' x y u u' (by omega) (by omega) e1 e2 rx ry ru ru') h1 h2 h1' h2' (by omega))
theorem Inv.wY(I:Inv X pins σ H s):∀(n:Nat)(A:Around)(d d':D)(v v':V)(u u':Value),Rep X.K H d v->Rep X.K H d' v'->RelV v u->RelV v' u'->hgt d<=n->A.units+n+1<cLine->EqAt A s u u' (eqD d d'):=by
 intro n
 induction n with
 |zero=>exact fun A d d' v v' u u' h h' r r' hn hu=>Inv.eqAt1 I A (fun m ds ds' i d d' x y u u' hm _ _ _ _ _ _ _=>absurd hm (by omega)) d d' v v' u u' h h' r r' hn hu
 |succ n ih=>
  exact fun A d d' v v' u u' h h' r r' hn hu=>Inv.eqAt1 I A (fun m ds ds' i d d' x y u u' hm hd e1 e2 rx ry ru ru'=>ih A.in1 d d' x y u u' rx ry ru ru' (by have :=mf e1;omega) (by show A.units+1+n+1<cLine;omega)) d d' v v' u u' h h' r r' hn hu
end
end L2
namespace L2
open PySem PySem.Spec PyProof.Rows PySem.SeqAt
section
variable {X:Cx}{pins:List (Addr×Obj)}{σ:St}{H:Hp}{s:Shared}
theorem Inv.neTup(I:Inv X pins σ H s)(A:Around){ds ds':List D}{a b:Addr}{xs ys:List V}(hit:∀(i:Nat)(d d':D)(x y:V)(u u':Value),ds[i]? =some d->ds'[i]? =some d'->Rep X.K H d x->Rep X.K H d' y->RelV x u->RelV y u'->EqAt A.in1 s u u' (eqD d d'))
  (h1:SqT X.K H a xs)(h2:gj X.K H ds xs)(h1':SqT X.K H b ys)(h2':gj X.K H ds' ys)(hu:A.units<cLine):RcNeAt A s (.ref a) (.ref b) (!iW ds ds'):=by
 obtain⟨its,r,p,_⟩:=I.tuple h1;obtain⟨its',r',p',_⟩:=I.tuple h1';have l1:=h2.length;have l2:=h2'.length;have l3:=r.length;have l4:=r'.length;have key:=RcNeAt.tuples (e:=fun j=>match ds[j]?,ds'[j]? with |some d,some d'=>eqD d d'|_,_=>false) p p' (A:=A) hu (fun j g1 g2=>by
  have g1':j<its.length:=by simpa using g1
  have g2':j<its'.length:=by simpa using g2
  have e1:ds[j]? =some ds[j]:=ag (by omega);have e2:ds'[j]? =some ds'[j]:=ag (by omega);show EqAt A.in1 s _ _ (match ds[j]?,ds'[j]? with |some d,some d'=>eqD d d'|_,_=>false);rw[e1,e2];obtain⟨x,hx,rx⟩:=h2.at e1;obtain⟨y,hy,ry⟩:=h2'.at e2;obtain⟨u,hu1,ru⟩:=r.get hx;obtain⟨u',hu2,ru'⟩:=r'.get hy;have q1:its.toArray[j]=u:=by have :its[j]? =some its[j]:=ag g1';rw[this]at hu1;simpa using hu1
  have q2:its'.toArray[j]=u':=by have :its'[j]? =some its'[j]:=ag g2';rw[this]at hu2;simpa using hu2
  rw[q1,q2];exact hit j _ _ x y u u' e1 e2 rx ry ru ru')
 have hs:its.toArray.size=ds.length:=by simp;omega
 have hs':its'.toArray.size=ds'.length:=by simp;omega
 rw[hs,hs']at key;have e:((aA (min ds.length ds'.length)).all (fun j=>match ds[j]?,ds'[j]? with |some d,some d'=>eqD d d'|_,_=>false)&&ds.length==ds'.length)=iW ds ds':=by
  by_cases hl:ds.length=ds'.length
  ·rw[<-hl,pj,beq_self_eq_true,Bool.and_true]
   refine jA ds ds' _ hl fun i x y hx hy=>?_;simp only[hx,hy]
  ·rw[jz ds ds' hl,beq_eq_false_iff_ne.mpr hl,iG]
 rw[e]at key;exact key
theorem Inv.neLst(I:Inv X pins σ H s)(A:Around){ds ds':List D}{a b:Addr}{xs ys:List V}(hit:∀(i:Nat)(d d':D)(x y:V)(u u':Value),ds[i]? =some d->ds'[i]? =some d'->Rep X.K H d x->Rep X.K H d' y->RelV x u->RelV y u'->EqAt A.in1 s u u' (eqD d d'))
  (h1:SqL X.K H a xs)(h2:gj X.K H ds xs)(h1':SqL X.K H b ys)(h2':gj X.K H ds' ys)(hu:A.units<cLine):RcNeAt A s (.ref a) (.ref b) (!iW ds ds'):=by
 obtain⟨its,r,p,_⟩:=I.list h1;obtain⟨its',r',p',_⟩:=I.list h1';have l1:=h2.length;have l2:=h2'.length;have l3:=r.length;have l4:=r'.length;by_cases hl:ds.length=ds'.length
 ·have key:=RcNeAt.lists (e:=fun j=>match ds[j]?,ds'[j]? with |some d,some d'=>eqD d d'|_,_=>false) p.isList p'.isList (A:=A) (by simp;omega) hu (fun j g1 g2=>by
   have g1':j<its.length:=by simpa using g1
   have g2':j<its'.length:=by simpa using g2
   have e1:ds[j]? =some ds[j]:=ag (by omega);have e2:ds'[j]? =some ds'[j]:=ag (by omega);show EqAt A.in1 s _ _ (match ds[j]?,ds'[j]? with |some d,some d'=>eqD d d'|_,_=>false);rw[e1,e2];obtain⟨x,hx,rx⟩:=h2.at e1;obtain⟨y,hy,ry⟩:=h2'.at e2;obtain⟨u,hu1,ru⟩:=r.get hx;obtain⟨u',hu2,ru'⟩:=r'.get hy;have q1:its.toArray[j]=u:=by have :its[j]? =some its[j]:=ag g1';rw[this]at hu1;simpa using hu1
   have q2:its'.toArray[j]=u':=by have :its'[j]? =some its'[j]:=ag g2';rw[this]at hu2;simpa using hu2
   rw[q1,q2];exact hit j _ _ x y u u' e1 e2 rx ry ru ru')
  have hs:its.toArray.size=ds.length:=by simp;omega
  rw[hs,jA ds ds' _ hl fun i x y hx hy=>by simp only[hx,hy]]at key;exact key
 ·have key:=RcNeAt.lists_lengths p.isList p'.isList (A:=A) (by simp;omega) hu
  rw[jz ds ds' hl];exact key
theorem Inv.rcD(I:Inv X pins σ H s)(A:Around)(d d':D)(v v':V)(u u':Value)(h:Rep X.K H d v)(h':Rep X.K H d' v')(r:RelV v u)(r':RelV v' u')(hu:A.units+hgt d+1<cLine):RcAt A s u u' (eqD d d'):=by
 obtain⟨rfl,rfl,rfl⟩ |⟨_,rfl,rfl,rfl⟩ |⟨_,t,rfl,rfl,rfl⟩ |⟨_,t,rfl,rfl,rfl⟩ |⟨ds,a,xs,its,rfl,rfl,rfl,h1,h2,p⟩ |⟨ds,a,xs,its,rfl,rfl,rfl,h1,h2,p⟩:=I.shp h r<;>obtain⟨rfl,rfl,rfl⟩ |⟨_,rfl,rfl,rfl⟩ |⟨_,t',rfl,rfl,rfl⟩ |⟨_,t',rfl,rfl,rfl⟩ |⟨ds',b,ys,its',rfl,rfl,rfl,h1',h2',p'⟩ |⟨ds',b,ys,its',rfl,rfl,rfl,h1',h2',p'⟩:=I.shp h' r'
 ·exact RcAt.none_none
 ·exact RcAt.none_bool _
 ·exact RcAt.none_int _ t'
 ·exact RcAt.none_str _ t'
 ·exact RcAt.none_tuple p' (by omega)
 ·exact RcAt.none_list p' (by omega)
 ·exact RcAt.bool_none _
 ·exact RcAt.bool_bool _ _
 ·exact RcAt.bool_int _ _ t'
 ·exact RcAt.bool_str _ _ t'
 ·exact RcAt.bool_tuple _ p' (by omega)
 ·exact RcAt.bool_list _ p' (by omega)
 ·exact RcAt.int_none _ t
 ·exact RcAt.int_bool _ t _
 ·exact RcAt.int_int _ t _ t'
 ·exact RcAt.int_str _ t _ t'
 ·exact RcAt.int_tuple _ t p' (by omega)
 ·exact RcAt.int_list _ t p' (by omega)
 ·exact RcAt.str_none _ t
 ·exact RcAt.str_bool _ t _
 ·exact RcAt.str_int _ t _ t'
 ·exact RcAt.str_str _ t _ t'
 ·exact RcAt.str_tuple _ t p' (by omega)
 ·exact RcAt.str_list _ t p' (by omega)
 ·exact RcAt.tuple_none p (by omega)
 ·exact RcAt.tuple_bool _ p (by omega)
 ·exact RcAt.tuple_int _ t' p (by omega)
 ·exact RcAt.tuple_str _ t' p (by omega)
 ·rw[eqD];exact Inv.rcTup I A (fun i d d' x y u u' e1 e2 rx ry ru ru'=>Inv.wY I (gD ds) A.in1 d d' x y u u' rx ry ru ru' (mf e1) (by rw[hgt]at hu;show A.units+1+gD ds+1<cLine;omega)) h1 h2 h1' h2' (by omega)
 ·exact RcAt.tuple_list p p' (by omega)
 ·exact RcAt.list_none p (by omega)
 ·exact RcAt.list_bool _ p (by omega)
 ·exact RcAt.list_int _ t' p (by omega)
 ·exact RcAt.list_str _ t' p (by omega)
 ·exact RcAt.list_tuple p p' (by omega)
 ·rw[eqD];exact Inv.rcLst I A (fun i d d' x y u u' e1 e2 rx ry ru ru'=>Inv.wY I (gD ds) A.in1 d d' x y u u' rx ry ru ru' (mf e1) (by rw[hgt]at hu;show A.units+1+gD ds+1<cLine;omega)) h1 h2 h1' h2' (by omega)
theorem Inv.rcNeD(I:Inv X pins σ H s)(A:Around)(d d':D)(v v':V)(u u':Value)(h:Rep X.K H d v)(h':Rep X.K H d' v')(r:RelV v u)(r':RelV v' u')(hu:A.units+hgt d+1<cLine):RcNeAt A s u u' (!eqD d d'):=by
 obtain⟨rfl,rfl,rfl⟩ |⟨_,rfl,rfl,rfl⟩ |⟨_,t,rfl,rfl,rfl⟩ |⟨_,t,rfl,rfl,rfl⟩ |⟨ds,a,xs,its,rfl,rfl,rfl,h1,h2,p⟩ |⟨ds,a,xs,its,rfl,rfl,rfl,h1,h2,p⟩:=I.shp h r<;>obtain⟨rfl,rfl,rfl⟩ |⟨_,rfl,rfl,rfl⟩ |⟨_,t',rfl,rfl,rfl⟩ |⟨_,t',rfl,rfl,rfl⟩ |⟨ds',b,ys,its',rfl,rfl,rfl,h1',h2',p'⟩ |⟨ds',b,ys,its',rfl,rfl,rfl,h1',h2',p'⟩:=I.shp h' r'
 ·exact RcNeAt.none_none
 ·exact RcNeAt.none_bool _
 ·exact RcNeAt.none_int _ t'
 ·exact RcNeAt.none_str _ t'
 ·exact RcNeAt.none_tuple p' (by omega)
 ·exact RcNeAt.none_list p' (by omega)
 ·exact RcNeAt.bool_none _
 ·exact RcNeAt.bool_bool _ _
 ·exact RcNeAt.bool_int _ _ t'
 ·exact RcNeAt.bool_str _ _ t'
 ·exact RcNeAt.bool_tuple _ p' (by omega)
 ·exact RcNeAt.bool_list _ p' (by omega)
 ·exact RcNeAt.int_none _ t
 ·exact RcNeAt.int_bool _ t _
 ·exact RcNeAt.int_int _ t _ t'
 ·exact RcNeAt.int_str _ t _ t'
 ·exact RcNeAt.int_tuple _ t p' (by omega)
 ·exact RcNeAt.int_list _ t p' (by omega)
 ·exact RcNeAt.str_none _ t
 ·exact RcNeAt.str_bool _ t _
 ·exact RcNeAt.str_int _ t _ t'
 ·exact RcNeAt.str_str _ t _ t'
 ·exact RcNeAt.str_tuple _ t p' (by omega)
 ·exact RcNeAt.str_list _ t p' (by omega)
 ·exact RcNeAt.tuple_none p (by omega)
 ·exact RcNeAt.tuple_bool _ p (by omega)
 ·exact RcNeAt.tuple_int _ t' p (by omega)
 ·exact RcNeAt.tuple_str _ t' p (by omega)
 ·rw[eqD];exact Inv.neTup I A (fun i d d' x y u u' e1 e2 rx ry ru ru'=>Inv.wY I (gD ds) A.in1 d d' x y u u' rx ry ru ru' (mf e1) (by rw[hgt]at hu;show A.units+1+gD ds+1<cLine;omega)) h1 h2 h1' h2' (by omega)
 ·exact RcNeAt.tuple_list p p' (by omega)
 ·exact RcNeAt.list_none p (by omega)
 ·exact RcNeAt.list_bool _ p (by omega)
 ·exact RcNeAt.list_int _ t' p (by omega)
 ·exact RcNeAt.list_str _ t' p (by omega)
 ·exact RcNeAt.list_tuple p p' (by omega)
 ·rw[eqD];exact Inv.neLst I A (fun i d d' x y u u' e1 e2 rx ry ru ru'=>Inv.wY I (gD ds) A.in1 d d' x y u u' rx ry ru ru' (mf e1) (by rw[hgt]at hu;show A.units+1+gD ds+1<cLine;omega)) h1 h2 h1' h2' (by omega)
noncomputable def rEqD(K:aa):R2:=fun x y H Q=>∃d d',Rep K H d x/\Rep K H d' y/\hgt d<=30/\Q (.bl (eqD d d')) H
noncomputable def rNeD(K:aa):R2:=fun x y H Q=>∃d d',Rep K H d x/\Rep K H d' y/\hgt d<=30/\Q (.bl (!eqD d d')) H
theorem op_eqD(hu:X.A.units+40<cLine):OpR X (cc .Eq) (rEqD X.K):=by
 intro pins s σ H x y v u Q I rx ry h;obtain⟨d,d',h1,h2,hd,q⟩:=h;exact I.rcD X.A d d' x y v u h1 h2 rx ry (by omega) _ _ _ _ (mh I q rfl)
theorem op_neD(hu:X.A.units+40<cLine):OpR X (cc .NotEq) (rNeD X.K):=by
 intro pins s σ H x y v u Q I rx ry h;obtain⟨d,d',h1,h2,hd,q⟩:=h;exact I.rcNeD X.A d d' x y v u h1 h2 rx ry (by omega) _ _ _ _ (mh I q rfl)
end
end L2
namespace Q
open PySem PySem.W PyProof.Rows
noncomputable def run{α:Type}(lt:Nat->Nat->Bool):KasT α->α
 |.ret a=>a
 |.ask i j k=>run lt (k (lt i j))
theorem run_bind{α β:Type}(lt:Nat->Nat->Bool)(f:α->KasT β):∀t:KasT α,run lt (t.bind f)=run lt (f (run lt t))
 |.ret a=>rfl
 |.ask i j k=>run_bind lt f (k (lt i j))
noncomputable def okT{α:Type}(lt:Nat->Nat->Bool)(n:Nat):KasT α->Prop
 |.ret _=>True
 |.ask i j k=>(i<n/\j<n/\i≠j)/\okT lt n (k (lt i j))
theorem jM{α β:Type}{lt:Nat->Nat->Bool}{n:Nat}{f:α->KasT β}:∀{t:KasT α},okT lt n t->okT lt n (f (run lt t))->okT lt n (t.bind f)
 |.ret a,_,h=>h
 |.ask i j k,h,h'=>⟨h.1,jM h.2 h'⟩
structure Tot(lt:Nat->Nat->Bool)(n:Nat):Prop where
 tri:∀i j,i<n->j<n->i≠j->lt i j= !lt j i
 tr:∀i j k,i<n->j<n->k<n->lt i j=true->lt j k=true->lt i k=true
noncomputable abbrev at'(p:Array Nat)(i:Nat):Nat:=p.getD i 0
theorem xf(p:Array Nat)(i:Nat):at' p i=(p[i]?).getD 0:=by simp[at',bN]
structure Pm(p:Array Nat)(n:Nat):Prop where
 perm:p.Perm (aA n).toArray
theorem Pm.size{p:Array Nat}{n:Nat}(h:Pm p n):p.size=n:=by rw[h.perm.size_eq];simp
theorem Pm.lt{p:Array Nat}{n:Nat}(h:Pm p n){i:Nat}(hi:i<n):at' p i<n:=by
 have hs:i<p.size:=by rw[h.size];exact hi
 have e:at' p i=p[i]:=by simp[at',hs]
 have m:p[i]∈(aA n).toArray:=h.perm.mem_iff.mp (Array.getElem_mem hs);rw[e];simpa using m
theorem Pm.inj{p:Array Nat}{n:Nat}(h:Pm p n){i j:Nat}(hi:i<n)(hj:j<n)(e:at' p i=at' p j):i=j:=by
 have hsi:i<p.size:=by rw[h.size];exact hi
 have hsj:j<p.size:=by rw[h.size];exact hj
 have nd:p.toList.Nodup:=by
  have q:p.toList.Perm (aA n):=by simpa using cJ.mp h.perm
  exact q.nodup_iff.mpr pC
 have e1:at' p i=p.toList[i]'(by simpa using hsi):=by simp[at',hsi]
 have e2:at' p j=p.toList[j]'(by simpa using hsj):=by simp[at',hsj]
 rw[e1,e2]at e;exact(cW nd).mp e
theorem AY{p:Array Nat}{i j:Nat}(hj:j<=p.size)(k:Nat):at' (sj p i j) k=if i<=k/\k<j then at' p (i+j-1-k)else at' p k:=by
 rw[xf];unfold sj;rw[getElem?_mirror_all hj];split <;>rw[xf]
theorem A0{p:Array Nat}{src d:Nat}(hs:src<p.size)(hd:d<=src)(k:Nat):at' (bubble p src d) k=if k=src-d then at' p src else if src-d<k/\k<=src then at' p (k-1)else at' p k:=by
 rw[xf,getElem?_bubble hs d hd];split
 ·simp[at',hs]
 ·split <;>rw[xf]
theorem Pm.rev{p:Array Nat}{n i j:Nat}(h:Pm p n):Pm (sj p i j) n:=⟨(mirror_perm _ _ _ _).trans h.perm⟩
theorem Pm.bub{p:Array Nat}{n i j:Nat}(h:Pm p n):Pm (bubble p i j) n:=⟨(bubble_perm _ _ _).trans h.perm⟩
noncomputable def Up(lt:Nat->Nat->Bool)(p:Array Nat)(m:Nat):Prop:=∀i j,i<j->j<m->lt (at' p i) (at' p j)=true
noncomputable def Dn(lt:Nat->Nat->Bool)(p:Array Nat)(m:Nat):Prop:=∀i j,i<j->j<m->lt (at' p j) (at' p i)=true
section
variable {lt:Nat->Nat->Bool}{N:Nat}{p:Array Nat}
theorem Tot.flip(T:Tot lt N)(P:Pm p N){i j:Nat}(hi:i<N)(hj:j<N)(n:i≠j)(h:lt (at' p i) (at' p j)=false):lt (at' p j) (at' p i)=true:=by
 have q:=T.tri _ _ (P.lt hi) (P.lt hj) fun e=>n (P.inj hi hj e);rw[h]at q;simpa using q.symm
theorem Pm.ask{p:Array Nat}(P:Pm p N){i j:Nat}(hi:i<N)(hj:j<N)(n:i≠j):at' p i<N/\at' p j<N/\at' p i≠at' p j:=⟨P.lt hi,P.lt hj,fun e=>n (P.inj hi hj e)⟩
theorem Up.succ(T:Tot lt N)(P:Pm p N){n:Nat}(h1:1<=n)(hn:n<N)(u:Up lt p n)(h:lt (at' p (n-1)) (at' p n)=true):Up lt p (n+1):=by
 intro i j hij hj;by_cases e:j=n
 ·subst e
  by_cases e2:i=j-1
  ·subst e2;exact h
  ·exact T.tr _ _ _ (P.lt (by omega)) (P.lt (by omega)) (P.lt hn) (u i (j-1) (by omega) (by omega)) h
 ·exact u i j hij (by omega)
theorem Dn.succ(T:Tot lt N)(P:Pm p N){n:Nat}(h1:1<=n)(hn:n<N)(u:Dn lt p n)(h:lt (at' p n) (at' p (n-1))=true):Dn lt p (n+1):=by
 intro i j hij hj;by_cases e:j=n
 ·subst e
  by_cases e2:i=j-1
  ·subst e2;exact h
  ·exact T.tr _ _ _ (P.lt hn) (P.lt (by omega)) (P.lt (by omega)) h (u i (j-1) (by omega) (by omega))
 ·exact u i j hij (by omega)
theorem q0(T:Tot lt N)(P:Pm p N):∀(f n:Nat),1<=n->n+f<=N->Up lt p n->∃m,run lt (kas_asc p f n)=m/\n<=m/\m<=n+f/\Up lt p m/\(m=n+f\/lt (at' p m) (at' p (m-1))=true)/\okT lt N (kas_asc p f n)
 | 0,n,h1,h2,u=>⟨n,rfl,aw _,aw _,u,.inl rfl,trivial⟩
 |f+1,n,h1,h2,u=>by
  unfold kas_asc;have hask:=P.ask (i:=n) (j:=n-1) (by omega) (by omega) (by omega);simp only[run,okT];by_cases c:lt (at' p n) (at' p (n-1))=true
  ·rw[if_pos c]
   exact⟨n,rfl,aw _,by omega,u,.inr c,hask,trivial⟩
  ·rw[if_neg c]
   have c':lt (at' p n) (at' p (n-1))=false:=by simpa using c
   obtain⟨m,e,a1,a2,a3,a4,a5⟩:=q0 T P f (n+1) (by omega) (by omega) (u.succ T P h1 (by omega) (T.flip P (by omega) (by omega) (by omega) c'));refine⟨m,e,by omega,by omega,a3,?_,hask,a5⟩;rcases a4 with z|z
   ·exact .inl (by omega)
   ·exact .inr z
theorem tq(T:Tot lt N)(P:Pm p N):∀(f n:Nat),1<=n->n+f<=N->Dn lt p n->∃m,run lt (kas_desc f p n 0)=(p,m,0)/\n<=m/\m<=n+f/\Dn lt p m/\okT lt N (kas_desc f p n 0)
 | 0,n,h1,h2,u=>⟨n,rfl,aw _,aw _,u,trivial⟩
 |f+1,n,h1,h2,u=>by
  unfold kas_desc;have hask:=P.ask (i:=n) (j:=n-1) (by omega) (by omega) (by omega);have hask2:=P.ask (i:=n-1) (j:=n) (by omega) (by omega) (by omega);simp only[run,okT];by_cases c:lt (at' p n) (at' p (n-1))=true
  ·rw[if_pos c,if_neg (de 0)]
   obtain⟨m,e,a1,a2,a3,a4⟩:=tq T P f (n+1) (by omega) (by omega) (u.succ T P h1 (by omega) c);exact⟨m,e,by omega,by omega,a3,hask,a4⟩
  ·rw[if_neg c]
   have c':lt (at' p n) (at' p (n-1))=false:=by simpa using c
   have d:=T.flip P (by omega) (by omega) (by omega) c';simp only[run,okT];rw[if_pos d];exact⟨n,rfl,aw _,by omega,u,hask,hask2,trivial⟩
theorem zH(T:Tot lt N)(P:Pm p N){n:Nat}(h1:1<=n)(hn:n<=N)(u:Dn lt p n):∃m p',run lt (kas_tail3 n N p)=(m,p')/\1<=m/\m<=N/\Up lt p' m/\Pm p' N/\okT lt N (kas_tail3 n N p):=by
 have u':Up lt (sj p 0 n) n:=by
  intro i j hij hj;rw[AY (by rw[P.size];exact hn),AY (by rw[P.size];exact hn),if_pos ⟨aX _,by omega⟩,if_pos ⟨aX _,hj⟩];exact u _ _ (by omega) (by omega)
 obtain⟨m,e,a1,a2,a3,_,a5⟩:=q0 T P.rev (N-n) n h1 (by omega) u';unfold kas_tail3;refine⟨m,sj p 0 n,?_,by omega,by omega,a3,P.rev,jM a5 trivial⟩;rw[run_bind,e];rfl
theorem qZ(T:Tot lt N)(P:Pm p N){n:Nat}(hn:n+1<=N)(u:Dn lt p (n+1)):∃m p',run lt (gk n N p)=(m,p')/\1<=m/\m<=N/\Up lt p' m/\Pm p' N/\okT lt N (gk n N p):=by
 obtain⟨m,e,a1,a2,a3,a4⟩:=tq T P (N-(n+1)) (n+1) (by omega) (by omega) u;obtain⟨m2,p2,b1,b2,b3,b4,b5,b6⟩:=zH T P (by omega) (by omega) a3;unfold gk;refine⟨m2,p2,?_,b2,b3,b4,b5,jM a4 ?_⟩
 ·rw[run_bind,e]
  exact b1
 ·rw[e]
  exact b6
theorem xG(T:Tot lt N)(P:Pm p N)(hN:1<=N):∃m p',run lt (kas_count N p)=(m,p')/\1<=m/\m<=N/\Up lt p' m/\Pm p' N/\okT lt N (kas_count N p):=by
 obtain⟨m,e,a1,a2,a3,a4,a5⟩:=q0 T P (N-1) 1 (aw _) (by omega) (fun i j hij hj=>by omega);have hmid:∃m' p',run lt (if(m==N)=true then nS (m,p)else if m>1 then KasT.ask (p.getD 0 0) (p.getD (m-1) 0) fun c=>if c=true then nS (m,p)else gk m N (sj p 0 m)else gk m N p)=(m',p')/\1<=m'/\m'<=N/\Up lt p' m'/\Pm p' N/\
   okT lt N (if(m==N)=true then nS (m,p)else if m>1 then KasT.ask (p.getD 0 0) (p.getD (m-1) 0) fun c=>if c=true then nS (m,p)else gk m N (sj p 0 m)else gk m N p):=by
  by_cases c:m=N
  ·rw[if_pos (by simpa using c)]
   exact⟨m,p,rfl,a1,by omega,a3,P,trivial⟩
  ·rw[if_neg (by simpa using c)]
   by_cases d:m>1
   ·rw[if_pos d]
    simp only[run,okT];rw[if_pos (a3 0 (m-1) (by omega) (by omega))];exact⟨m,p,rfl,a1,by omega,a3,P,P.ask (by omega) (by omega) (by omega),trivial⟩
   ·rw[if_neg d]
    obtain rfl:m=1:=by omega
    rcases a4 with z|z
    ·omega
    ·exact qZ T P (by omega) fun i j hij hj=>by
      obtain rfl:j=1:=by omega
      obtain rfl:i=0:=by omega
      exact z
 obtain⟨m',p',b1,b2,b3,b4,b5,b6⟩:=hmid;unfold kas_count;refine⟨m',p',?_,b2,b3,b4,b5,jM a5 ?_⟩
 ·rw[run_bind,e]
  exact b1
 ·rw[e]
  exact b6
theorem l5(T:Tot lt N)(P:Pm p N){k:Nat}(hk:k<N)(u:Up lt p k):∀(f l r:Nat),l<=r->r<=k->r-l<=f->(∀i,i<l->lt (at' p i) (at' p k)=true)->(∀i,r<=i->i<k->lt (at' p k) (at' p i)=true)->
  ∃q,run lt (kas_place p k f l r)=q/\q<=k/\(∀i,i<q->lt (at' p i) (at' p k)=true)/\(∀i,q<=i->i<k->lt (at' p k) (at' p i)=true)/\okT lt N (kas_place p k f l r)
 | 0,l,r,h1,h2,h3,a,b=>⟨l,rfl,by omega,a,fun i hi=>b i (by omega),trivial⟩
 |f+1,l,r,h1,h2,h3,a,b=>by
  unfold kas_place;by_cases c:l≥ r
  ·rw[if_pos c]
   exact⟨l,rfl,by omega,a,fun i hi=>b i (by omega),trivial⟩
  ·rw[if_neg c]
   have hask:=P.ask (i:=k) (j:=(l+r)/2) hk (by omega) (by omega);simp only[run,okT];by_cases d:lt (at' p k) (at' p ((l+r)/2))=true
   ·rw[if_pos d]
    have key:=l5 T P hk u f l ((l+r)/2) (by omega) (by omega) (by omega) a fun i hi hik=>?_;obtain⟨q,y1,y2,y3,y4,y5⟩:=key;exact⟨q,y1,y2,y3,y4,hask,y5⟩;by_cases e:i=(l+r)/2
    ·rw[e];exact d
    ·exact T.tr _ _ _ (P.lt hk) (P.lt (by omega)) (P.lt (by omega)) d (u _ _ (by omega) hik)
   ·rw[if_neg d]
    have d':=T.flip P hk (by omega:(l+r)/2<N) (by omega) (by simpa using d);have key:=l5 T P hk u f ((l+r)/2+1) r (by omega) h2 (by omega) (fun i hi=>?_) b;obtain⟨q,y1,y2,y3,y4,y5⟩:=key;exact⟨q,y1,y2,y3,y4,hask,y5⟩;by_cases e:i=(l+r)/2
    ·rw[e];exact d'
    ·exact T.tr _ _ _ (P.lt (by omega)) (P.lt (by omega)) (P.lt hk) (u _ _ (by omega) (by omega)) d'
end
theorem wy{lt:Nat->Nat->Bool}{N:Nat}(T:Tot lt N):∀(f k:Nat)(p:Array Nat),Pm p N->k+f=N->Up lt p k->∃p',run lt (kas_bin f p k)=p'/\Up lt p' N/\Pm p' N/\okT lt N (kas_bin f p k)
 | 0,k,p,P,h,u=>⟨p,rfl,by rw[<-h];exact u,P,trivial⟩
 |f+1,k,p,P,h,u=>by
  have hk:k<N:=by omega
  obtain⟨q,e,hq,a,b,okp⟩:=l5 T P hk u k 0 k (aX _) (aw _) (by omega) (fun i hi=>absurd hi (gP _)) fun i h1 h2=>by omega
  have key:=wy T f (k+1) (bubble p k (k-q)) P.bub (by omega) fun i j hij hj=>?_;obtain⟨p',y1,y2,y3,y4⟩:=key;unfold kas_bin;refine⟨p',?_,y2,y3,jM okp ?_⟩
  ·rw[run_bind,e]
   exact y1
  ·rw[e]
   exact y4
  have hs:k<p.size:=by rw[P.size];exact hk
  rw[A0 hs (by omega),A0 hs (by omega)];have eq:k-(k-q)=q:=by omega
  rw[eq];by_cases c1:i=q
  ·rw[if_pos c1,if_neg (by omega),if_pos (by omega)]
   exact b _ (by omega) (by omega)
  ·rw[if_neg c1]
   by_cases c2:j=q
   ·rw[if_pos c2,if_neg (by omega)]
    exact a i (by omega)
   ·rw[if_neg c2]
    by_cases c3:q<i
    ·rw[if_pos (by omega),if_pos (by omega)]
     exact u _ _ (by omega) (by omega)
    ·rw[if_neg (by omega)]
     by_cases c4:q<j
     ·rw[if_pos (by omega)]
      exact u _ _ (by omega) (by omega)
     ·rw[if_neg (by omega)]
      exact u _ _ (by omega) (by omega)
theorem iJ{lt:Nat->Nat->Bool}{N:Nat}(T:Tot lt N)(hN:1<=N):Pm (run lt (ck N)) N/\Up lt (run lt (ck N)) N/\okT lt N (ck N):=by
 have P0:Pm (List.toArray (aA N)) N:=⟨fX _⟩;obtain⟨m,p',e,a1,a2,a3,a4,a5⟩:=xG T P0 hN;have hm:max m 1=m:=by omega
 have hmid:∃p2,run lt (if m<N then kas_bin (N-max m 1) p' (max m 1)else nS p')=p2/\Up lt p2 N/\Pm p2 N/\okT lt N (if m<N then kas_bin (N-max m 1) p' (max m 1)else nS p'):=by
  rw[hm];by_cases c:m<N
  ·rw[if_pos c]
   exact wy T (N-m) m p' a4 (by omega) a3
  ·rw[if_neg c]
   have e2:m=N:=by omega
   exact⟨p',rfl,by rw[<-e2];exact a3,a4,trivial⟩
 obtain⟨p2,b1,b2,b3,b4⟩:=hmid;have er:run lt (ck N)=p2:=by
  unfold ck;rw[run_bind,e];exact b1
 rw[er];refine⟨b3,b2,?_⟩;unfold ck;refine jM a5 ?_;rw[e];exact b4
end Q
namespace L2
open PySem PySem.Spec PyProof.Rows
structure Fly(h₀ h:Heap)(H:Hp)(pn:List (Addr×Obj))(a:Addr)(c:Value)(d:Option Addr):Prop where
 ex:∃T oe vs oT ts,h.get? a=some oe/\oe.cls=c/\oe.dict=d/\oe.data=.fields vs/\vs[1]? =some (.ref T)/\T≠a/\h.get? T=some oT/\oT.data=.fields ts/\ts[3]? =some .none/\h₀.get? T=none/\H T=none/\∀p∈pn,p.1≠T
 new:h₀.get? a=none
 un:H a=none
 pins:∀p∈pn,p.1≠a
noncomputable def CXx(P:Program)(w:World):CXT:=fun outer H s E e s'=>
 ∃a c d H',e=.ref a/\s'.os=s.os/\jZ s'.gens/\Un (frs outer) [] H H' s.heap s'.heap/\HOk P w H' s'.heap/\Fly s.heap s'.heap H' [] a c d/\E c d H'
section
variable {X:Cx}{pins:List (Addr×Obj)}{σ:St}{H:Hp}{s:Shared}
theorem Inv.qM{h':Heap}{t':Nat}{it:Addr}(I:Inv X pins σ H s)(k:∀b o,b≠it->s.heap.get? b=some o->h'.get? b=some o)(hn:H it=none)(hL:it≠X.env.locals)
  (h1:X.s₀.heap.get? it=none)(h2:∀x c,X.env.cells.lookup x=some c->c≠it)(h3:∀p∈X.pn++pins,p.1≠it):Inv X pins σ H {s with heap:=h',toks:=t'}:=by
 have ne0:∀b o,X.s₀.heap.get? b=some o->b≠it:=fun b o e z=>by rw[z,h1]at e;cases e
 have nit:∀b u,H b=some u->b≠it:=fun b u e z=>by rw[z,hn]at e;cases e
 refine⟨I.ok,I.os,I.bare,⟨fun b o e n hb hx=>k b o (ne0 b o e) (I.base.keep b o e n hb hx),fun b o e n hb hx=>?_,I.base.free,fun b o e hx=>?_,I.base.tups,I.base.frzs,I.base.tbls⟩,?_,fun x c e=>?_,I.free,I.freeC,fun p hp=>?_,fun b u e=>?_,I.len⟩
 ·obtain⟨sl,q⟩:=I.base.slot b o e n hb hx
  exact⟨sl,k _ _ (ne0 b o e) q⟩
 ·obtain⟨o',q⟩:=I.base.there b o e hx
  exact⟨o',k _ _ (ne0 b o e) q⟩
 ·obtain⟨m,⟨o,es,ep,ho,r⟩,hl⟩:=I.loc
  refine⟨m,⟨o,es,ep,k _ _ (dg hL) ho,r⟩,fun i x v e1 e2 e3=>?_⟩;obtain⟨u,ru,l⟩:=hl i x v e1 e2 e3;refine⟨u,ru,?_⟩;rcases l with l|⟨kk,c,e,oc,q,dd⟩
  ·exact .inl l
  ·exact .inr ⟨kk,c,e,oc,k _ _ (h2 x c e) q,dd⟩
 ·obtain⟨v,oc,q,dd⟩:=I.cell x c e
  exact⟨v,oc,k _ _ (h2 x c e) q,dd⟩
 ·obtain⟨e,n,ne,nf,d⟩:=I.pin p hp
  exact⟨k _ _ (h3 p hp) e,n,ne,nf,d⟩
 ·refine(I.hok b u e).qS (fun c v hc q=>k c v ?_ q) (fun _ q=>q) fun _ _ q=>q
  rcases hc with z|z
  ·rw[z];exact nit b u e
  ·exact nit c _ z
theorem Inv.vk(I:Inv X pins σ H s){a:Addr}{o:Obj}{vs:Array Value}(e:s.heap.get? a=some o)(hd:o.data=.fields vs):a≠X.env.locals/\∀x c,X.env.cells.lookup x=some c->c≠a:=by
 refine⟨fun z=>?_,fun x c hc z=>?_⟩
 ·obtain⟨m,⟨o',es,ep,ho',hd',_⟩,_⟩:=I.loc
  rw[<-z,e]at ho';cases ho';rw[hd]at hd';cases hd'
 ·obtain⟨v,o',ho',hd'⟩:=I.cell x c hc
  rw[z,e]at ho';cases ho';rw[hd]at hd';cases hd'
theorem cZ.has{P:Program}{w:World}{H:Hp}{h:Heap}{a:Addr}{o:HO}(x:cZ P w H h a o):∃ob,h.get? a=some ob:=by
 cases o with
 |lst xs=>obtain⟨_,_,_,_,e⟩:=x;exact⟨_,e⟩
 |tup xs=>obtain⟨_,_,_,_,e,_⟩:=x;exact⟨_,e⟩
 |dK kvs=>obtain⟨_,_,_,_,o,_,_,e,_⟩:=x;exact⟨_,e⟩
 |dT kvs=>obtain⟨_,_,_,_,o,_,_,e,_⟩:=x;exact⟨_,e⟩
 |set S n=>obtain⟨o,_,_,_,e,_⟩:=x;exact⟨_,e⟩
 |ins C dx fs=>obtain⟨_,_,_,e,_⟩:=x;exact⟨_,e⟩
 |own y=>exact x
 |xd fs=>obtain⟨_,⟨_,_,_,e,_⟩,_⟩:=x;exact⟨_,e⟩
 |rng lo hi=>obtain⟨_,_,_,e⟩:=x;exact⟨_,e⟩
 |frz ob u=>obtain⟨e,_⟩:=x;exact⟨_,e⟩
 |tbl ps=>exact⟨_,x⟩
 |met f y=>exact⟨_,x⟩
 |ext φ=>exact x.2.1
section
variable {M:Model}{E:Value->Shared->Prop}{Q:Unit->Shared->Prop}
theorem enter{a:Addr}{oe:Obj}{vs:Array Value}{head:Value}{more:Bool}(I:Inv X pins σ H s)(stk:X.stack=X.env::X.outer)(hf:X.env.frame=some X.env.locals)
  (he:s.heap.get? a=some oe)(hd:oe.data=.fields vs)(hsz:1<vs.size)(h0:X.s₀.heap.get? a=none)(hH:H a=none)(hp:∀p∈X.pn++pins,p.1≠a)
  (h:∀s2,Inv X pins σ H s2->Fly X.s₀.heap s2.heap H (X.pn++pins) a oe.cls oe.dict->Q () s2):
  wpAny M X.A (do let f<-frameOf X.env;let l<-entryPlaceOf X.env.locals more;let b<-uO head f .none (rawInt X.env.locals) .none l;kP (.ref a) 1 b)
   (fun _ s'=>wpAny M X.A (uJ (.ref a) none) Q E s') E s:=by
 have hfr:X.A.frames=some (X.env::X.outer):=by rw[<-stk];exact I.ok.frames
 have hl:s.heap.FunFrames X.base (X.env::X.outer):=by rw[<-stk];exact I.stack
 have nofr:∀b∈frs X.stack,H b=none:=I.qR;refine ae (wpAny_frameOf_fun hfr hl hf fun h1 hs=>?_);have hs':Heap.SlotsOnly (frs X.stack) s.heap h1:=by rw[stk];exact hs
 have hane:a∉frs X.stack:=fun hm=>by
  rw[stk]at hm;obtain⟨_,o,ho,hnf⟩:=hl.mem hm;rw[he]at ho;cases ho;exact hnf vs hd
 have u1:Un (frs X.stack) [] H H s.heap h1:=
  ⟨fun b o e _ hb _=>(hs'.2.1 b hb).trans e,fun b o e _ _ _=>hs'.2.2 b o e,fun _ _ _ n _=>n,fun b o e _=>let⟨sl,q⟩:=hs'.2.2 b o e;⟨_,q⟩,fun _ _ q=>q,fun _ _ _ q=>q,fun _ ps q=>⟨#[],by rw[q];simp⟩⟩
 have k1:HOk X.prog X.w H h1:=fun b u e=>by
  refine(I.hok b u e).qS (fun c v hc q=>(hs'.2.1 c fun hm=>?_).trans q) (fun _ q=>q) fun _ _ q=>q;have n:=nofr c hm;rcases hc with z|z
  ·rw[z,e]at n;cases n
  ·rw[z]at n;cases n
 have I1:Inv X pins σ H {s with heap:=h1}:=I.call (g':=s.gens) (t':=s.toks) (d':=s.drawn) (ch:=[]) u1 k1 I.bare fun _ z=>nomatch z;have he1:h1.get? a=some oe:=(hs'.2.1 a hane).trans he;refine ae (wpAny_entryPlaceOf fun pl hpl=>?_);unfold uO newFields;refine ae (dv ?_ (hpl.sizeOk5 _ _ _ _ _));generalize hob:({cls:=.type "traceback",dict:=none,data:=.fields ([head,.ref X.env.locals,.none,rawInt X.env.locals,.none]++(if pl.isEmpty then fP 6 bA else pl)).toArray}:Obj)=ob;have hodata:ob.data=.fields ([head,.ref X.env.locals,.none,rawInt X.env.locals,.none]++(if pl.isEmpty then fP 6 bA else pl)).toArray:=by rw[<-hob]
 have hofree:ob.isFreed=false:=by rw[<-hob];rfl
 have I2:Inv X pins σ H {s with heap:=h1.push ob}:=I1.kept (t':=s.toks) fun b o e=>af _ e;have he2:(h1.push ob).get? a=some oe:=af _ he1;have hT2:(h1.push ob).get? h1.objs.size=some ob:=aE _ hofree;have hTa:h1.objs.size≠a:=dc (ay he1);have hd3:=nC hd (·.setIfInBounds 1 (bo h1.objs.size));refine wpAny_setField he2 hd hsz ?_;obtain⟨ra1,ra2⟩:=I.vk he hd;have I3:Inv X pins σ H {s with heap:=(h1.push ob).update a (fC (·.setIfInBounds 1 (.ref h1.objs.size)))}:=
  I2.qM (t':=s.toks) (fun b o hb e=>by rw[aZ _ _ (dg hb)];exact e) hH ra1 h0 ra2 hp
 have he3:=cA (fC (·.setIfInBounds 1 (bo h1.objs.size))) he2 (yM hd3);have hT3:((h1.push ob).update a (fC (·.setIfInBounds 1 (bo h1.objs.size)))).get? h1.objs.size=some ob:=by
  rw[aZ _ _ (dg hTa)];exact hT2
 have hszT:3<([head,.ref X.env.locals,.none,rawInt X.env.locals,.none]++(if pl.isEmpty then fP 6 bA else pl)).toArray.size:=by
  simp only[aq,aj,aS,cN];omega
 have hv1:(vs.setIfInBounds 1 (bo h1.objs.size))[1]? =some (.ref h1.objs.size):=by simp[hsz]
 refine wpAny_setFlight_none he3 hd3 hv1 hT3 hodata hszT ?_;have hTle:s.heap.objs.size<=h1.objs.size:=Nat.le_of_eq hs.1.symm;have hT0:X.s₀.heap.get? h1.objs.size=none:=yQ (aQ I.sz hTle);have hTH:H h1.objs.size=none:=I.hok.fresh hTle;obtain⟨rt1,rt2⟩:=I3.vk hT3 hodata;have hpT:∀p∈X.pn++pins,p.1≠h1.objs.size:=fun p hq z=>by
  have q:=ay (I.pin p hq).1;exact absurd (aO (z▸q) hTle) (de _)
 have I4:=I3.qM (t':=s.toks) (h':=((h1.push ob).update a (fC (·.setIfInBounds 1 (.ref h1.objs.size)))).update h1.objs.size (fC (·.setIfInBounds 3 .none)))
  (fun b o hb e=>by rw[aZ _ _ (dg hb)];exact e) hTH rt1 hT0 rt2 hpT
 refine h _ I4 ⟨⟨h1.objs.size,_,_,_,_,?_,Obj.cls_mapFields _ _,?_,hd3,hv1,hTa,cA _ hT3 (yM (nC hodata _)),nC hodata _,?_,hT0,hTH,hpT⟩,h0,hH,hp⟩
 ·show(Heap.update _ _ _).get? a=_
  rw[aZ _ _ hTa];exact he3
 ·obtain⟨c',d',dt',sl'⟩:=oe
  cases dt'<;>rfl
 ·rw[Array.getElem?_setIfInBounds_self_of_lt hszT]
theorem Am{a:Addr}{c:Value}{args:List Value}{h':Heap}(I:Inv X pins σ H s)(stk:X.stack=X.env::X.outer)(hf:X.env.frame=some X.env.locals)(hx:X.ex=[])(hm:sI s.heap h' a c args)
  (h:∀s2,Inv X pins σ H s2->Fly X.s₀.heap s2.heap H (X.pn++pins) a c none->Q () s2):
  wpAny M X.A (jd (.ref a) X.env) (fun _ s'=>wpAny M X.A (uJ (.ref a) none) Q E s') E {s with heap:=h'}:=by
 obtain⟨t,ht,_,_⟩:=hm.there;have I1:Inv X pins σ H {s with heap:=h'}:=I.kept (t':=s.toks) hm.keeps;have hH:H a=none:=by
  cases q:H a with
  |none=>rfl
  |some o=>
   obtain⟨ob,e⟩:=(I.hok a o q).has;rw[hm.new]at e;cases e
 unfold jd;simp only[hf];refine ae (eE (x:=.none) ht rfl (by rfl) ?_);rw[if_neg (show ¬(bA != bA)=true by simp)];have h0:X.s₀.heap.get? a=none:=by
  cases q:X.s₀.heap.get? a with
  |none=>rfl
  |some o=>
   obtain⟨o',e⟩:=I.base.there a o q (by rw[hx];simp);rw[hm.new]at e;cases e
 exact enter I1 stk hf ht rfl (by simp) h0 hH (fun p hp z=>by have :=(I.pin p hp).1;rw[z,hm.new]at this;cases this) h
theorem An{a:Addr}{c:Value}{d:Option Addr}{H':Hp}{s':Shared}(I:Inv X pins σ H s)(stk:X.stack=X.env::X.outer)(hf:X.env.frame=some X.env.locals)(hx:X.ex=[])(ho:s'.os=s.os)(hg:jZ s'.gens)(u:Un (frs X.stack) [] H H' s.heap s'.heap)(ok:HOk X.prog X.w H' s'.heap)
  (F:Fly s.heap s'.heap H' [] a c d)(h:∀s2,Inv X pins σ H' s2->Fly X.s₀.heap s2.heap H' (X.pn++pins) a c d->Q () s2):
  wpAny M X.A (jd (.ref a) X.env) (fun _ s'=>wpAny M X.A (uJ (.ref a) none) Q E s') E s':=by
 obtain⟨⟨T,oe,vs,oT,ts,he,rfl,rfl,hd,h1,hTa,hT,hdT,h3,hnT,hHT,_⟩,hna,hHa,_⟩:=F;have I1:Inv X pins σ H' s':=I.call' (ch:=[]) ho u ok hg fun _ z=>nomatch z;have back:∀b,s.heap.get? b=none->X.s₀.heap.get? b=none:=fun b n=>by
  cases q:X.s₀.heap.get? b with
  |none=>rfl
  |some o=>
   obtain⟨o',e⟩:=I.base.there b o q (by rw[hx];simp);rw[n]at e;cases e
 have np:∀b,s.heap.get? b=none->∀p∈X.pn++pins,p.1≠b:=fun b n p hp z=>by have :=(I.pin p hp).1;rw[z,n]at this;cases this
 unfold jd;simp only[hf];refine ae (eE he hd h1 ?_);rw[if_pos (show(bo T != bA)=true by simp)];refine ae (eE hT hdT h3 ?_);rw[if_neg (show ¬(bA==rawInt X.env.locals)=true by simp[rawInt])];refine ae (wpAny_setField hT hdT (cK.mp h3).1 ?_);obtain⟨rt1,rt2⟩:=I1.vk hT hdT;have I2:=I1.qM (t':=s'.toks) (h':=s'.heap.update T (fC (·.setIfInBounds 3 .none))) (fun b o hb e=>by rw[aZ _ _ (dg hb)];exact e) hHT rt1 (back T hnT) rt2 (np T hnT);have he2:(s'.heap.update T (fC (·.setIfInBounds 3 .none))).get? a=some oe:=by rw[aZ _ _ hTa];exact he
 exact enter I2 stk hf he2 hd (cK.mp h1).1 (back a hna) hHa (np a hna) h
end
end
end L2
namespace L2
open PySem PySem.Spec PySem.W PyProof.Rows
noncomputable def excOk(K:aa)(C:Addr):Bool:=
 findIn K (.ref C) "__getattribute__"==some (some (.builtin "BaseException.__getattribute__"))&&findIn K (.ref C) "__getattr__"==some none&&
 findIn K (.ref C) "__class__"==some (some (.builtin "object.__class__"))&&specialIn K (.builtin "object.__class__") "__get__"==some (some (.builtin "getset_descriptor.__get__"))&&
 takesIn K (.builtin "object.__class__")==some true&&mroIn K C (.type "object")==some true&&mroIn K C (.type "BaseException")==some true&&(clsIn K C).isSome
abbrev bmV:List Value:=[.type "ValueError",.type "Exception",.type "BaseException",.type "object"]
noncomputable def AM(a:Addr)(c:Value)(d:Option Addr):HO:=.ext fun h=>∃o,h.get? a=some o/\o.cls=c/\o.dict=d/\notCls o=true
noncomputable abbrev excO(a:Addr)(c:Value):HO:=AM a c none
section
variable {X:Cx}
theorem exc_obj{K:aa}{h:Heap}{C:Addr}{bmB:List Value}{newId:String}(kin:K.In h)(q:excIn K C bmB newId=true):
  ∃nm qn N bs bm hd sn sub ab col dd k0 k1 k2 k3 k5 mN,h.get? C=some (excClassObj nm qn C N bs bm hd sn sub ab col dd k0 k1 k2 k3 k5 newId)/\h.Ns N mN/\mN "__init__"=none/\OwnTail h bmB bm:=by
 unfold excIn at q;split at q
 case h_2=>cases q
 rename_i od cd sl ho;split at q
 case h_2=>cases q
 rename_i C' bm j0 j1 j2 j3 n j5 hm hs;rw[aK,aK,aK,aK,aK,beq_iff_eq,beq_iff_eq,beq_iff_eq]at q;obtain⟨⟨⟨⟨⟨e1,e2⟩,e3⟩,e4⟩,e5⟩,e6⟩:=q;subst e1;subst e2;obtain⟨c1,c2,c3,c4,c5,c6,c7,c8,c9,c10,c11⟩:=cd;have e7:c3=.ref C'::bm:=hm;have e8:c11=false:=by simpa using e3
 have e9:sl= #[j0,j1,j2,j3,some (.builtin n),j5]:=by
  apply Array.ext'
  exact hs
 subst e7;subst e8;subst e9;exact⟨_,_,_,_,_,_,_,_,_,_,_,_,_,_,_,_,_,kin _ _ ho,.of_isNs (isNs_of_in kin e5),nsMap_none_of_in kin e5 e6,tail_of_in kin e4⟩
theorem zV{x:Str}{e:Expr}{es:List Expr}{t:TA}{C:Addr}{np cpos pos:Pos}{E:St->XK}(hg:Gl X x)(hm:X.mg x=some (.ref C))(hk:keepIn X.K (.ref C)=true)(hq:excIn X.K C bmV "ValueError.__new__"=true)(ha:PA X (e::es) t)(hc:X.calm=true)(hdb:(x==("__debug__":Str))=false)
  (hst:bp (e::es) X.env=(false,eval e X.env)::bp es X.env)(hpl:(backTo cpos (bp es X.env)).any (·.1)=false)
  (made:∀pins σ H s a c args h',Inv X pins σ H s->sI s.heap h' a c args->E σ c none H->X.xe (.ref a) {s with heap:=h'}):
  PS X (.Raise (some (.Call (.Name x np) (e::es) [] cpos)) none pos) (fun D σ H=>t σ H fun vs H1=>vs.length<=sizeLine/\E σ (.ref C) none H1):=by
 intro pins s σ H D I h;obtain⟨nm,qn,N,bs,bm,hd,sn,sub,ab,col,dd,k0,k1,k2,k3,k5,mN,hC,hN,hni,T⟩:=exc_obj (bmB:=bmV) I.mod.kin hq;have hbase:bm.contains (.type "BaseException")=true:=T.hasType (by decide+kernel);rw[arm_exec_Raise];show wpAny _ _ (do standAt pos;raiseStmt X.env (some (do let v<-eval (.Call (.Name x np) (e::es) [] cpos) X.env;standAt pos;pure v)) none) _ _ s;refine ae (pv (wpAny_raiseStmt_made_sub (C:=C) (nm:=nm) (q:=qn) (N:=N) (bs:=bs) (bm:=bm) (hdct:=hd) (sn:=sn) (sub:=sub) (ab:=ab) (col:=col) (dd:=dd) (k0:=k0) (k1:=k1) (k2:=k2) (k3:=k3) (k5:=k5) (newId:="ValueError.__new__") hbase (I.ok.hd hc) (ae (dz (Q:=fun v s1=>∃a u,v=.ref a/\s1.heap.get? C=some (excClassObj nm qn C N bs bm hd sn sub ab col dd k0 k1 k2 k3 k5 "ValueError.__new__")/\s1.heap.get? a=some {cls:=.ref C,data:=.fields #[.ref u,.none,.none,.none,.bool false,.none]}/\X.xe (.ref a) s1) (E:=X.xe) ?_ (fun v s1 z=>ae (pv (ah z))) fun _ _ z=>z))));refine fS (nJ I hg hm ?_ hdb);refine yC (h₀:=X.base) I.ok.mod.kin hk (thn (ha cpos pins s σ H _ I h) fun us s1 ⟨vs,H1,I1,r,hlen,q⟩=>⟨I1.kIn,?_⟩) hst hpl;have hC1:=I1.bk _ _ hC;obtain⟨hh,gg,dr,tk,os⟩:=s1;refine wpAny_call_exc_subT (hrest:=by rw[List.nil_append,<-r.length];exact hlen) PySem.F.excBase_ValueError (T.keeps I1.bk) hC1 (hN.keeps I1.bk) hni fun h' a hmk=>?_;obtain⟨u,hu,_,_⟩:=hmk.there;exact⟨a,u,rfl,hmk.keeps _ _ hC1,hu,made pins σ H1 _ a _ _ h' I1 hmk q⟩
end
noncomputable def Cx.re(X:Cx)(A:Around)(calm:Bool)(pn:List (Addr×Obj))(xe:Value->Shared->Prop):Cx:={X with A:=A,calm:=calm,pn:=pn,xe:=xe}
noncomputable def Ends.drop(D:Ends)(i:Nat):Ends:={nx:=fun σ H=>D.nx (σ.set i none) H,rt:=D.rt,bk:=fun σ H=>D.bk (σ.set i none) H,ct:=fun σ H=>D.ct (σ.set i none) H}
noncomputable def eCatch(K:aa)(C:Addr)(i:Nat)(ts:TS)(D:Ends):St->XK:=fun σ c d H=>
 c=c/\exmOne K c (.ref C)=some true/\∀a,H a=none->ts (D.drop i) (σ.set i (some (.ref a))) (upd H a (AM a c d))
noncomputable def wCatch(X:Cx)(pins:List (Addr×Obj))(D:Ends)(hs:List ExceptHandler):Value->Shared->Prop:=fun e s1=>
 wpAny (model X.prog X.w) X.A (jd e X.env) (fun _ s2=>wpAny (model X.prog X.w) X.A (uJ e none) (fun _ s3=>wpAny (model X.prog X.w) X.A (handleBy e X.env hs) (SP X pins D) X.xe s3) X.xe s2) X.xe s1
section
variable {X:Cx}{pins:List (Addr×Obj)}{σ:St}{H:Hp}{s:Shared}{x n:Str}{C:Addr}{i:Nat}{b₀:Stmt}{suite:List Stmt}{np hpos pos:Pos}{ts:TS}{D:Ends}
structure TryOk(X:Cx)(x n:Str)(C:Addr)(i:Nat)(suite:List Stmt)(ts:TS):Prop where
 nd:X.N.Nodup
 at_:X.N[i]? =some n
 loc:X.env.scope.names.lookup n=some .local
 gl:Gl X x
 mg:X.mg x=some (.ref C)
 db:(x==("__debug__":Str))=false
 stk:X.stack=X.env::X.outer
 fr:X.env.frame=some X.env.locals
 ex:X.ex=[]
 su:∀(pins:List (Addr×Obj))(a:Addr),PSs (X.re (X.A.mark (some (.ref a))) false (X.pn++pins) (fun _ _=>False)) suite ts
end
noncomputable abbrev XS:=St->XK
noncomputable abbrev N0:XS:=fun _=>E0
noncomputable def uG(CX:CXT)(X:Cx)(E:XS):Prop:=∀(pins:List (Addr×Obj))(σ:St)(H:Hp)(s:Shared)(e:Value)(s':Shared),Inv X pins σ H s->CX X.stack H s (E σ) e s'->X.xe e s'
noncomputable def MadeS(X:Cx)(E:XS):Prop:=∀(pins:List (Addr×Obj))(σ:St)(H:Hp)(s:Shared)(a:Addr)(c:Value)(args:List Value)(h':Heap),Inv X pins σ H s->sI s.heap h' a c args->E σ c none H->X.xe (.ref a) {s with heap:=h'}
section
variable {X:Cx}{CX:CXT}{k:Nat}{f:Addr}{fd:ft}{ps:List Str}{sp:Sp}{dvs:List V}{ds:List Value}{E:XS}{x:Str}{p pos:Pos}{e:Expr}{es:List Expr}{t:TA}
theorem wx{pins:List (Addr×Obj)}{σ:St}{H:Hp}{s:Shared}{Q:VK}{us:List Value}{vs:List V}(F:gM X.prog X.w X.K X.mg X.base CX k f fd ps sp)(hr:ij k X.A)(hb:Binds X.K fd ps ds)(hd:bJ dvs ds)(hx:uG CX X E)
  (I:Inv X pins σ H s)(r:bJ vs us)(h:sp (vs++dvs) H Q (E σ)):wpAny (model X.prog X.w) X.A (call (.ref f) us) (EP X pins σ Q) X.xe s:=by
 have r2:bJ (vs++dvs) (us++ds):=r.append hd;have hl:(us++ds).length=ps.length:=r2.length.symm.trans (F.len _ _ _ _ h);refine wpAny_call (iZ (F.run X.A X.stack s H ⟨us,[]⟩ (us++ds) (vs++dvs) Q (E σ) hr I.env0 (hb s us I.kIn hl) r2 h) fun r s' hq=>?_);cases r with
 |error e=>exact hx pins σ H s e s' I hq
 |ok fl=>cases fl<;>first |exact I.after hq|exact iy hq
theorem Ae(F:gM X.prog X.w X.K X.mg X.base CX k f fd ps sp)(hr:ij k X.A)(hg:Gl X x)(hm:X.mg x=some (.ref f))(hk:bZ X.K (.ref f)=true)(hb:Binds X.K fd ps ds)(hd:bJ dvs ds)(hx:uG CX X E)
  (ha:PA X (e::es) t)(hdb:(x==("__debug__":Str))=false)(he:bp (e::es) X.env=(false,eval e X.env)::bp es X.env)(hpl:(backTo pos (bp es X.env)).any (·.1)=false):
  PE X (.Call (.Name x p) (e::es) [] pos) (fun σ H Q=>sW sp dvs (E σ) t σ H Q):=by
 intro pins s σ H Q I h;refine fS (nJ I hg hm ?_ hdb);exact yC (h₀:=X.base) I.ok.mod.kin hk (thn (ha pos pins s σ H _ I h) fun us s1 ⟨vs,H1,I1,r,q⟩=>⟨I1.kIn,wx F hr hb hd hx I1 r q⟩) he hpl
theorem xP(F:gM X.prog X.w X.K X.mg X.base CX k f fd ps sp)(hr:ij k X.A)(hg:Gl X x)(hm:X.mg x=some (.ref f))(hk:bZ X.K (.ref f)=true)(hb:Binds X.K fd ps ds)(hd:bJ dvs ds)(hx:uG CX X E)
  (hdb:(x==("__debug__":Str))=false):PE X (.Call (.Name x p) [] [] pos) (fun σ H Q=>sW sp dvs (E σ) qP σ H Q):=by
 intro pins s σ H Q I h;refine fS (nJ I hg hm ?_ hdb);exact PySem.W.callWith_K0 I.kIn hk (wx (us:=[]) F hr hb hd hx I .nil h)
end
section
variable {P:Program}{w:World}{K:aa}{mg:Str->Option Value}{base:Heap}
theorem yq{N:List Str}{qual:Str}{scope:Scope}{f:Addr}{cd:Value}{A:Around}{outer:List Env}{s:Shared}{H:Hp}{E:XK}:
  uG (CXx P w) (rO (CXx P w) P w K mg base N qual scope f cd A outer s H E) (fun _=>E):=by
 intro pins σ H1 s1 e s' I h;obtain⟨a,c,d,H',rfl,ho,hg,u,hok,F,q⟩:=h;show wpAny _ _ (leaving _ _) _ _ _;unfold leaving;refine ae (An I rfl rfl rfl ho hg u hok F fun s2 I2 F2=>?_);obtain⟨⟨T,oe,vs,oT,ts,h1,h2,h3,h4,h5,h6,h7,h8,h9,h10,h11,_⟩,b1,b2,_⟩:=F2;exact⟨a,c,d,H',rfl,I2.os,I2.bare,I2.base,I2.hok,⟨⟨T,oe,vs,oT,ts,h1,h2,h3,h4,h5,h6,h7,h8,h9,h10,h11,fun _ z=>nomatch z⟩,b1,b2,fun _ z=>nomatch z⟩,q⟩
theorem yr{N:List Str}{qual:Str}{scope:Scope}{f:Addr}{cd:Value}{A:Around}{outer:List Env}{s:Shared}{H:Hp}{E:XK}:
  MadeS (rO (CXx P w) P w K mg base N qual scope f cd A outer s H E) (fun _=>E):=by
 intro pins σ H1 s1 a c args h' I hm q;show wpAny _ _ (leaving _ _) _ _ _;unfold leaving;refine ae (Am I rfl rfl rfl hm fun s2 I2 F2=>?_);obtain⟨⟨T,oe,vs,oT,ts,h1,h2,h3,h4,h5,h6,h7,h8,h9,h10,h11,_⟩,b1,b2,_⟩:=F2;exact⟨a,c,none,H1,rfl,I2.os,I2.bare,I2.base,I2.hok,⟨⟨T,oe,vs,oT,ts,h1,h2,h3,h4,h5,h6,h7,h8,h9,h10,h11,fun _ z=>nomatch z⟩,b1,b2,fun _ z=>nomatch z⟩,q⟩
theorem cxx0{o:List Env}{H:Hp}{s:Shared}{e:Value}{s':Shared}(h:CXx P w o H s E0 e s'):False:=by
 obtain⟨_,_,_,_,_,_,_,_,_,_,q⟩:=h;exact q
theorem gM.calm{k:Nat}{f:Addr}{fd:ft}{ps:List Str}{sp:Sp}(F:gM P w K mg base (CXx P w) k f fd ps sp):gM P w K mg base CX0 k f fd ps (fun vs H Q _=>sp vs H Q E0):=
 ⟨fun vs H Q E h=>F.len vs H Q E0 h,fun A outer s H args us vs Q E hr he hb hv hs=>iZ (F.run A outer s H args us vs Q E0 hr he hb hv hs) fun r s' q=>by
  cases r with
  |error e=>exact cxx0 q
  |ok fl=>cases fl<;>exact q⟩
end
end L2
namespace Q
open PySem PySem.Spec PySem.W PyProof.Rows L2
noncomputable def gA(lt:Nat->Nat->Bool)(vs:List Value):List Value:=if vs.length<2 then vs else(run lt (ck vs.length)).toList.map fun i=>vs.getD i .none
noncomputable def Asks(prog:Program)(w:World)(A:Around)(lt:Nat->Nat->Bool)(vs:List Value)(h0:Heap):Prop:=
 ∀s1:Shared,(∀b o,h0.get? b=some o->s1.heap.get? b=some o)->
  ∃κ,(∀(Q':eh->Shared->Prop)(E':Value->Shared->Prop),Q' κ s1->wpAny (model prog w) A (keyKind' vs.toArray) Q' E' s1)/\
   ∀i j (C:Bool->Shared->Prop),i<vs.length->j<vs.length->i≠j->C (lt i j) s1->kas_ask prog w A κ vs i j C s1
noncomputable def tlt(x y:Str):Bool:=decide (x.cps.toList<y.cps.toList)
noncomputable def lh(ks:List Str)(i j:Nat):Bool:=tlt (ks.getD i "") (ks.getD j "")
noncomputable def ord(ks:List Str):List Nat:=if ks.length<2 then aA ks.length else(run (lh ks) (ck ks.length)).toList
noncomputable def sortBy{α:Type}(d:α)(ks:List Str)(ys:List α):List α:=(ord ks).map fun i=>ys.getD i d
theorem str_ext{x y:Str}(h:x.cps.toList=y.cps.toList):x=y:=by
 obtain⟨a⟩:=x;obtain⟨b⟩:=y;have :a=b:=Array.toList_inj.mp h;rw[this]
theorem qb{x y z:Str}(a:tlt x y=true)(b:tlt y z=true):tlt x z=true:=by
 unfold tlt at *;rw[decide_eq_true_eq]at *;exact List.lt_trans a b
theorem tlt_tri{x y:Str}(h:x≠y):tlt x y= !tlt y x:=by
 unfold tlt;by_cases c:x.cps.toList<y.cps.toList
 ·have d:¬y.cps.toList<x.cps.toList:=fun z=>List.lt_irrefl _ (List.lt_trans c z)
  rw[decide_eq_true c,decide_eq_false d];rfl
 ·by_cases d:y.cps.toList<x.cps.toList
  ·rw[decide_eq_false c,decide_eq_true d];rfl
  ·exact absurd (str_ext (List.le_antisymm (List.not_lt.mp d) (List.not_lt.mp c))) h
theorem lV{ks:List Str}(nd:ks.Nodup):Tot (lh ks) ks.length where
 tri:=fun i j hi hj h=>tlt_tri fun e=>h (by
  rw[av,av,ag hi,ag hj]at e;exact(cW nd).mp e)
 tr:=fun i j k _ _ _ a b=>qb a b
theorem wI(ks:List Str)(nd:ks.Nodup):(ord ks).length=ks.length:=by
 unfold ord;split
 ·simp
 ·rw[ax,(iJ (lV nd) (by omega)).1.size]
theorem tR{ks:List Str}{ys:List V}{vs:List Value}(nd:ks.Nodup)(hl:ks.length=ys.length)(r:bJ ys vs):bJ (sortBy .non ks ys) (gA (lh ks) vs):=by
 have hlen:=r.length;have e:vs.length=ks.length:=by omega
 unfold gA sortBy ord;rw[e];by_cases c:ks.length<2
 ·rw[if_pos c,if_pos c]
  have e2:(aA ks.length).map (fun i=>ys.getD i V.non)=ys:=by
   rw[hl];apply cX
   ·simp
   ·intro i h1 h2
    simp[h2]
  rw[e2];exact r
 ·rw[if_neg c,if_neg c]
  have P:=(iJ (lV nd) (by omega)).1;have all:∀l:List Nat,(∀i∈l,i<ks.length)->bJ (l.map fun i=>ys.getD i V.non) (l.map fun i=>vs.getD i bA):=by
   intro l
   induction l with
   |nil=>exact fun _=>.nil
   |cons i l ih=>
    intro h;have hi:i<ys.length:=by have :=h i (.head _);omega
    obtain⟨u,hu,ru⟩:=r.get (ag hi);refine .cons ?_ (ih fun j hj=>h j (.tail _ hj));show L2.RelV (ys.getD i V.non) (vs.getD i bA);rw[av,ag hi,av,hu];exact ru
  refine all _ fun i hi=>?_;have m:i∈(aA ks.length).toArray:=P.perm.mem_iff.mp (yI.mp hi);simpa using m
theorem wq:∀{ks:List Str}{vs:List Value},bJ (ks.map V.str) vs->gp vs ks
 | [],_,.nil=>.nil
 |k::ks,_,.cons r t=>by
  obtain⟨tk,rfl⟩:=r;exact .cons k tk (wq t)
theorem qQ{ks:List Str}{vs:List Value}(r:gp vs ks){i:Nat}(hi:i<ks.length):∃t,vs.getD i .none=.str (ks.getD i "") t:=by
 induction r generalizing i with
 |nil=>exact absurd hi (gP _)
 |cons y t h ih=>
  cases i with
  |zero=>exact⟨t,rfl⟩
  |succ i=>exact ih (by simpa using hi)
theorem iI{ks:List Str}{vs:List Value}(r:gp vs ks):vs.length=ks.length:=by
 induction r with
 |nil=>rfl
 |cons y t h ih=>simp[ih]
section
variable {prog:Program}{w:World}{A:Around}
theorem qG{ks:List Str}{vs:List Value}{h0:Heap}(r:gp vs ks)(h2:2<=vs.length):Asks prog w A (lh ks) vs h0:=by
 intro s1 _;refine⟨oneType',fun Q' E' q=>?_,fun i j C hi hj _ q=>?_⟩
 ·match vs,r,h2 with
  |v1::v2::rest,r,_=>
   rw[keyKind_strs r];exact ah q
 ·rw[iI r]at hi hj
  obtain⟨t,e1⟩:=qQ r hi;obtain⟨u,e2⟩:=qQ r hj;unfold kas_ask;rw[e1,e2,keyLt'_oneType];exact oneLt_str q
end
noncomputable def TupKeys(H:Hp)(ys:List V)(ks:List Str):Prop:=Paired (fun v k=>∃a rest,v=V.ref a/\H a=some (.tup (V.str k::rest))) ys ks
noncomputable def rSort(K:aa):List V->Hp->VK->Prop:=fun xs H Q=>∃p ys ks,xs=[V.ref p]/\SqL K H p ys/\ks.length<64/\ks.Nodup/\(ys=ks.map V.str\/TupKeys H ys ks)/\∀l,H l=none->Q (.ref l) (upd H l (.lst (sortBy .non ks ys)))
set_option maxHeartbeats 3200000
noncomputable def has(acc:List Key)(k:Key):Bool:=acc.any fun x=>decide (x=k)
theorem jO{acc:List Key}{k:Key}:has acc k=true↔k∈acc:=by
 unfold has;rw[jq];constructor
 ·rintro⟨x,h,e⟩
  rw[<-of_decide_eq_true e];exact h
 ·exact fun h=>⟨k,h,decide_eq_true rfl⟩
noncomputable def more(acc:List Key)(k:Key):List Key:=if has acc k=true then acc else acc++[k]
noncomputable def met(ks:List Key):List Key:=ks.foldl more []
theorem Av(ks:List Key)(k:Key):met (ks++[k])=more (met ks) k:=by unfold met;rw[List.foldl_append];rfl
theorem tY{acc:List Key}{k j:Key}:j∈more acc k↔j∈acc\/j=k:=by
 unfold more;split
 ·rename_i h
  constructor
  ·exact .inl
  ·rintro(z|rfl)
   ·exact z
   ·exact jO.mp h
 ·simp
theorem tW(acc:List Key)(k:Key):(more acc k).length=if has acc k=true then acc.length else acc.length+1:=by
 unfold more;split <;>simp
theorem Ax(ks:List Key):(met ks).length<=ks.length:=by
 unfold met;have g:∀(l acc:List Key),(l.foldl more acc).length<=acc.length+l.length:=by
  intro l
  induction l with
  |nil=>intro acc;simp
  |cons k l ih=>
   intro acc;have h1:=ih (more acc k);have h2:=tW acc k;rw[qI,aS];split at h2<;>omega
 simpa using g ks []
theorem rC{ks:List Key}{k:Key}:k∈met ks↔k∈ks:=by
 unfold met;have g:∀(l acc:List Key),k∈l.foldl more acc↔k∈acc\/k∈l:=by
  intro l
  induction l with
  |nil=>intro acc;simp
  |cons j l ih=>
   intro acc;rw[qI,ih,tY,aD,or_assoc]
 simpa using g ks []
noncomputable abbrev jh(led:Bool):Obj:={cls:=.type "set",dict:=none,data:=.set #[] 0 (.fresh 0 0 led)}
noncomputable def setO(a:Addr)(n:Nat):HO:=.ext fun h=>∃o es ep t,h.get? a=some o/\o.ExactSet/\o.data=.set es ep t/\es.size<eR/\t.fits es.size=true/\es.size=n
theorem wN:∀{ks:List Key}{us:List Value},bJ (ks.map kV) us->∀(i:Nat)(v:Value),us[i]? =some v->∃k,ks[i]? =some k/\RelV (kV k) v
 | [],_,.nil,i,v,e=>by simp at e
 |k::ks,_,.cons r t,0,v,e=>by
  simp at e;subst e;exact⟨k,rfl,r⟩
 |k::ks,_,.cons r t,i+1,v,e=>wN t i v (by simpa using e)
noncomputable def rSet(K:aa):List V->Hp->VK->Prop:=fun xs H Q=>∃p ks,xs=[V.ref p]/\SqL K H p (ks.map kV)/\ks.length<4000/\∀a,H a=none->Q (.ref a) (upd H a (setO a (met ks).length))
end Q
namespace L2
open PySem PySem.Spec PyProof.Rows
section
variable {X:Cx}
noncomputable def rRepS:R2:=fun x y H Q=>∃(z:Str)(n:Int),x=.str z/\y=.int n/\2<=n/\n<=1000/\1<=z.length/\z.length<=1000/\Q (.str ⟨(fP n.toNat z.cps).foldl (·++·) #[]⟩) H
noncomputable def rJoin(K:aa):V->List V->Hp->VK->Prop:=fun x vs H Q=>∃(sep:Str)(p:Addr)(ys:List Str),x=.str sep/\vs=[.ref p]/\SqL K H p (ys.map V.str)/\sep.length<=16/\(ys.map (·.length)).sum+ys.length<=1048576/\Q (.str (Txt.join sep ys)) H
end
set_option maxHeartbeats 1000000
section
variable {X:Cx}
noncomputable def rIxD(K:aa):R2:=fun x y H Q=>∃a b kvs k v,x=.ref a/\y=.ref b/\H a=some (.dT kvs)/\SqT K H b (k.map kV)/\iH kvs k=some v/\Q v H
noncomputable def rSetdef:V->List V->Hp->VK->Prop:=fun x xs H Q=>∃a b kvs k v,x=.ref a/\xs=[.ref b,v]/\H a=some (.dT kvs)/\H b=some (.tup (k.map kV))/\kvs.length<sizeLine/\
 (∀z,iH kvs k=some z->Q z H)/\(iH kvs k=none->Q v (upd H a (.dT (putK kvs k v))))
end
section
variable {X:Cx}
noncomputable def isRef:V->Bool
 |.ref _=>true
 |_=>false
noncomputable def rInD(K:aa)(neg:Bool):R2:=fun x y H Q=>∃p xs ds d,y=.ref p/\SqL K H p xs/\xs.all isRef=true/\Rep K H d x/\gj K H ds xs/\gD ds<=30/\
 Q (.bl (if neg then !(ds.any fun d'=>eqD d' d)else ds.any fun d'=>eqD d' d)) H
open Classical in
open Classical in
end
section
variable {X:Cx}{e:Expr}{te:TE}{pos p2 p3 p4:Pos}{cd:Nat}
theorem xJ(its:List Value):slicePick its.toArray none none (some (-1))=its.reverse.toArray:=by
 unfold slicePick;have b1:fj none none (some (-1)) its.toArray.size=((its.length:Int)-1,-1,-1):=by simp[fj]
 rw[b1];have b2:yy ((its.length:Int)-1) (-1) (-1)=(aA its.length).map fun k=>its.length-1-k:=by
  unfold yy;have hc:(if(-1:Int)>0 then(if(its.length:Int)-1< -1 then(-1-((its.length:Int)-1)+ -1-1)/ -1 else 0)else(if(its.length:Int)-1> -1 then((its.length:Int)-1- -1- -1-1)/(- -1)else 0))=(its.length:Int):=by
   rw[if_neg (by decide)];by_cases h:(its.length:Int)-1> -1
   ·rw[if_pos h,show(- -1:Int)=1 by decide,Int.ediv_one]
    omega
   ·rw[if_neg h]
    omega
  rw[hc];show List.map _ (aA ((its.length:Int)).toNat)=_;rw[dk];refine lU fun k hk=>?_;have :=cC.mp hk;omega
 rw[b2];congr 1;rw[List.filterMap_map];apply List.ext_getElem?;intro k;have hs:∀j∈aA its.length,((fun x=>its.toArray[x]?)∘fun k=>its.length-1-k) j=some (its.reverse.getD j .none):=fun j hj=>by
  have hj':=cC.mp hj;show its.toArray[its.length-1-j]? =_;rw[List.getElem?_toArray,av,List.getElem?_reverse hj',ag (by omega)];rfl
 have e2:(aA its.length).filterMap ((fun x=>its.toArray[x]?)∘fun k=>its.length-1-k)=(aA its.length).map fun j=>its.reverse.getD j .none:=by
  have key:∀l:List Nat,(∀j∈l,j∈aA its.length)->l.filterMap ((fun x=>its.toArray[x]?)∘fun k=>its.length-1-k)=l.map fun j=>its.reverse.getD j .none:=by
   intro l
   induction l with
   |nil=>exact fun _=>rfl
   |cons j l ih=>
    intro h;rw[gQ,hs j (h j (.head _)),ih fun x hx=>h x (.tail _ hx)];rfl
  exact key _ fun _ h=>h
 rw[e2,aW];by_cases hk:k<its.length
 ·rw[dq hk,ag (by simpa using hk)]
  show some (its.reverse.getD k .none)=_;rw[av,ag (by simpa using hk)];rfl
 ·rw[kF (by simpa using hk),kF (by simpa using hk)]
  rfl
theorem xN{j:Nat}:PE X (.UnaryOp .USub (.Constant (.int 1) j p3) p4) (tC (.int (-1))):=fun pins s σ H Q I h=>pe_un yU z8 pins s σ H Q I ⟨1,rfl,h⟩
noncomputable def tRev(K:aa)(te:TE):TE:=fun σ H Q=>te σ H fun x H1=>∃a xs,x=.ref a/\SqL K H1 a xs/\∀p,H1 p=none->Q (.ref p) (upd H1 p (.lst xs.reverse))
theorem pe_rev{st:Expr}(he:PE X e te)(hst:PE X st (tC (.int (-1)))):PE X (.Subscript e (.Slice none none (some st) p2) pos) (tRev X.K te):=by
 intro pins s σ H Q I h;refine yB (thn (he pins s σ H _ I h) fun v s1 ⟨x,H1,I1,r1,q1⟩=>?_);refine wpAny_Slice ?_;rw[Bb];refine ah (ah ?_);rw[evalPart_some];refine thn (hst pins s1 σ H1 (fun y H2=>y=.int (-1)/\H2=H1) I1 ⟨rfl,rfl⟩) fun u s2 ⟨y,H2,I2,r2,e1,e2⟩=>?_;subst e1 e2;obtain⟨tk,rfl⟩:=r2;obtain⟨a,xs,rfl,hx,q⟩:=q1;cases r1;have I4:Inv X pins σ H2 {s2 with heap:=s2.heap.push {cls:=.type "slice",data:=.fields #[bA,bA,.int (-1) tk]}}:=I2.kept (t':=s2.toks) fun b ob q=>af _ q;obtain⟨its,r,ht,hz⟩:=I4.list hx;have hlen:=r.length;show wpAny (model X.prog X.w) X.A (pA e (.Slice none none (some st) p2) (.ref a) (.ref s2.heap.objs.size)) (EP X pins σ Q) X.xe {s2 with heap:=s2.heap.push {cls:=.type "slice",data:=.fields #[bA,bA,.int (-1) tk]}};refine tail_any (ops:=[.ref a,.ref s2.heap.objs.size]) ht.isList.typeIs sh.lookup (Ba ht.isList (qJ ..) .none .none (.int (-1) tk) (by simp) ?_ (by rw[aq]<;>omega)) (by with_unfolding_all rfl);rw[xJ];refine⟨.ref _,_,I4.laid (t':=s2.toks) (o:=.lst xs.reverse) (fun b ob q=>af _ q) (aw _) ?_,rfl,q _ (I4.hok.fresh (aw _))⟩;exact⟨by rw[dU];exact hz,_,0,r.reverse,aE _ rfl⟩
end
end L2
namespace Q
open PySem PySem.Spec PySem.W PyProof.Rows L2
noncomputable def ltI(ns:List Int)(i j:Nat):Bool:=decide (ns.getD i 0<ns.getD j 0)
noncomputable def ordI(ns:List Int):List Nat:=if ns.length<2 then aA ns.length else(run (ltI ns) (ck ns.length)).toList
noncomputable def sortI(ns:List Int):List V:=(ordI ns).map fun i=>(ns.map V.int).getD i .non
noncomputable def rSortI(K:aa):List V->Hp->VK->Prop:=fun xs H Q=>∃p ns,xs=[V.ref p]/\SqL K H p (ns.map V.int)/\ns.length<64/\ns.Nodup/\∀l,H l=none->Q (.ref l) (upd H l (.lst (sortI ns)))
end Q
namespace L2
open PySem PySem.Spec PyProof.Rows
section
variable {X:Cx}
noncomputable def nats(n:Nat):List V:=(aA n).map fun i:Nat=>V.int (i:Int)
noncomputable def tLRng(ta:TA):TE:=fun σ H Q=>ta σ H fun vs H1=>∃n:Nat,vs=[.int n]/\n<=1000/\∀p,H1 p=none->Q (.ref p) (upd H1 p (.lst (nats n)))
end
section
variable {X:Cx}
noncomputable def leP(a b c d:Int):Bool:=decide (a<c\/a=c/\b<=d)
noncomputable def rLeP(K:aa):R2:=fun x y H Q=>∃p q a b c d,x=.ref p/\y=.ref q/\SqT K H p [.int a,.int b]/\SqT K H q [.int c,.int d]/\Q (.bl (leP a b c d)) H
noncomputable def rIndex:V->List V->Hp->VK->Prop:=fun x vs H Q=>∃(l:Addr)(ns:List Int)(k:Int),x=.ref l/\vs=[.int k]/\H l=some (.lst (ns.map V.int))/\k∈ns/\ns.length<=60/\Q (.int (ns.idxOf k:Nat)) H
end
end L2
namespace Q
open PySem PySem.Spec PySem.W PyProof.Rows L2
noncomputable def plt(x y:Int×Int):Bool:=decide (x.1<y.1\/x.1=y.1/\x.2<y.2)
noncomputable def ltP(ps:List (Int×Int))(i j:Nat):Bool:=plt (ps.getD i (0,0)) (ps.getD j (0,0))
noncomputable def ordP(ps:List (Int×Int)):List Nat:=if ps.length<2 then aA ps.length else(run (ltP ps) (ck ps.length)).toList
noncomputable def sortP{α:Type}(d:α)(ps:List (Int×Int))(ys:List α):List α:=(ordP ps).map fun i=>ys.getD i d
noncomputable def A4(H:Hp)(ys:List V)(ps:List (Int×Int)):Prop:=Paired (fun v k=>∃a,v=V.ref a/\H a=some (.tup [.int k.1,.int k.2])) ys ps
noncomputable def rSortP(K:aa):List V->Hp->VK->Prop:=fun xs H Q=>∃p ys ps,xs=[V.ref p]/\SqL K H p ys/\ps.length<64/\ps.Nodup/\A4 H ys ps/\∀l,H l=none->Q (.ref l) (upd H l (.lst (sortP .non ps ys)))
end Q
namespace D8
open PySem PySem.Spec PySem.W PyProof.Rows L2
noncomputable abbrev four:List (Int×Int):=[(0,0),(0,1),(1,0),(1,1)]
noncomputable def Prs(H:Hp)(as:List Addr)(ps:List (Int×Int)):Prop:=as.length=ps.length/\∀(i:Nat) a q,as[i]? =some a->ps[i]? =some q->H a=some (.tup [.int q.1,.int q.2])
noncomputable def rSetP(K:aa):List V->Hp->VK->Prop:=fun xs H Q=>∃p as ps,xs=[V.ref p]/\SqL K H p (as.map V.ref)/\Prs H as ps/\(∀q∈ps,q∈four)/\∀a (ks:List (Int×Int)),H a=none->ks.Nodup->(∀r,r∈ks↔r∈ps)->Q (.ref a) (upd H a (_root_.Q.setO a ks.length))
end D8
namespace L2
open PySem PySem.Spec PyProof.Rows
section
variable {X:Cx}
noncomputable def CDivB(_ j:Int):Prop:=0<j/\j.natAbs.log2<9000
noncomputable def rDivB:R2:=rI CDivB fun i j=>.int (i/j)
noncomputable def rInsert:V->List V->Hp->VK->Prop:=fun x vs H Q=>∃l xs k y,x=.ref l/\vs=[.int k,y]/\H l=some (.lst xs)/\xs.length<sizeLine/\0<=k/\k<=xs.length/\Q .non (upd H l (.lst (xs.take k.toNat++y::xs.drop k.toNat)))
end
section
variable {X:Cx}
noncomputable def rSplit:V->List V->Hp->VK->Prop:=fun x vs H Q=>∃z y:Str,x=.str z/\vs=[.str y]/\(y.length==0)=false/\z.length+2<=sizeLine/\∀p,H p=none->Q (.ref p) (upd H p (.lst ((Txt.split z y).map V.str)))
end
noncomputable def Itz(K:aa)(a b:Addr):It:=
 ⟨fun i H=>∃xs ys x y,SqL K H a xs/\SqL K H b ys/\xs[i]? =some x/\ys[i]? =some y,
  fun i H v H'=>∃p x y,H p=none/\H'=upd H p (.tup [x,y])/\v=.ref p/\(∀xs,SqL K H a xs->xs[i]? =some x)/\∀ys,SqL K H b ys->ys[i]? =some y,
  fun i H=>∃xs ys,SqL K H a xs/\SqL K H b ys/\(xs.length<=i\/ys.length<=i)⟩
structure Apart5(z TI TO i1 i2:Addr):Prop where
 a1:TI≠z
 a2:TO≠z
 a3:i1≠z
 a4:i2≠z
 a5:TI≠TO
 a6:TI≠i1
 a7:TI≠i2
 a8:TO≠i1
 a9:TO≠i2
 a10:i1≠i2
section
variable {X:Cx}{es:List Expr}{kk:Nat}{pp:Pos}
noncomputable def iZip(K:aa)(t:TA):TI:=fun σ H R=>t σ H fun vs H1=>∃a b,vs=[.ref a,.ref b]/\(∃xs,SqL K H1 a xs)/\(∃ys,SqL K H1 b ys)/\R (Itz K a b) H1
theorem apart_n(n:Nat):Apart5 (n+4) (n+2) (n+3) n (n+1):=
 ⟨aH (by omega),aH (by omega),aH (by omega),aH (by omega),aH (by omega),dc (by omega),dc (by omega),dc (by omega),dc (by omega),aH (by omega)⟩
theorem boot_zip:dD "zip"=some (.type "zip"):=by decide+kernel
end
noncomputable def DkIn(P:Program)(w:World)(K:aa)(a:Addr)(kvs:List (Key×V)):Prop:=
 (a==d0)=false/\∃vs,KV kvs vs/\∀h,K.In h->h.DictOf (bH P w) a vs
section
variable {X:Cx}{dic:Addr->Option (List (Key×V))}
noncomputable def rInG(dic:Addr->Option (List (Key×V))):R2:=fun x y H Q=>∃a kvs k,y=.ref a/\dic a=some kvs/\x=kV k/\Q (.bl (iH kvs k).isSome) H
noncomputable def rIxG(dic:Addr->Option (List (Key×V))):R2:=fun x y H Q=>∃a kvs k v,x=.ref a/\dic a=some kvs/\y=kV k/\iH kvs k=some v/\Q v H
end
noncomputable def fText(pre post:Str)(i:Int):Str:=Str.empty++pre++(toString i:Str)++post
noncomputable def tFst(pre post:Str)(t:TE):TE:=fun σ H Q=>(Str.empty++pre).length<=sizeLine/\t σ H fun x H1=>∃i,x=.int i/\i.natAbs.log2<1920/\(fText pre post i).length<=sizeLine/\Q (.str (fText pre post i)) H1
noncomputable def Itzt(K:aa)(a b:Addr):It:=
 ⟨fun i H=>∃xs ys x y,SqT K H a xs/\SqL K H b ys/\xs[i]? =some x/\ys[i]? =some y,
  fun i H v H'=>∃p x y,H p=none/\H'=upd H p (.tup [x,y])/\v=.ref p/\(∀xs,SqT K H a xs->xs[i]? =some x)/\∀ys,SqL K H b ys->ys[i]? =some y,
  fun i H=>∃xs,SqT K H a xs/\xs.length<=i⟩
section
variable {X:Cx}{es:List Expr}{kk:Nat}{pp:Pos}
noncomputable def iZipT(K:aa)(t:TA):TI:=fun σ H R=>t σ H fun vs H1=>∃a b,vs=[.ref a,.ref b]/\(∃xs,SqT K H1 a xs)/\(∃ys,SqL K H1 b ys)/\R (Itzt K a b) H1
end
end L2
namespace PySem
open Sem (wp)
local macro_rules | `(term| «the numeral») => return Lean.mkIdent (bM (bM (bM (Lean.Name.num (bM (bM (bM (bM (bM uZ "_private") "PySem") "Builtin") "Int") "W0All") 0) "PySem") "Builtin") "readNumeral")
local macro_rules | `(term| «a value») => return Lean.mkIdent (bM (bM (bM (bM (Lean.Name.num (bM (bM (bM (bM (bM uZ "_private") "PySem") "Builtin") "Int") "W0All") 0) "PySem") "Builtin") "Numeral") "value")
end PySem
namespace L2
open PySem PySem.Spec PyProof.Rows
inductive Fig:Str->Int->Prop
 |one {a:Nat} (h:a<10):Fig ⟨#[48+a]⟩ (a:Nat)
 |two {a b:Nat} (ha:a<10) (hb:b<10):Fig ⟨#[48+a,48+b]⟩ (10*a+b:Nat)
section
variable {X:Cx}{dic:Addr->Option (List (Key×V))}
noncomputable def upS(z:Str):Str:=⟨placed z fun _ c=>Unicode.upperOf c⟩
noncomputable def rUpper:V->List V->Hp->VK->Prop:=fun x vs H Q=>∃z:Str,x=.str z/\vs=[]/\(upS z).length<=100/\Q (.str (upS z)) H
noncomputable def rNiG(dic:Addr->Option (List (Key×V))):R2:=fun x y H Q=>∃a kvs k,y=.ref a/\dic a=some kvs/\x=kV k/\Q (.bl (!(iH kvs k).isSome)) H
end
end L2
namespace Q
open PySem PySem.Spec PySem.W PyProof.Rows L2
noncomputable def llt:List Int->List Int->Bool
 | [],[]=>false
 | [],_::_=>true
 |_::_,[]=>false
 |a::x,b::y=>decide (a<b)||(decide (a=b)&&llt x y)
noncomputable def ltL(ps:List (List Int))(i j:Nat):Bool:=llt (ps.getD i []) (ps.getD j [])
noncomputable def ordL(ps:List (List Int)):List Nat:=if ps.length<2 then aA ps.length else(run (ltL ps) (ck ps.length)).toList
noncomputable def zt{α:Type}(d:α)(ps:List (List Int))(ys:List α):List α:=(ordL ps).map fun i=>ys.getD i d
noncomputable def IntKeys(H:Hp)(ys:List V)(ps:List (List Int)):Prop:=Paired (fun v k=>∃a,v=V.ref a/\H a=some (.tup (k.map V.int))) ys ps
noncomputable def rSortL(K:aa):List V->Hp->VK->Prop:=fun xs H Q=>∃p ys ps m,xs=[V.ref p]/\SqL K H p ys/\ps.length<64/\ps.Nodup/\(∀k∈ps,k.length=m)/\IntKeys H ys ps/\∀l,H l=none->Q (.ref l) (upd H l (.lst (zt .non ps ys)))
noncomputable def rMinL(K:aa):List V->Hp->VK->Prop:=fun xs H Q=>∃(p q:Addr)(a b:List Int),xs=[V.ref p,V.ref q]/\SqT K H p (a.map V.int)/\SqT K H q (b.map V.int)/\a.length=b.length/\Q (if llt b a=true then .ref q else .ref p) H
noncomputable def rMaxL(K:aa):List V->Hp->VK->Prop:=fun xs H Q=>∃(p q:Addr)(a b:List Int),xs=[V.ref p,V.ref q]/\SqT K H p (a.map V.int)/\SqT K H q (b.map V.int)/\a.length=b.length/\Q (if llt a b=true then .ref q else .ref p) H
noncomputable def cat2(k:List Int×List Int):List Int:=k.1++k.2
noncomputable def A3(H:Hp)(ys:List V)(ps:List (List Int×List Int)):Prop:=Paired (fun v k=>∃a x y rest,v=V.ref a/\H a=some (.tup (.ref x::.ref y::rest))/\H x=some (.tup (k.1.map V.int))/\H y=some (.tup (k.2.map V.int))) ys ps
noncomputable def rSortT(K:aa):List V->Hp->VK->Prop:=fun xs H Q=>∃(p:Addr)(ys:List V)(ps:List (List Int×List Int))(m:Nat),xs=[V.ref p]/\SqL K H p ys/\ps.length<64/\(ps.map cat2).Nodup/\(∀k∈ps,k.1.length=m/\k.2.length=m)/\A3 H ys ps/\∀l,H l=none->Q (.ref l) (upd H l (.lst (zt .non (ps.map cat2) ys)))
end Q
namespace L2
open PySem PySem.Spec PyProof.Rows
noncomputable def Itet(K:aa)(a:Addr):It:=
 ⟨fun i H=>∃xs x,SqT K H a xs/\xs[i]? =some x,fun i H v H'=>∃p x,H p=none/\H'=upd H p (.tup [.int i,x])/\v=.ref p/\∀xs,SqT K H a xs->xs[i]? =some x,fun i H=>∃xs,SqT K H a xs/\xs.length<=i⟩
section
variable {X:Cx}{es:List Expr}{kk:Nat}{pp:Pos}
noncomputable def iEnumT(K:aa)(t:TA):TI:=fun σ H R=>t σ H fun vs H1=>∃a,vs=[.ref a]/\(∃xs,SqT K H1 a xs)/\R (Itet K a) H1
end
end L2
namespace L2
open PySem PySem.Spec PySem.W PyProof.Rows
noncomputable def exO(e C:Addr)(d:Option Addr):HO:=.ext fun h=>∃x0,h.get? e=some {cls:=.ref C,dict:=d,data:=.fields #[.ref x0,.none,.none,.none,.bool false,.none]}
noncomputable def xdO(d:Addr)(fs:List (Str×V)):HO:=.ext fun h=>∃mA,h.Ns1 d mA/\(∀f,kN (fs.lookup f) (mA f))/\wc mA (fs.map (·.1))
noncomputable def AN(K:aa)(C f:Addr)(bmB:List Value)(newId:String):Bool:=match K.lookup C with
 |some ⟨.type "type",_,.cls cd,sl⟩=>(match cd.mro,sl.toList with
  |.ref C'::bm,[_,_,_,_,some (.builtin n),_]=>C'==C&&n==newId&& !cd.hasDel&&tailIn K bmB bm&&nsOkIn K cd.ns&&nsIn K cd.ns "__init__"==some (some (.ref f))
  |_,_=>false)
 |_=>false
structure MkX(K:aa)(C f:Addr):Prop where
 ex:AN K C f bmV "ValueError.__new__"=true
 fn:∃o,K.lookup f=some o/\o.cls=.type "function"
 kp:keepIn K (.ref C)=true
end L2
namespace L2
open PySem PySem.Spec PySem.W PyProof.Rows PySem.Builtin PySem.Builtin.ObjectAttr
noncomputable def overX:List Value->Bool
 |.ref _::r=>overX r
 |l=>l==bmV
section
variable {prog:Program}{w:World}{K:aa}{A:Around}{E:Value->Shared->Prop}{s:Shared}{e C:Addr}{name:Str}{v:Value}{vs:Array Value}{Q:Unit->Shared->Prop}
structure StX(K:aa)(C:Addr)(name:Str):Prop where
 hs:findIn K (.ref C) "__setattr__"=some (some (.builtin "object.__setattr__"))
 hp:(clsIn K C).any (fun cd=>overX cd.mro)=true
 ht:takerIn K C name=some none
 hd:(clsIn K C).any (·.hasDict)=true
noncomputable abbrev exObj(C:Addr)(d:Option Addr)(vs:Array Value):Obj:={cls:=.ref C,dict:=d,data:=.fields vs}
end
end L2
namespace L2
open PySem PySem.Spec PySem.W PyProof.Rows
noncomputable def sFldX(K:aa)(ta tv:TE)(f:Str):TS:=fun D σ H=>tv σ H fun y H1=>ta σ H1 fun x H2=>∃a C,x=.ref a/\StX K C f/\
 ((H2 a=some (exO a C none)/\∀dd,H2 dd=none->D.nx σ (upd (upd H2 dd (xdO dd [(f,y)])) a (exO a C (some dd))))\/
  ∃dd fs,H2 a=some (exO a C (some dd))/\H2 dd=some (xdO dd fs)/\fs.length<1000/\D.nx σ (upd H2 dd (xdO dd (putF f y fs))))
structure BsX(K:aa)(B:Addr):Prop where
 ga:specialIn K (.ref B) "__getattribute__"=some (some (.builtin "type.__getattribute__"))
 rd:readsIn K B (.type "type")=true
 fd:findCls K (.ref B) (.type "type") "__init__"=some (.val (.builtin "ValueError.__init__"))
noncomputable def tBase(K:aa)(B:Addr)(t:TA):TE:=fun σ H Q=>BsX K B/\t σ H fun vs H1=>∃a C f us,vs=.ref a::us/\H1 a=some (exO a C none)/\us.length<=sizeLine/\AN K C f bmV "ValueError.__new__"=true/\Q .non H1
noncomputable def del(H:Hp)(a:Addr):Hp:=fun b=>if b=a then none else H b
section
variable {X:Cx}{pins:List (Addr×Obj)}{σ:St}{H:Hp}{s:Shared}
structure NewX(X:Cx)(pins:List (Addr×Obj))(H:Hp)(s:Shared)(a C:Addr)(d:Option Addr):Prop where
 at_:∃x0,s.heap.get? a=some (exObj C d #[.ref x0,.none,.none,.none,.bool false,.none])
 new:X.s₀.heap.get? a=none
 un:H a=none
 pins:∀p∈X.pn++pins,p.1≠a
theorem xV{M:Model}{E:Value->Shared->Prop}{Q:Unit->Shared->Prop}{a C:Addr}{d:Option Addr}(I:Inv X pins σ H s)(stk:X.stack=X.env::X.outer)(hf:X.env.frame=some X.env.locals)(n:NewX X pins H s a C d)
  (h:∀s2,Inv X pins σ H s2->Fly X.s₀.heap s2.heap H (X.pn++pins) a (.ref C) d->Q () s2):
  wpAny M X.A (jd (.ref a) X.env) (fun _ s'=>wpAny M X.A (uJ (.ref a) none) Q E s') E s:=by
 obtain⟨x0,ht⟩:=n.at_;unfold jd;simp only[hf];refine ae (eE (x:=.none) ht rfl (by rfl) ?_);rw[if_neg (show ¬(bA != bA)=true by simp)];exact enter I stk hf ht rfl (by simp) n.new n.un n.pins h
noncomputable def A6(X:Cx)(E:XS):Prop:=∀(pins:List (Addr×Obj))(σ:St)(H:Hp)(s:Shared)(a C:Addr)(d:Option Addr),Inv X pins σ H s->NewX X pins H s a C d->E σ (.ref C) d H->X.xe (.ref a) s
theorem vY{P:Program}{w:World}{K:aa}{mg:Str->Option Value}{base:Heap}{N:List Str}{qual:Str}{scope:Scope}{f:Addr}{cd:Value}{A:Around}{outer:List Env}{s:Shared}{H:Hp}{E:XK}:
  A6 (rO (CXx P w) P w K mg base N qual scope f cd A outer s H E) (fun _=>E):=by
 intro pins σ H1 s1 a C d I n q;show wpAny _ _ (leaving _ _) _ _ _;unfold leaving;refine ae (xV I rfl rfl n fun s2 I2 F2=>?_);obtain⟨⟨T,oe,vs,oT,ts,h1,h2,h3,h4,h5,h6,h7,h8,h9,h10,h11,_⟩,b1,b2,_⟩:=F2;exact⟨a,.ref C,d,H1,rfl,I2.os,I2.bare,I2.base,I2.hok,⟨⟨T,oe,vs,oT,ts,h1,h2,h3,h4,h5,h6,h7,h8,h9,h10,h11,fun _ z=>nomatch z⟩,b1,b2,fun _ z=>nomatch z⟩,q⟩
noncomputable def sRaisX(C:Addr)(sp:Sp)(dvs:List V)(E:XS)(t:TA):TS:=fun _ σ H=>t σ H fun vs H1=>vs.length<=sizeLine/\∀a,H1 a=none->
 sp (.ref a::(vs++dvs)) (upd H1 a (exO a C none)) (fun v H2=>v=.non/\∃d,H2 a=some (exO a C d)/\E σ (.ref C) d (del H2 a)) (E σ)
end
noncomputable def fldOk(K:aa)(C:Addr)(f:Str):Bool:=
 excOk K C&&findIn K (.ref C) f==some none&&(match clsIn K C with |some cd=>cd.hasDict|none=>false)
noncomputable def rFld(K:aa)(f:Str):V->Hp->VK->Prop:=fun x H Q=>∃a C dd fs v,x=.ref a/\H a=some (AM a (.ref C) (some dd))/\H dd=some (xdO dd fs)/\fldOk K C f=true/\fs.lookup f=some v/\Q v H
noncomputable def tRepl(ta tb:TE)(i:Nat)(c d:Str)(tr:TA):TA:=fun σ H Q=>ta σ H fun x H1=>tb σ H1 fun y H2=>∃u v z:Str,x=.str u/\y=.str v/\(1<=u.length/\1<=v.length/\u.length+v.length<=sizeLine/\z.length<=1000)/\σ[i]? =some (some (.str z))/\
 tr σ H2 fun xs H3=>Q (.str (u++v)::.str (Txt.replace z c d)::xs) H3
section
variable {X:Cx}{a b:Expr}{es:List Expr}{ta tb:TE}{tr:TA}{i:Nat}{x c d:Str}{p1 np apos cpos p2 p3:Pos}{j1 j2:Nat}
noncomputable def tMkf(K:aa)(C:Addr)(sp:Sp)(dvs:List V)(E:XS)(fl:Str)(t:TA):TE:=fun σ H Q=>t σ H fun vs H1=>vs.length<=sizeLine/\∀a,H1 a=none->
 sp (.ref a::(vs++dvs)) (upd H1 a (exO a C none)) (fun v H2=>v=.non/\∃b dd fs w,V.ref a=.ref b/\H2 b=some (exO b C (some dd))/\H2 dd=some (xdO dd fs)/\fldOk K C fl=true/\fs.lookup fl=some w/\Q w H2) (E σ)
end
noncomputable def rSlW(K:aa):V->Option Int->Option Int->Hp->VK->Prop:=fun x lo hi H Q=>∃a xs,x=.ref a/\SqT K H a xs/\HT.sIx xs.length 0 lo=0/\HT.sIx xs.length xs.length hi=xs.length/\Q (.ref a) H
noncomputable def tMakeS(C:Addr)(sp:Sp)(dvs:List V)(E:XS)(t:TA):TE:=fun σ H Q=>tMake C sp dvs (E σ) t σ H Q
noncomputable def tMethS(C:Addr)(m:Str)(sp:Sp)(dvs:List V)(E:XS)(ta:TE)(t:TA):TE:=fun σ H Q=>tMeth C m sp dvs (E σ) ta t σ H Q
end L2
namespace L2
open PySem PySem.Spec PyProof.Rows
section
variable {prog:Program}{w:World}{A:Around}{E:Value->Shared->Prop}{s:Shared}
theorem lia{a:Addr}{Q:Option Obj->Shared->Prop}(h:Q (s.heap.get? a) s):wpAny (model prog w) A (loadIfAlive a) Q E s:=fun _ _ _=>h
noncomputable abbrev IsZ(h:Heap)(z TI TO:Addr)(f0:Value)(b1:Bool):Prop:=h.get? z=some {cls:=.type "zip",dict:=none,data:=.fields #[f0,.bool b1,.bool false,.ref TI,.ref TO],slots:= #[]}
theorem tT{z TI TO q:Addr}{b1:Bool}{o:Obj}{Q:Bool->Shared->Prop}(hz:IsZ s.heap z TI TO (rawInt q) b1)(ho:s.heap.get? q=some o)
  (hQ:∀h',IsZ h' z TI TO (rawInt q) true->dy z s.heap h'->Q false {s with heap:=h'}):wpAny (model prog w) A (cV (.ref z)) Q E s:=by
 unfold cV;refine ae (eE hz rfl (x:=rawInt q) rfl ?_);show wpAny _ _ (loadIfAlive (q:Int).toNat>>=_) _ _ _;refine ae (lia ?_);rw[dk,ho];show wpAny _ _ (field (.ref z) 1>>=_) _ _ _;refine ae (eE hz rfl (x:=.bool b1) rfl ?_);cases b1 with
 |true=>exact ah (hQ s.heap hz (uN ..))
 |false=>
  show wpAny _ _ (kP (.ref z) 1 (.bool true)>>=_) _ _ _;exact ae (cn hz (by simp) fun h' hz' hs'=>ah (hQ h' hz' hs'))
theorem xq{z TI TO i1 i2 l1 l2 q:Addr}{k1 k2:Nat}{xs ys:Array Value}{x y:Value}{b1:Bool}{o:Obj}{Q:Value->Shared->Prop}(D:sk z TI TO i1 i2 l1 l2)
  (hz:IsZ s.heap z TI TO (rawInt q) b1)(hq:s.heap.get? q=some o)(hTI:IsPair s.heap TI (.ref i1) (.ref i2))
  (h1:s.heap.IsListIter i1 l1 k1)(h2:s.heap.IsListIter i2 l2 k2)(hl1:s.heap.IsList l1 xs)(hl2:s.heap.IsList l2 ys)(hx:xs[k1]? =some x)(hy:ys[k2]? =some y)
  (hQ:∀h',IsZ h' z TI TO (rawInt q) true->h'.IsListIter i1 l1 (k1+1)->h'.IsListIter i2 l2 (k2+1)->IsPair h' s.heap.objs.size x y->h'.objs.size=s.heap.objs.size+1->
   (∀c o,c≠z->c≠i1->c≠i2->s.heap.get? c=some o->h'.get? c=some o)->Q (.ref s.heap.objs.size) {s with heap:=h'}):
  wpAny (model prog w) A (Builtin.«zip.__next__» ⟨[.ref z],[]⟩) (fun fin s'=>∃v,fin=.done (.ret v)/\Q v s') E s:=by
 show wpAny _ _ (field (.ref z) 2>>=_) _ _ _;refine ae (eE hz rfl (x:=.bool false) rfl ?_);show wpAny _ _ (field (.ref z) 3>>=_) _ _ _;refine ae (eE hz rfl (x:=.ref TI) rfl ?_);refine ae (jj hTI rfl ?_);show wpAny _ _ (cV (.ref z)>>=_) _ _ _;refine ae (tT hz hq fun h₁ hz₁ hs₁=>?_);simp only[bh,if_false];rw[<-Bl];simp only[kf,iD];refine ae (ae (ae (cF ?_)));show wpAny _ _ (d7 (.ref i1)>>=_) _ _ _;refine ae (lK (h1.extBut hs₁.extBut D.i1z) (hl1.extBut hs₁.extBut D.l1z) hx fun h₂ h1₂ hs₂=>ah (ah ?_));refine ae (ae (cF ?_));show wpAny _ _ (d7 (.ref i2)>>=_) _ _ _;refine ae (lK ((h2.extBut hs₁.extBut D.i2z).extBut hs₂.extBut D.i12.symm) ((hl2.extBut hs₁.extBut D.l2z).extBut hs₂.extBut D.l2i1) hy fun h₄ h2₄ hs₄=>ah (ah (ah ?_)));refine ae (wpAny_newTuple (hsz:=(by show 2<=sizeLine;decide)) ?_);have hsz:h₄.objs.size=s.heap.objs.size:=by rw[hs₄.1,hs₂.1,hs₁.1]
 refine ah ⟨_,rfl,?_⟩;rw[hsz];have up:∀c o,h₄.get? c=some o->(h₄.push {cls:=.type "tuple",data:=.seq #[x,y]}).get? c=some o:=fun c o e=>af _ e;refine hQ _ (up _ _ (hs₄.extBut _ _ D.i2z.symm (hs₂.extBut _ _ D.i1z.symm hz₁))) ((h1₂.extBut hs₄.extBut D.i12).at fun o e=>up _ o e) (h2₄.at fun o e=>up _ o e) ?_ (by rw[cM,hsz]) fun c o c1 c2 c3 e=>up _ _ (hs₄.extBut _ _ c3 (hs₂.extBut _ _ c2 (hs₁.extBut _ _ c1 e)));rw[<-hsz];exact aE _ rfl
theorem yS{z TI TO i1 i2 l1 l2 q:Addr}{k1 k2:Nat}{xs ys:Array Value}{b1:Bool}{o:Obj}{Q:el->Shared->Prop}(hh:A.handled=none)(D:sk z TI TO i1 i2 l1 l2)
  (hz:IsZ s.heap z TI TO (rawInt q) b1)(hq:s.heap.get? q=some o)(hTI:IsPair s.heap TI (.ref i1) (.ref i2))
  (h1:s.heap.IsListIter i1 l1 k1)(h2:s.heap.IsListIter i2 l2 k2)(hl1:s.heap.IsList l1 xs)(hl2:s.heap.IsList l2 ys)(hend:xs[k1]? =none\/ys[k2]? =none)
  (hE:∀h' e,(∀c o,c≠z->c≠i1->c≠i2->s.heap.get? c=some o->h'.get? c=some o)->(∃o,h'.get? e=some o/\o.cls=.type "StopIteration")->E (.ref e) {s with heap:=h'}):
  wpAny (model prog w) A (Builtin.«zip.__next__» ⟨[.ref z],[]⟩) Q E s:=by
 show wpAny _ _ (field (.ref z) 2>>=_) _ _ _;refine ae (eE hz rfl (x:=.bool false) rfl ?_);show wpAny _ _ (field (.ref z) 3>>=_) _ _ _;refine ae (eE hz rfl (x:=.ref TI) rfl ?_);refine ae (jj hTI rfl ?_);show wpAny _ _ (cV (.ref z)>>=_) _ _ _;refine ae (tT hz hq fun h₁ hz₁ hs₁=>?_);simp only[bh,if_false];rw[<-Bl];simp only[kf,iD];refine ae (ae (ae (cF ?_)));show wpAny _ _ (d7 (.ref i1)>>=_) _ _ _;cases hx:xs[k1]? with
 |none=>exact ae (wpAny_nextOf_list_end hh (h1.extBut hs₁.extBut D.i1z) (hl1.extBut hs₁.extBut D.l1z) hx fun h₂ e hs₂ he=>hE h₂ e (fun c o c1 c3 _ x=>hs₂ _ _ c3 (hs₁.extBut _ _ c1 x)) he)
 |some x=>
  have hy:ys[k2]? =none:=by rcases hend with h|h;rw[hx]at h;cases h;exact h
  refine ae (lK (h1.extBut hs₁.extBut D.i1z) (hl1.extBut hs₁.extBut D.l1z) hx fun h₂ h1₂ hs₂=>ah (ah ?_));refine ae (ae (cF ?_));show wpAny _ _ (d7 (.ref i2)>>=_) _ _ _;exact ae (wpAny_nextOf_list_end hh ((h2.extBut hs₁.extBut D.i2z).extBut hs₂.extBut D.i12.symm) ((hl2.extBut hs₁.extBut D.l2z).extBut hs₂.extBut D.l2i1) hy fun h₄ e hs₄ he=>hE h₄ e (fun c o c1 c3 c4 x=>hs₄ _ _ c4 (hs₂.extBut _ _ c3 (hs₁.extBut _ _ c1 x))) he)
theorem hJ{n0 z:Nat}(h:z<n0)(j:Nat):n0+j≠z:=by omega
structure ZSt(z TI TO i1 i2 l1 l2:Addr)(xs ys:Array Value)(n0 i:Nat)(h:Heap):Prop where
 hz:(i=0/\IsZip h z TI TO .none/\∃u v,IsPair h TO u v)\/(0<i/\∃b,IsZ h z TI TO (rawInt n0) b)
 hTI:IsPair h TI (.ref i1) (.ref i2)
 h1:h.IsListIter i1 l1 i
 h2:h.IsListIter i2 l2 i
 hl1:h.IsList l1 xs
 hl2:h.IsList l2 ys
noncomputable def Prs(xs ys:Array Value)(n0 i:Nat)(h:Heap):Prop:=∀j,j<i->∀x y,xs[j]? =some x->ys[j]? =some y->IsPair h (n0+j) x y
theorem ZSt.move{z TI TO i1 i2 l1 l2:Addr}{xs ys:Array Value}{n0 i:Nat}{h h':Heap}(Z:ZSt z TI TO i1 i2 l1 l2 xs ys n0 i h)(k:∀c∈[z,TI,TO,i1,i2,l1,l2],∀o,h.get? c=some o->h'.get? c=some o):ZSt z TI TO i1 i2 l1 l2 xs ys n0 i h':=by
 refine⟨?_,k TI (by simp) _ Z.hTI,Z.h1.at fun o q=>k i1 (by simp) o q,Z.h2.at fun o q=>k i2 (by simp) o q,Z.hl1.at fun o q=>k l1 (by simp) o q,Z.hl2.at fun o q=>k l2 (by simp) o q⟩;rcases Z.hz with⟨a,b,u,v,c⟩ |⟨a,b,c⟩
 ·exact .inl ⟨a,k z (by simp) _ b,u,v,k TO (by simp) _ c⟩
 ·exact .inr ⟨a,b,k z (by simp) _ c⟩
theorem zloop{z TI TO i1 i2 l1 l2 S n0:Addr}{xs ys:Array Value}{res:Value}{R:Result->Shared->Prop}(hh:A.handled=none)(D:sk z TI TO i1 i2 l1 l2)(hlt:∀c∈[z,TI,TO,i1,i2,l1,l2],c<n0)(hS0:S<n0)(hSf:S∉[z,TI,TO,i1,i2,l1,l2]){n:Nat}(hn:n=min xs.size ys.size)(hn2:n<=5000):
  ∀(k i:Nat)(s:Shared)(acc:Array Value)(c:Nat),n-i=k->i<=n->s.heap.objs.size=n0+i->ZSt z TI TO i1 i2 l1 l2 xs ys n0 i s.heap->s.heap.get? S=some {cls:=.type "list",dict:=none,data:=.seq acc c,slots:= #[]}->
  acc.toList=(aA i).map (fun j=>bo (n0+j))->Prs xs ys n0 i s.heap->
  (∀h' acc' c',(∀b o,b∉[S,z,TO,i1,i2]->s.heap.get? b=some o->h'.get? b=some o)->h'.get? S=some {cls:=.type "list",dict:=none,data:=.seq acc' c',slots:= #[]}->acc'.toList=(aA n).map (fun j=>bo (n0+j))->Prs xs ys n0 n h'->R (.ok (.ret res)) {s with heap:=h'})->
  gZ (model prog w) A (.builtin "list.extend.loop" ⟨[.ref S,.ref z,res],[]⟩) R s:=by
 have ez:z<n0:=hlt z (by simp);have e1:i1<n0:=hlt i1 (by simp);have e2:i2<n0:=hlt i2 (by simp);have eO:TO<n0:=hlt TO (by simp);intro k
 induction k with
 |zero=>
  intro i s acc c hk hi hsz Z hS hacc hP hR;have hin:i=n:=by omega
  subst hin;refine dP F.entry_extend_loop ?_;rw[da fE _];show wpAny _ A.in1 (pyNext (.ref z)>>=_) _ _ s;have hend:xs[i]? =none\/ys[i]? =none:=by
   rcases Nat.le_total xs.size ys.size with h|h
   ·exact .inl (by rw[we];omega)
   ·exact .inr (by rw[we];omega)
  have fin:∀h',(∀c o,c≠z->c≠TO->c≠i1->c≠i2->s.heap.get? c=some o->h'.get? c=some o)->R (.ok (.ret res)) {s with heap:=h'}:=fun h' kp=>by
   refine hR h' acc c (fun b o hb q=>?_) ?_ hacc fun j hj x y ex ey=>kp _ _ (hJ ez j) (hJ eO j) (hJ e1 j) (hJ e2 j) (hP j hj x y ex ey)
   ·simp only[aD,bE,or_false,not_or]at hb
    exact kp b o hb.2.1 hb.2.2.1 hb.2.2.2.1 hb.2.2.2.2 q
   ·simp only[aD,bE,or_false,not_or]at hSf
    exact kp S _ hSf.1 hSf.2.2.1 hSf.2.2.2.1 hSf.2.2.2.2.1 hS
  rcases Z.hz with⟨i0,hz,u,v,hTO⟩ |⟨i0,b,hz⟩
  ·refine ae (wpAny_pyNext_zip_end hh D hz Z.hTI hTO Z.h1 Z.h2 Z.hl1 Z.hl2 hend fun h' kp=>?_)
   exact ah (fin h' kp)
  ·have hT:s.TypeIs (.ref z) "zip":=⟨_,hz,rfl⟩
   have hx:xs[0]? =some (xs[0]'(by omega)):=bV _;have hy:ys[0]? =some (ys[0]'(by omega)):=bV _;refine ae ?_;unfold pyNext;refine ae (j6 (fW (name:=eY "__next__") hT kW
    (dF kW hT F.entry_zip_next (yS hh D hz (hP 0 i0 _ _ hx hy) Z.hTI Z.h1 Z.h2 Z.hl1 Z.hl2 hend fun h' e hk he=>?_) (F.args_zip_next_1 _))))
   obtain⟨o,ho,hc⟩:=he;refine ae (uI (T:="StopIteration") (b:=true) ⟨o,ho,hc⟩ isSubtype_stop ?_);exact ah (ah (fin h' fun c o c1 _ c3 c4 q=>hk c o c1 c3 c4 q))
 |succ k ih=>
  intro i s acc c hk hi hsz Z hS hacc hP hR;have hlti:i<n:=by omega
  have hx:xs[i]? =some (xs[i]'(by omega)):=bV _;have hy:ys[i]? =some (ys[i]'(by omega)):=bV _;refine dP F.entry_extend_loop ?_;rw[da fE _];show wpAny _ A.in1 (pyNext (.ref z)>>=_) _ _ s;simp only[aD,bE,or_false,not_or]at hSf;have acl:acc.size=i:=by rw[<-ax,hacc];simp
  have go:∀h',(0<i+1/\∃b,IsZ h' z TI TO (rawInt n0) b)->h'.IsListIter i1 l1 (i+1)->h'.IsListIter i2 l2 (i+1)->IsPair h' s.heap.objs.size (xs[i]'(by omega)) (ys[i]'(by omega))->h'.objs.size=s.heap.objs.size+1->
    (∀c o,c≠z->c≠TO->c≠i1->c≠i2->s.heap.get? c=some o->h'.get? c=some o)->
    wpAny (model prog w) A.in1 (pq (.ref S) (·.push (.ref s.heap.objs.size))>>=fun _=>again (.builtin "list.extend.loop" ⟨[.ref S,.ref z,res],[]⟩)) (fun fin s'=>match fin with |.done f=>R (.ok f) s'|.again c'=>c'.quiet=true/\gZ (model prog w) A c' R s') (fun e s'=>R (.error e) s') {s with heap:=h'}:=by
   intro h' hz' h1' h2' hp' hsz' kp;have hS':=kp S _ hSf.1 hSf.2.2.1 hSf.2.2.2.1 hSf.2.2.2.2.1 hS;show wpAny _ A.in1 (updateSeq S (·.push (.ref s.heap.objs.size))>>=_) _ _ _;refine ae ?_;have up:∀b o,b≠S->h'.get? b=some o->(h'.update S (b9 (·.push (.ref s.heap.objs.size)))).get? b=some o:=fun b o hb q=>(aZ _ _ (dg hb)).trans q;refine lN hS' rfl (ah ⟨gY fE _,ih (i+1) _ (acc.push (.ref s.heap.objs.size)) _ (by omega) hlti ?_ ?_ (cA _ hS' rfl) ?_ ?_ fun h'' acc' c' kp'' hS'' hacc' hP''=>?_⟩)
    (by rw[acl];exact aQ (by omega:i<=5000) (by decide)) (by show(acc.push _).size<=sizeLine+1;rw[b7,acl];exact aQ (by omega:i+1<=5001) (by decide))
   ·show(h'.update S _).objs.size=_
    rw[gf,hsz',hsz];omega
   ·have Z':ZSt z TI TO i1 i2 l1 l2 xs ys n0 (i+1) h':=⟨.inr hz',kp _ _ D.TIz D.TITO D.TIi1 D.TIi2 Z.hTI,h1',h2',Z.hl1.at fun o q=>kp l1 o D.l1z D.l1TO D.l1i1 D.l1i2 q,Z.hl2.at fun o q=>kp l2 o D.l2z D.l2TO D.l2i1 D.l2i2 q⟩
    refine Z'.move fun c hc o q=>up c o (fun e=>?_) q;subst e;simp only[aD,bE,or_false]at hc;rcases hc with hc|hc|hc|hc|hc|hc|hc
    ·exact hSf.1 hc
    ·exact hSf.2.1 hc
    ·exact hSf.2.2.1 hc
    ·exact hSf.2.2.2.1 hc
    ·exact hSf.2.2.2.2.1 hc
    ·exact hSf.2.2.2.2.2.1 hc
    ·exact hSf.2.2.2.2.2.2 hc
   ·rw[dh,hacc,kc,bj,hsz];rfl
   ·intro j hj x y ex ey
    by_cases hji:j=i
    ·subst hji
     rw[hx]at ex;rw[hy]at ey;cases ex;cases ey;rw[hsz]at hp';exact up _ _ (hJ hS0 j) hp'
    ·exact up _ _ (hJ hS0 j) (kp _ _ (hJ ez j) (hJ eO j) (hJ e1 j) (hJ e2 j) (hP j (by omega) x y ex ey))
   ·refine hR h'' acc' c' (fun b o hb q=>?_) hS'' hacc' hP''
    have hb':=hb;simp only[aD,bE,or_false,not_or]at hb';exact kp'' b o hb (up b o hb'.1 (kp b o hb'.2.1 hb'.2.2.1 hb'.2.2.2.1 hb'.2.2.2.2 q))
  rcases Z.hz with⟨i0,hz,u,v,hTO⟩ |⟨i0,b,hz⟩
  ·refine ae (wpAny_pyNext_zip_item D hz Z.hTI hTO Z.h1 Z.h2 Z.hl1 Z.hl2 hx hy fun h' a1 a2 a3 a4 a5 a6 kp=>?_)
   exact go h' ⟨by omega,false,by rw[hsz,i0,Nat.add_zero]at a1;exact a1⟩ a3 a4 a5 a6 kp
  ·have hT:s.TypeIs (.ref z) "zip":=⟨_,hz,rfl⟩
   have hx0:xs[0]? =some (xs[0]'(by omega)):=bV _;have hy0:ys[0]? =some (ys[0]'(by omega)):=bV _;refine ae ?_;unfold pyNext;refine ae (j6 (fW (name:=eY "__next__") hT kW (dF kW hT F.entry_zip_next (xq D hz (hP 0 i0 _ _ hx0 hy0) Z.hTI Z.h1 Z.h2 Z.hl1 Z.hl2 hx hy fun h' a1 a3 a4 a5 a6 kp=>ah ?_) (F.args_zip_next_1 _))));exact go h' ⟨by omega,true,a1⟩ a3 a4 a5 a6 fun c o c1 _ c3 c4 q=>kp c o c1 c3 c4 q
theorem AK{z:Addr}{Q:Bool->Shared->Prop}(hT:s.TypeIs (.ref z) "zip")(h:Q true s):wpAny (model prog w) A (d8 (.ref z)) Q E s:=by
 unfold d8;refine ae (lO (r:=none) hT (by rw[lQ,gI];kernel_rfl) ?_);show wpAny _ _ (specialOf (.ref z) "__length_hint__">>=_) _ _ _;refine ae (lO (r:=none) hT (by rw[lQ,gI];kernel_rfl) ?_);exact ah h
theorem vL{z TI TO i1 i2 l1 l2 S n0:Addr}{xs ys:Array Value}{res:Value}{c₀:Nat}{R:Result->Shared->Prop}(hh:A.handled=none)(D:sk z TI TO i1 i2 l1 l2)(hlt:∀c∈[z,TI,TO,i1,i2,l1,l2],c<n0)(hS0:S<n0)(hSf:S∉[z,TI,TO,i1,i2,l1,l2]){n:Nat}(hn:n=min xs.size ys.size)(hn2:n<=5000)
  (hsz:s.heap.objs.size=n0)(Z:ZSt z TI TO i1 i2 l1 l2 xs ys n0 0 s.heap)(hz:IsZip s.heap z TI TO .none)(hS:s.heap.get? S=some {cls:=.type "list",data:=.seq #[] c₀})
  (hR:∀h' acc' c',(∀b o,b∉[S,z,TO,i1,i2]->s.heap.get? b=some o->h'.get? b=some o)->h'.get? S=some {cls:=.type "list",dict:=none,data:=.seq acc' c',slots:= #[]}->acc'.toList=(aA n).map (fun j=>bo (n0+j))->Prs xs ys n0 n h'->R (.ok (.ret res)) {s with heap:=h'}):
  wpAny (model prog w) A.in1 (cB (.ref S) (.ref z) res)
   (fun fin s'=>match fin with |.done f=>R (.ok f) s'|.again c'=>c'.quiet=true/\gZ (model prog w) A c' R s') (fun e s'=>R (.error e) s') s:=by
 have hSf':=hSf;simp only[aD,bE,or_false,not_or]at hSf';unfold cB;refine ae (wpAny_typeOf (T:="zip") ⟨_,hz,rfl⟩ ?_);have h1:gK (.ref S) (.ref z)=false:=by simp[gK,hSf'.1]
 have h2:(iu "zip"==iu "list")=false:=by decide
 have h3:(iu "zip"==iu "tuple")=false:=by decide
 simp only[h1,h2,h3,Bool.or_false,bh,if_false];refine ae (wpAny_pyIter_zip hz ?_);refine ae (cF (AK ⟨_,hz,rfl⟩ ?_));refine wpAny_ite_split (fun _=>?_) (fun hab=>absurd rfl hab);refine ae (dZ ?_);refine ae ?_;show wpAny _ _ (updateSeq S (·.push .none)>>=fun _=>updateSeq S (·.pop)) _ _ _;refine ae (lN hS rfl ?_);have hS₂:=cA (b9 (·.push bA)) hS rfl;refine lN (hz:=by seq_fits) hS₂ rfl ?_;have hS₃:=cA (b9 (·.pop)) hS₂ rfl;have up:∀b o,b≠S->s.heap.get? b=some o->((s.heap.update S (b9 (·.push bA))).update S (b9 (·.pop))).get? b=some o:=fun b o hb q=>(aZ _ _ (dg hb)).trans ((aZ _ _ (dg hb)).trans q);refine ah ⟨gY fE _,zloop hh D hlt hS0 hSf hn hn2 n 0 _ _ _ rfl (aX _) ?_ (Z.move fun c hc o q=>up c o (fun e=>hSf (e▸hc)) q) hS₃ rfl (fun j hj=>absurd hj (gP _)) fun h' acc' c' kp hS' ha hP=>hR h' acc' c' (fun b o hb q=>kp b o hb (up b o (fun e=>hb (by rw[e];exact au)) q)) hS' ha hP⟩;show((s.heap.update S _).update S _).objs.size=_;rw[gf,gf,hsz];rfl
theorem pP{z TI TO i1 i2 l1 l2:Addr}{xs ys:Array Value}{Q:Value->Shared->Prop}(hh:A.handled=none)(D:sk z TI TO i1 i2 l1 l2){n:Nat}(hn:n=min xs.size ys.size)(hn2:n<=5000)(Z:∀n0,ZSt z TI TO i1 i2 l1 l2 xs ys n0 0 s.heap)(hz:IsZip s.heap z TI TO .none)(hlt:∀c∈[z,TI,TO,i1,i2,l1,l2],c<s.heap.objs.size)
  (hQ:∀h' acc' c',(∀b o,b∉[z,TO,i1,i2]->s.heap.get? b=some o->h'.get? b=some o)->h'.get? s.heap.objs.size=some {cls:=.type "list",dict:=none,data:=.seq acc' c',slots:= #[]}->acc'.toList=(aA n).map (fun j=>bo (s.heap.objs.size+1+j))->Prs xs ys (s.heap.objs.size+1) n h'->Q (.ref s.heap.objs.size) {s with heap:=h'}):
  wpAny (model prog w) A (call (.type "list") [.ref z]) Q E s:=by
 refine callType_codes (Q₁:=fun obj s₁=>obj=.ref s.heap.objs.size/\s₁={s with heap:=s.heap.push {cls:=.type "list",data:=.seq #[]}}) F.called_list (F.typeCall_list_1 _) F.entry_list_init
  (code_list_new _ ⟨rfl,rfl⟩) fun obj s₁ h₁=>?_
 obtain⟨rfl,rfl⟩:=h₁;have hS:(s.heap.push {cls:=.type "list",data:=.seq #[]}).get? s.heap.objs.size=some {cls:=.type "list",data:=.seq #[]}:=aE _ rfl;refine⟨⟨_,hS,rfl⟩,F.args_list_init_2 _ _,?_⟩;have hSf:s.heap.objs.size∉[z,TI,TO,i1,i2,l1,l2]:=fun h=>de _ (hlt _ h);have hSz:s.heap.objs.size≠z:=fun e=>hSf (e▸au);show wpAny _ _ (do let old<-pD (.ref s.heap.objs.size);pq (.ref s.heap.objs.size) (fun _=> #[]);letGo old.toList.reverse;cB (.ref s.heap.objs.size) (.ref z) .none) _ _ _;refine ae ?_;unfold pD;refine ae (jj hS rfl (ah ?_));show wpAny _ _ (updateSeq s.heap.objs.size (fun _=> #[])>>=fun _=>letGo (#[]:Array Value).toList.reverse>>=fun _=>cB (.ref s.heap.objs.size) (.ref z) .none) _ _ _;refine ae (lN hS rfl ?_);have hS₂:=cA (b9 (fun _=>(#[]:Array Value))) hS rfl;have oth:∀b o,b≠s.heap.objs.size->s.heap.get? b=some o->((s.heap.push {cls:=.type "list",data:=.seq #[]}).update s.heap.objs.size (b9 (fun _=>(#[]:Array Value)))).get? b=some o:=
  fun b o hb e=>(aZ _ _ (dg hb)).trans (af _ e)
 refine ae (wpAny_letGo ?_);refine vL (A:=A.in1) (n0:=s.heap.objs.size+1) hh D (fun c hc=>bu (hlt c hc)) (cq _) hSf hn hn2 ?_ ((Z _).move fun c hc o q=>oth c o (fun e=>hSf (e▸hc)) q) (oth z _ (dg hSz) hz) hS₂ fun h' acc' c' kp hS' ha hP=>⟨rfl,hQ h' acc' c' (fun b o hb q=>?_) hS' ha hP⟩
 ·show((s.heap.push _).update _ _).objs.size=_
  rw[gf,cM]
 ·have hbS:b≠s.heap.objs.size:=aH (ay q)
  refine kp b o (fun hm=>?_) (oth b o hbS q);rcases aD.mp hm with e|hm
  ·exact hbS e
  ·exact hb hm
end
noncomputable def ovr(N H:Hp):Hp:=fun b=>match N b with
 |some o=>some o
 |none=>H b
theorem rm{N H:Hp}{b:Addr}{o:HO}(h:N b=some o):ovr N H b=some o:=by unfold ovr;rw[h]
theorem nI{N H:Hp}{b:Addr}(h:N b=none):ovr N H b=H b:=by unfold ovr;rw[h]
section
variable {X:Cx}{pins:List (Addr×Obj)}{σ:St}{H N:Hp}{s:Shared}{h':Heap}
theorem Inv.lay{t':Nat}(I:Inv X pins σ H s)(k:∀b u,s.heap.get? b=some u->h'.get? b=some u)(hN:∀b o,N b=some o->s.heap.objs.size<=b/\cZ X.prog X.w (ovr N H) h' b o):Inv X pins σ (ovr N H) {s with heap:=h',toks:=t'}:=by
 have old:∀{b:Addr}{o:HO},H b=some o->ovr N H b=some o:=fun{b o} q=>by
  cases e:N b with
  |none=>rw[nI e];exact q
  |some o'=>rw[I.hok.fresh (hN b o' e).1]at q;cases q
 refine I.un ⟨fun b o q _ _ _=>k b o q,fun b o q _ _ _=>⟨o.slots,k b o q⟩,fun b o q n _=>?_,fun b o q _=>⟨o,k b o q⟩,fun b xs q=>old q,fun b o u q=>old q,fun b ps q=>⟨#[],by rw[old q];simp⟩⟩ fun b o q=>?_
 ·cases e:N b with
  |none=>rw[nI e];exact n
  |some o'=>exact absurd (ay q) (Nat.not_lt.mpr (hN b o' e).1)
 ·cases e:N b with
  |none=>
   rw[nI e]at q;exact(I.hok b o q).qS (fun c v _ z=>k c v z) (fun c z=>old z) fun c xs z=>old z
  |some o'=>
   rw[rm e]at q;cases q;exact(hN b _ e).2
noncomputable def zc(K:aa)(t:TA):TE:=fun σ H Q=>t σ H fun vs H1=>∃a b xs ys,vs=[.ref a,.ref b]/\SqL K H1 a xs/\SqL K H1 b ys/\xs.length<=1000/\∀H' p ws,bP H1 H'->H1 p=none->H' p=some (.lst ws)->ws.length=min xs.length ys.length->
 (∀(j:Nat)(x y:V),xs[j]? =some x->ys[j]? =some y->∃q,ws[j]? =some (.ref q)/\H1 q=none/\H' q=some (.tup [x,y]))->Q (.ref p) H'
noncomputable def zN(S n0 n:Nat)(xs ys:List V):Hp:=fun b=>if b=S then some (.lst ((aA n).map fun j=>V.ref (n0+j)))else if n0<=b/\b-n0<n then some (.tup [xs.getD (b-n0) .non,ys.getD (b-n0) .non])else none
theorem pY:∀(l:List Nat)(n0:Nat),bJ (l.map fun j=>V.ref (n0+j)) (l.map fun j=>bo (n0+j))
 | [],_=>.nil
 |_::l,n0=>.cons rfl (pY l n0)
theorem pe_lzip{l m:Expr}{t:TA}{p p' pos pos':Pos}(hc:X.calm=true)(hg:Gl X "zip")(hm:X.mg "zip"=none)(hg':Gl X "list")(hm':X.mg "list"=none)(ha:PA X [l,m] t)(hs:bp [l,m] X.env=(false,eval l X.env)::bp [m] X.env)(hpl:(backTo pos' (bp [m] X.env)).any (·.1)=false):
  PE X (.Call (.Name "list" p) [.Call (.Name "zip" p') [l,m] [] pos'] [] pos) (zc X.K t):=by
 intro pins s σ H Q I h;refine Call_ (iV I hg' hm' ff (cz (iz ?_) rfl rfl));refine Call_ (iV I hg hm boot_zip (cz (thn (ha pos' pins s σ H _ I h) fun us s1 ⟨vs,H1,I1,r1,q1⟩=>?_) hs hpl));obtain⟨a,b,xs,ys,rfl,hq1,hq2,hl,q⟩:=q1;obtain⟨u,v,rfl,ru,rv⟩:=r1.two;cases ru;cases rv;obtain⟨its,r2,pl,hz⟩:=I1.list hq1;obtain⟨its2,r3,pl2,hz2⟩:=I1.list hq2;have e1:=r2.length;have e2:=r3.length;refine call_zip_2 pl.isList pl2.isList fun h' z1 z2 z3 z4 z5 z6 kp=>?_;refine ah ?_;have ha1:a<s1.heap.objs.size:=by obtain⟨o,_,e,_⟩:=pl;exact ay e
 have hb1:b<s1.heap.objs.size:=by obtain⟨o,_,e,_⟩:=pl2;exact ay e
 have D:sk (s1.heap.objs.size+4) (s1.heap.objs.size+2) (s1.heap.objs.size+3) s1.heap.objs.size (s1.heap.objs.size+1) a b:=by
  have lt:∀{c:Nat}(k:Nat),c<s1.heap.objs.size->c≠s1.heap.objs.size+k:=fun k h=>by omega
  have D5:=apart_n s1.heap.objs.size;exact⟨D5.a1,D5.a2,D5.a3,D5.a4,D5.a5,D5.a6,D5.a7,D5.a8,D5.a9,D5.a10,lt 4 ha1,lt 3 ha1,lt 0 ha1,lt 1 ha1,lt 4 hb1,lt 3 hb1,lt 0 hb1,lt 1 hb1⟩
 refine pP (s:={s1 with heap:=h'}) (n:=min its.toArray.size its2.toArray.size) (I1.ok.hd hc) D rfl ?_ (fun n0=>⟨.inl ⟨rfl,z1,_,_,z3⟩,z2,z4,z5,pl.isList.at fun o e=>kp a o e,pl2.isList.at fun o e=>kp b o e⟩) z1 ?_ fun h'' acc' c' kp2 hS ha hP=>?_
 ·rw[aq,aq];omega
 ·intro c hc'
  show c<h'.objs.size;rw[z6];simp only[aD,bE,or_false]at hc';rcases hc' with rfl|rfl|rfl|rfl|rfl|rfl|rfl
  ·exact cq _
  ·exact fI (by decide) |> fun h:s1.heap.objs.size+2<s1.heap.objs.size+2+3=>h
  ·exact fI (by decide) |> fun h:s1.heap.objs.size+3<s1.heap.objs.size+3+2=>h
  ·exact fI (by decide)
  ·exact fI (by decide) |> fun h:s1.heap.objs.size+1<s1.heap.objs.size+1+4=>h
  ·exact pT _ ha1
  ·exact pT _ hb1
 ·have hsz:({s1 with heap:=h'}:Shared).heap.objs.size=s1.heap.objs.size+5:=z6
  rw[hsz]at hS ha hP⊢;have hmin:min its.toArray.size its2.toArray.size=min xs.length ys.length:=by rw[aq,aq,e1,e2]
  rw[hmin]at ha hP;have kall:∀b u,s1.heap.get? b=some u->h''.get? b=some u:=fun b u e=>kp2 b u (fun hm=>by
   have hlt:=ay e;simp only[aD,bE,or_false]at hm;have ne:∀k:Nat,b≠s1.heap.objs.size+k:=fun k=>aH (pT k hlt);rcases hm with hm|hm|hm|hm
   ·exact ne 4 hm
   ·exact ne 3 hm
   ·exact ne 0 hm
   ·exact ne 1 hm) (kp b u e)
  have key:∀b o,zN (s1.heap.objs.size+5) (s1.heap.objs.size+5+1) (min xs.length ys.length) xs ys b=some o->s1.heap.objs.size<=b/\((b=s1.heap.objs.size+5/\o=.lst ((aA (min xs.length ys.length)).map fun j=>V.ref (s1.heap.objs.size+5+1+j)))\/
    ∃j,j<min xs.length ys.length/\b=s1.heap.objs.size+5+1+j/\o=.tup [xs.getD j .non,ys.getD j .non]):=fun b o hN=>by
   unfold zN at hN;split at hN
   ·rename_i hb
    cases hN;exact⟨by rw[hb];exact cY _ _,.inl ⟨hb,rfl⟩⟩
   ·split at hN
    ·rename_i hb
     cases hN;exact⟨aQ (aQ (cY _ 5) (gH _)) hb.1,.inr ⟨_,hb.2,(Nat.add_sub_cancel' hb.1).symm,rfl⟩⟩
    ·cases hN
  have at':∀{zs:List V}{j:Nat},j<zs.length->zs[j]? =some (zs.getD j .non):=fun h=>by rw[av,ag h];rfl
  refine⟨.ref _,ovr (zN (s1.heap.objs.size+5) (s1.heap.objs.size+5+1) (min xs.length ys.length) xs ys) H1,I1.lay (t':=s1.toks) kall fun b o hN=>⟨(key b o hN).1,?_⟩,rfl,q _ _ ((aA (min xs.length ys.length)).map fun j=>V.ref (s1.heap.objs.size+5+1+j)) (fun b o e=>?_) (I1.hok.fresh (cY _ _)) (rm (by unfold zN;rw[if_pos rfl])) (by simp) fun j x y hx hy=>⟨s1.heap.objs.size+5+1+j,?_,I1.hok.fresh (aQ (aQ (cY _ 5) (gH _)) (cY _ _)),rm ?_⟩⟩
  ·rcases(key b o hN).2 with⟨rfl,rfl⟩ |⟨j,hj,rfl,rfl⟩
   ·refine⟨?_,acc'.toList,c',by rw[ha];exact pY _ _,hS⟩
    rw[ai,cb,nB];omega
   ·obtain⟨u,hu,ru⟩:=r2.get (at' (zs:=xs) (j:=j) (by omega))
    obtain⟨u2,hu2,ru2⟩:=r3.get (at' (zs:=ys) (j:=j) (by omega));exact⟨by show 2<=sizeLine;decide,[u,u2],.cons ru (.cons ru2 .nil),⟨_,hP j hj u u2 (by simpa using hu) (by simpa using hu2),rfl,_,rfl⟩⟩
  ·cases e2:zN (s1.heap.objs.size+5) (s1.heap.objs.size+5+1) (min xs.length ys.length) xs ys b with
   |none=>rw[nI e2];exact e
   |some o'=>rw[I1.hok.fresh (key b o' e2).1]at e;cases e
  ·have hj1:j<xs.length:=(aR.mp hx).1
   have hj2:j<ys.length:=(aR.mp hy).1;rw[aW,dq (by omega)];rfl
  ·have hj1:j<xs.length:=(aR.mp hx).1
   have hj2:j<ys.length:=(aR.mp hy).1;unfold zN;rw[if_neg (dc (aO (cq _) (cY _ _))),xk,if_pos ⟨cY _ _,Nat.lt_min.mpr ⟨hj1,hj2⟩⟩,av,av,hx,hy];rfl
end
end L2
namespace Q
open PySem
noncomputable def iq(xs:Array Nat):Prop:=xs.toList.Pairwise (·<·)
structure Parts(xs:Array Nat)(j p:Nat):Prop where
 le:p<=xs.size
 lo:∀i x,i<p->xs[i]? =some x->x<j
 hi:∀i x,p<=i->xs[i]? =some x->j<=x
theorem nG{xs:Array Nat}(h:iq xs){i k x y:Nat}(hik:i<k)(hx:xs[i]? =some x)(hy:xs[k]? =some y):x<y:=by
 have hx':xs.toList[i]? =some x:=by simpa using hx
 have hy':xs.toList[k]? =some y:=by simpa using hy
 obtain⟨h1,e1⟩:=aR.mp hx';obtain⟨h2,e2⟩:=aR.mp hy';have :=bx.mp h i k h1 h2 hik;rw[e1,e2]at this;exact this
theorem oM{xs:Array Nat}(h:iq xs)(j:Nat):∀(fuel lo hi:Nat),hi-lo<=fuel->lo<=hi->hi<=xs.size->(∀i x,i<lo->xs[i]? =some x->x<j)->(∀i x,hi<=i->xs[i]? =some x->j<=x)->Parts xs j (sq xs j fuel lo hi)
 | 0,lo,hi,hf,hl,hs,a,b=>by
  have e:lo=hi:=by omega
  subst e;exact⟨hs,a,b⟩
 |fuel+1,lo,hi,hf,hl,hs,a,b=>by
  unfold sq;by_cases c:lo<hi
  ·rw[if_pos c]
   have hm:(lo+hi)/2<xs.size:=by omega
   have em:xs[(lo+hi)/2]? =some xs[(lo+hi)/2]:=by simp[hm]
   have eg:xs.getD ((lo+hi)/2) j=xs[(lo+hi)/2]:=by simp[Bk,hm]
   simp only[eg];by_cases d:xs[(lo+hi)/2]<j
   ·rw[if_pos d]
    refine oM h j fuel _ hi (by omega) (by omega) hs (fun i x hi' e=>?_) b;by_cases k:i=(lo+hi)/2
    ·subst k
     rw[em]at e;cases e;exact d
    ·exact j9 (nG h (by omega) e em) d
   ·rw[if_neg d]
    refine oM h j fuel lo _ (by omega) (by omega) (by omega) a fun i x hi' e=>?_;by_cases k:i=(lo+hi)/2
    ·subst k
     rw[em]at e;cases e;omega
    ·have :=nG h (by omega:(lo+hi)/2<i) em e
     omega
  ·rw[if_neg c]
   have e:lo=hi:=by omega
   subst e;exact⟨hs,a,b⟩
theorem gW{xs:Array Nat}(h:iq xs)(j:Nat):Parts xs j (bY xs j):=
 oM h j xs.size 0 xs.size (by omega) (aX _) (aw _) (fun i x hi _=>absurd hi (gP _)) fun i x hi e=>by
  have :=(cK.mp e).1
  omega
theorem uc{α:Type}(xs:Array α)(p:Nat)(x:α):(lS xs p x).toList=xs.toList.take p++x::xs.toList.drop p:=by
 unfold lS;simp;exact dw (by simp)
theorem tu{xs:Array Nat}{j:Nat}(h:iq xs)(hj:∀i:Nat,xs[i]? ≠some j):iq (lS xs (bY xs j) j):=by
 have P:=gW h j;unfold iq;rw[uc];have sub:=h;unfold iq at sub;rw[bU];refine⟨sub.sublist (fN _ _),iB.mpr ⟨fun y hy=>?_,sub.sublist (List.drop_sublist _ _)⟩,fun x hx y hy=>?_⟩
 ·obtain⟨i,hi⟩:=kE.mp hy
  rw[iC]at hi;have e:xs[bY xs j+i]? =some y:=by simpa using hi
  have :=P.hi _ _ (cY _ _) e
  have ne:y≠j:=fun z=>hj _ (z▸e);omega
 ·obtain⟨i,hi⟩:=kE.mp hx
  have hip:i<bY xs j:=by
   have :=(aR.mp hi).1
   rw[aF]at this;omega
  rw[uY hip]at hi;have e:xs[i]? =some x:=by simpa using hi
  have lx:=P.lo _ _ hip e;rcases aD.mp hy with rfl|hy
  ·exact lx
  ·obtain⟨k,hk⟩:=kE.mp hy
   rw[iC]at hk;have e2:xs[bY xs j+k]? =some y:=by simpa using hk
   have :=P.hi _ _ (cY _ _) e2
   omega
theorem v7{xs:Array Nat}(h:iq xs){i x:Nat}(e:xs[i]? =some x):bY xs (x+1)=i+1:=by
 have P:=gW h (x+1);have hi:=(cK.mp e).1;apply sr
 ·apply fe
  intro c;have hs:i+1<xs.size:=aO c P.le;have e2:xs[i+1]? =some xs[i+1]:=by simp[hs]
  have a:=P.lo _ _ c e2;have b:=nG h (cq i) e e2;omega
 ·apply fe
  intro c;have :=P.hi i x (by omega) e;omega
theorem vZ{xs:Array Nat}(h:iq xs):bY xs 0=0:=by
 have P:=gW h 0;apply sr _ (aX _);apply fe;intro c;have hs:0<xs.size:=aO c P.le;have :=P.lo 0 xs[0] c (by simp[hs]);omega
theorem yt{xs:Array Nat}(h:iq xs){i x:Nat}(e:xs[i]? =some x):bY xs x=i:=by
 have P:=gW h x;apply sr
 ·apply fe
  intro c;exact de _ (P.lo i x c e)
 ·apply fe
  intro c;have hs:bY xs x<xs.size:=j9 c (cK.mp e).1;have e2:xs[bY xs x]? =some xs[bY xs x]:=by simp[hs]
  have a:=P.hi _ _ (aw _) e2;have b:=nG h c e2 e;omega
theorem vi(n:Nat):iq (Array.range n):=by
 unfold iq;rw[Array.toList_range];exact xm
structure gL(t:be):Prop where
 up:iq t.place
 no:t.dummies= #[]
theorem slot_no{t:be}(T:gL t)(j:Nat):t.slot j≠.dummy:=by
 unfold be.slot;simp only[T.no];split
 ·simp
 ·split
  ·rename_i h
   exact absurd h (by simp[sC])
  ·simp
theorem xx{t:be}(T:gL t){j:Nat}(h:t.slot j=.empty):∀i:Nat,t.place[i]? ≠some j:=fun i e=>by
 have :=yt T.up e
 unfold be.slot at h;simp only[this,e,beq_self_eq_true,if_true]at h;cases h
theorem pQ(t:be)(p:be.Probe):(t.advance p).dummy=p.dummy:=by
 unfold be.advance;split <;>rfl
theorem oj{t:be}(T:gL t){f:Nat->Int}{h:Int}{j:Nat}{d:Option Nat}:∀(fuel:Nat)(p:be.Probe),p.dummy=none->jW t f h fuel p=some (.empty j d)->t.slot j=.empty/\d=none
 | 0,p,_,e=>by simp[jW]at e
 |fuel+1,p,hp,e=>by
  unfold jW at e;cases hs:t.slot p.j with
  |empty=>
   rw[hs]at e;simp only[fm,be.Met.empty.injEq]at e;exact⟨by rw[<-e.1];exact hs,by rw[<-e.2];exact hp⟩
  |dummy=>exact absurd hs (slot_no T _)
  |live i=>
   rw[hs]at e;simp only at e;split at e
   ·cases e
   ·exact oj T fuel _ (by rw[pQ];exact hp) e
theorem pK{t:be}(T:gL t){h:Int}{j:Nat}{b:Bool}(e:t.freeSlot h=some (j,b)):(∀i:Nat,t.place[i]? ≠some j)/\b=false:=by
 unfold be.freeSlot at e;split at e
 ·rename_i j' d hm
  unfold be.probe at hm;obtain⟨h1,h2⟩:=oj T _ _ (by rfl) hm;subst h2;simp only[nQ,Option.isSome_none,fm,Prod.mk.injEq]at e;obtain⟨rfl,rfl⟩:=e;exact⟨xx T h1,rfl⟩
 ·cases e
theorem gh(t:be)(n:Nat):gL (t.standIn n):=⟨vi n,rfl⟩
theorem zP{t:be}(T:gL t){j:Nat}(hj:∀i:Nat,t.place[i]? ≠some j):gL (t.put j).1:=by
 refine⟨tu T.up hj,?_⟩;show(if sC t.dummies j=true then _ else t.dummies)= #[];rw[T.no];simp[sC]
theorem oq{t:be}(T:gL t)(n:Nat):gL (t.orStandIn n):=by
 unfold xj;split
 ·exact T
 ·exact gh t n
theorem t8{t:be}(T:gL t)(es:Array (Int×Value))(h:Int)(x:Value):gL (layNew t es h x).2.1/\(layNew t es h x).2.2.1=false:=by
 unfold layNew;split
 ·rename_i j b e
  obtain⟨h1,h2⟩:=pK T e;subst h2;exact⟨oq (zP T h1) _,rfl⟩
 ·exact⟨gh t _,rfl⟩
theorem qm{mask finger moves:Nat}{led plain:Bool}{hashes:Array Int}{t:be}{order:Array Nat}(h:be.laid mask finger moves led plain hashes=some (t,order)):gL t/\t.led=led/\t.plain=plain:=by
 unfold be.laid at h;cases e:be.layClean mask hashes with
 |none=>rw[e]at h;cases h
 |some owner=>
  rw[e]at h;have h':some (({mask,place:=(((aA (mask+1)).filterMap fun j=>(owner.getD j none).map (j,·)).map (·.1)).toArray,dummies:= #[],finger,led,moves,plain}:be),(((aA (mask+1)).filterMap fun j=>(owner.getD j none).map (j,·)).map (·.2)).toArray)=some (t,order):=h;have h2:=(nO (bz h')).1;subst h2;refine⟨⟨?_,rfl⟩,rfl,rfl⟩;show((((aA (mask+1)).filterMap fun j=>(owner.getD j none).map (j,·)).map (·.1)).toArray).toList.Pairwise (·<·);rw[Bg,i5,List.pairwise_filterMap];refine xm.imp fun{a b} hab x hx y hy=>?_;cases ha:owner.getD a none with
  |none=>rw[ha]at hx;cases hx
  |some u=>
   cases hb:owner.getD b none with
   |none=>rw[hb]at hy;cases hy
   |some v=>
    rw[ha]at hx;rw[hb]at hy;cases hx;cases hy;exact hab
theorem pH(t:be)(es:Array (Int×Value))(wanted:Nat):gL (kQ t es wanted).2.1:=by
 unfold kQ;split
 ·rename_i t' order e
  simp only;split
  ·unfold Bc at e
   exact(qm e).1
  ·exact gh t _
 ·exact gh t _
theorem put_led(t:be)(j:Nat):(t.put j).1.led=t.led:=rfl
theorem pJ(t:be)(n:Nat):(t.orStandIn n).led=t.led:=by
 unfold xj;split <;>rfl
theorem vF(t:be)(es:Array (Int×Value))(h:Int)(x:Value):(layNew t es h x).2.1.led=t.led:=by
 unfold layNew;split
 ·exact(pJ _ _).trans (put_led _ _)
 ·rfl
theorem rf(t:be)(es:Array (Int×Value))(wanted:Nat):(kQ t es wanted).2.1.led=t.led:=by
 unfold kQ;split
 ·rename_i t' order e
  simp only;split
  ·unfold Bc at e
   exact(qm e).2.1
  ·rfl
 ·rfl
section
variable {prog:Program}{w:World}{K:Type}[DecidableEq K]{knd:KeyKind prog w K}{A:Around}{E:Value->Shared->Prop}{s:Shared}
noncomputable def nv(knd:KeyKind prog w K)(h:Heap)(a:Addr)(S:K->Bool)(n:Nat)(led:Bool):Prop:=
 ∃o es ep t,h.get? a=some o/\o.ExactSet/\o.data=.set es ep t/\ElemsOf knd es.toList/\(∀k,S k=true↔∃e∈es.toList,knd.is k e.2=true)/\es.size<eR/\t.fits es.size=true/\es.size=n/\gL t/\t.led=led
theorem oa{h:Heap}{a:Addr}{o:Obj}{es:Array (Int×Value)}{ep:Nat}{t:be}(ho:h.get? a=some o)(hx:o.ExactSet)(hd:o.data=.set es ep t){es':Array (Int×Value)}{t':be}{S':K->Bool}(hl:ElemsOf knd es'.toList)(hm:∀k,S' k=true↔∃e∈es'.toList,knd.is k e.2=true)(hb:es'.size<eR)(hf:t'.fits es'.size=true)(ht:gL t'):
  nv knd (h.update a (Obj.putSet es' t')) a S' es'.size t'.led:=by
 have g:=(SetOf_store (knd:=knd) ho hx hd hl hm hb hf).1;exact⟨_,es',ep+1,t',g,hx,rfl,hl,hm,hb,hf,rfl,ht,rfl⟩
theorem uF{g:Bool->Sem Unit}(hg:∀(b:Bool)(s₁:Shared)(Q':Unit->Shared->Prop),Q' () s₁->wpAny (model prog w) A (g b) Q' E s₁){a:Addr}{o:Obj}{es:Array (Int×Value)}{ep:Nat}{t:be}(ho:s.heap.get? a=some o)(hx:o.ExactSet)(hd:o.data=.set es ep t)
  {es1:Array (Int×Value)}{t2:be}{S':K->Bool}(hl:ElemsOf knd es1.toList)(hm:∀k',S' k'=true↔∃e∈es1.toList,knd.is k' e.2=true)(hb:es1.size<eR)(hf:t2.fits es1.size=true)(ht:gL t2){wasDummy:Bool}{R:Option Bool->Shared->Prop}
  (h:∀h',dy a s.heap h'->nv knd h' a S' es1.size t2.led->R (some true) {s with heap:=h'}):
  wpAny (model prog w) A (do
    storeSet a es1 t2
    if(!wasDummy&&t2.tooFull)=true then do
      g (kQ t2 es1 (dN es1.size)).2.2
      storeSet a (kQ t2 es1 (dN es1.size)).1 (kQ t2 es1 (dN es1.size)).2.1
      pure (some true)
     else pure (some true)) R E s:=by
 refine ae (wpAny_storeSet_of ho hd ?_ (jV hb));have ho1:=(SetOf_store (knd:=knd) ho hx hd hl hm hb hf).1;have x1:=oa (knd:=knd) ho hx hd hl hm hb hf ht;have sb:=fV s.heap a (Obj.putSet es1 t2);split
 ·have hp:=relayAll_perm t2 es1 (dN es1.size)
  have hr:=relayAll_fits t2 es1 (dN es1.size);have hT:=pH t2 es1 (dN es1.size);have hL:=rf t2 es1 (dN es1.size);generalize kQ t2 es1 (dN es1.size)=Rl at hp hr hT hL⊢;obtain⟨es2,t3,gave⟩:=Rl;dsimp only at hp hr hT hL⊢;have hz:es2.size=es1.size:=by rw[<-ax,hp.length_eq,ax]
  refine ae (hg _ _ _ (ae (wpAny_storeSet_of ho1 rfl ?_ (jV (by rw[hz];exact hb)))));have x2:=oa (knd:=knd) ho1 hx rfl (hl.perm hp) (fun k'=>(hm k').trans ⟨fun⟨e,he,q⟩=>⟨e,hp.mem_iff.mpr he,q⟩,fun⟨e,he,q⟩=>⟨e,hp.mem_iff.mp he,q⟩⟩) (by rw[hz];exact hb) hr hT;rw[hz,hL]at x2;exact ah (h _ (sb.trans (fV _ a _)) x2)
 ·exact ah (h _ sb x1)
theorem vq{t:be}(T:gL t):gL {t with plain:=false}:=⟨T.up,T.no⟩
theorem addX{a:Addr}{S:K->Bool}{n:Nat}{led:Bool}{k:K}{x:Value}{Q:Bool->Shared->Prop}(hk:knd.is k x=true)(hsc:x.scannable=true)(hS:nv knd s.heap a S n led)(hroom:n+1<eR)
  (h:∀h',dy a s.heap h'->nv knd h' a (fun k'=>S k'||decide (k'=k)) (if S k then n else n+1) led->Q (!S k) {s with heap:=h'}):
  wpAny (model prog w) A (setAddHashed a x (knd.hash k)) Q E s:=by
 obtain⟨o,es,ep,t,ho,hx,hd,hl,hm,hb,hf,hn,ht,he⟩:=hS;have hb1:es.size+1<eR:=by rw[hn];exact hroom
 unfold setAddHashed setAddHashedIn;refine cF (ae (cP ho hd hf ?_));dsimp only;rw[byScan_of hsc hb hl];simp only[↓reduceIte];unfold setAddByScan;refine ae ?_;refine ae (dZ (ae (wpAny_setScan_of hk ho hd hf hl ?_)));cases hr:List.findIdx? (fun e=>knd.is k e.2) es.toList with
 |some j=>
  dsimp only;obtain⟨hj,hp,_⟩:=List.findIdx?_eq_some_iff_getElem.mp hr;have hSk:S k=true:=(hm k).mpr ⟨es.toList[j],bL hj,hp⟩;refine ah (ah ?_);have :=h s.heap (uN a s.heap) ⟨o,es,ep,t,ho,hx,hd,hl,fun k'=>by
   rw[dm,decide_eq_true_eq,<-hm k'];exact⟨fun q=>q.elim id (fun e=>e▸hSk),.inl⟩,hb,hf,by rw[hSk];exact hn,ht,he⟩
  rw[hSk]at this;exact this
 |none=>
  dsimp only;have hSk:S k=false:=by
   cases q:S k with
   |false=>rfl
   |true=>
    obtain⟨e,m1,m2⟩:=(hm k).mp q;have :=List.findIdx?_eq_none_iff.mp hr e m1;rw[m2]at this;cases this
  have hw:∀(b:Bool){s₁:Shared}{Q':Unit->Shared->Prop},Q' () s₁->wpAny (model prog w) A (match b with |true=>rule "set.scan.the-table-gave-way" |false=>pure ()) Q' E s₁:=fun b s₁ Q' q=>by cases b<;>first |exact ah q|exact dZ q
  have hp:=layNew_perm t es (knd.hash k) x;have hfit:=layNew_fits t es (knd.hash k) x;have hT:=(t8 ht es (knd.hash k) x).1;have hL:=vF t es (knd.hash k) x;generalize layNew t es (knd.hash k) x=L at hp hfit hT hL⊢;obtain⟨es1,t1,wd,gave⟩:=L;dsimp only at hp hfit hT hL⊢;rw[dh]at hp;have l1:ElemsOf knd es1.toList:=(hl.push hk hsc).perm hp;have m1:∀k',(S k'||decide (k'=k))=true↔∃e∈es1.toList,knd.is k' e.2=true:=mem_push_iff hk hm hp;have z1:es1.size=n+1:=by rw[<-ax,hp.length_eq,aj,ax,hn];rfl
  have b1:es1.size<eR:=by rw[z1];exact hroom
  refine ae (hw _ ?_);have fin:∀h',dy a s.heap h'->nv knd h' a (fun k'=>S k'||decide (k'=k)) es1.size led->Q true {s with heap:=h'}:=fun h' sb x=>by
   have :=h h' sb
   rw[hSk]at this;rw[z1]at x;exact this x
  split
  ·refine ae ?_
   rw[hashByValue_scannable 8 hsc];refine ah (uF ?_ ho hx hd l1 m1 b1 ?_ ?_ ?_)
   ·intro b s₁ Q' q;cases b<;>first |exact ah q|exact dZ q
   ·split
    ·exact hfit
    ·exact be.fits_plain_off hfit
   ·split
    ·exact hT
    ·exact vq hT
   ·intro h' sb x
    refine ah (fin h' sb ?_);split at x
    ·rw[hL,he]at x;exact x
    ·have e2:({t1 with plain:=false}:be).led=led:=hL.trans he
     rw[e2]at x;exact x
  ·refine ae (ah ?_)
   simp only[↓reduceIte];refine uF ?_ ho hx hd l1 m1 b1 hfit hT ?_
   ·intro b s₁ Q' q;cases b<;>first |exact ah q|exact dZ q
   ·intro h' sb x
    rw[hL,he]at x;exact ah (fin h' sb x)
end
end Q
set_option maxHeartbeats 3200000
namespace Q
open PySem PySem.Spec PySem.W PyProof.Rows L2
section
variable {prog:Program}{w:World}{A:Around}{R:Result->Shared->Prop}{I:Addr}{fp wr:List Addr}{G:Array GenState->Array GenState->Prop}{n:Nat}{P:Nat->Value->Prop}{St:Nat->Shared->Prop}
theorem qd{led:Bool}(W:WalksS prog w A.in1 I fp wr G n P St)(S:Addr)(hSf:S∉fp)(ks:List Key)(hn:ks.length=n)(hv:∀i v,P i v->∃k,ks[i]? =some k/\RelV (kV k) v)(hb:n+1<eR):
  ∀(m i:Nat)(s:Shared),n-i=m->i<=n->St i s->nv (bH prog w) s.heap S (has (met (ks.take i))) (met (ks.take i)).length led->
   (∀s',Moved (S::wr) G s s'->nv (bH prog w) s'.heap S (has (met ks)) (met ks).length led->R (.ok (.ret .none)) s')->
   gZ (model prog w) A (.builtin "set.update.loop" ⟨[.ref S,.ref I],[]⟩) R s
 | 0,i,s,hm,hi,st,hS,hR=>by
  obtain rfl:i=n:=by omega
  rw[<-hn,eV]at hS;refine dP je ?_;rw[da eu _];show wpAny _ A.in1 (pyNext (.ref I)>>=_) _ _ s;refine ae (W.done s _ _ st fun s' mv=>?_);obtain⟨o,es,ep,t,ho,rest⟩:=hS;exact ah (hR s' (mv.mono fun b hb=>aI _ hb) ⟨o,es,ep,t,mv.heap S _ (fun z=>hSf (W.sub _ z)) ho,rest⟩)
 |m+1,i,s,hm,hi,st,hS,hR=>by
  have hlt:i<n:=by omega
  refine dP je ?_;rw[da eu _];show wpAny _ A.in1 (pyNext (.ref I)>>=_) _ _ s;refine ae (W.item i s _ _ hlt st fun v s' hP st' mv=>?_);obtain⟨k,hk,rv⟩:=hv i v hP;have hS1:nv (bH prog w) s'.heap S (has (met (ks.take i))) (met (ks.take i)).length led:=by
   obtain⟨o,es,ep,t,ho,rest⟩:=hS;exact⟨o,es,ep,t,mv.heap S _ (fun z=>hSf (W.sub _ z)) ho,rest⟩
  have hsc:v.scannable=true:=by
   cases k with
   |inl j=>obtain⟨t,rfl⟩:=rv;rfl
   |inr x=>obtain⟨t,rfl⟩:=rv;rfl
  show wpAny _ A.in1 (holding [v] (setAdd S v)>>=_) _ _ s';refine ae (cF ?_);unfold setAdd;refine cF (ae ((bH prog w).pyHash (k:=k) (ll rv) ?_));have hle:=Ax (ks.take i);rw[aF]at hle;refine addX (knd:=bH prog w) (led:=led) (s:={s' with toks:=s'.toks+1}) (ll rv) hsc hS1 (by omega) fun h' hsb hS2=>?_;have et:ks.take (i+1)=ks.take i++[k]:=by rw[fO,hk];rfl
  have hS3:nv (bH prog w) h' S (has (met (ks.take (i+1)))) (met (ks.take (i+1))).length led:=by
   rw[et,Av];obtain⟨o,es,ep,t,ho,hex,hd,hel,hmem,hbb,hf,hnn,htt⟩:=hS2;refine⟨o,es,ep,t,ho,hex,hd,hel,fun j=>?_,hbb,hf,by rw[tW];exact hnn,htt⟩;rw[<-hmem j,jO,tY,dm,jO,decide_eq_true_eq]
  refine ah ⟨gY eu _,qd W S hSf ks hn hv hb m (i+1) _ (by omega) hlt (W.frame _ s' _ _ st' (gH _) fun b hq o e=>?_) hS3 fun s'' mv2 hS4=>?_⟩
  ·rw[hsb.2 b (fun z:b=S=>hSf (by rw[<-z];exact hq))]
   exact e
  ·refine hR s'' (Moved.trans W.gtrans ((mv.mono fun b hb=>aI _ hb).then_heap (gH _) fun b o hq e=>?_) mv2) hS4
   rw[hsb.2 b (fun z:b=S=>hq (by rw[z];exact au))];exact e
end
section
variable {prog:Program}{w:World}{A:Around}{E:Value->Shared->Prop}{s:Shared}
theorem yk(a:Value){Q₁:Value->Shared->Prop}(h:Q₁ (.ref s.heap.objs.size) {s with heap:=s.heap.push (jh (!w.params.followText "set-order"))}):gZ (model prog w) A (.call (.builtin "set.__new__") ⟨[.type "set",a],[]⟩) (wants Q₁ E) s:=by
 refine codeAny_of_tree ?_;show wpAny _ A.in1 (do checkBuiltinCall "set.__new__" ⟨[.type "set",a],[]⟩;again (.builtin "set.__new__" ⟨[.type "set",a],[]⟩)) _ _ s;refine ae (wpAny_of_eq (F.newCall_set_1 a) (ah ⟨gY F.plain_set_new _,dP F.entry_set_new ?_⟩));rw[da F.plain_set_new _];unfold Builtin.«set.__new__» Builtin.Frozenset.newClass;have hsub:=sub_set_self;obtain⟨hp,g,d,tk,os⟩:=s;dsimp only;wp_walk;refine cI (ah ?_);dsimp only;simp only[newObj];exact ae (wpAny_alloc (ah (ah h)))
theorem xB{l:Addr}{items:Array Value}{P:Bool->Heap->Prop}{Q:Value->Shared->Prop}(hl:s.heap.IsList l items)
  (hloop:∀(led:Bool)(R:Result->Shared->Prop),(∀s',Moved (s.heap.objs.size::[(s.heap.push (jh led)).objs.size]) (fun a b=>b=a) {s with heap:=(s.heap.push (jh led)).push {cls:=.type "list_iterator",data:=.fields #[.ref l,.int 0 0]}} s'->P led s'.heap->R (.ok (.ret .none)) s')->gZ (model prog w) A.in1.in1 (.builtin "set.update.loop" ⟨[.ref s.heap.objs.size,.ref (s.heap.push (jh led)).objs.size],[]⟩) R {s with heap:=(s.heap.push (jh led)).push {cls:=.type "list_iterator",data:=.fields #[.ref l,.int 0 0]}})
  (h:∀(h':Heap)(tk:Nat),P (!w.params.followText "set-order") h'->(∀b o,b<s.heap.objs.size->s.heap.get? b=some o->h'.get? b=some o)->Q (.ref s.heap.objs.size) {s with heap:=h',toks:=tk}):
  wpAny (model prog w) A (call (.type "set") [.ref l]) Q E s:=by
 have c0:=F.called_set;obtain⟨c,tl,hmro⟩:=c0.mro;have f1:=c0.made;have f2:=c0.sub;have f3:=c0.notType;have f4:=c0.canCreate;have f5:=F.typeCall_set_1 (.ref l);refine wpAny_call (codeAny_of_tree ?_);show wpAny _ _ (callAny (.type "set") _) _ _ _;refine ah ⟨Code.quiet_builtin _ (by decide+kernel),dP F.entry_type_call ?_⟩;rw[Around.under_plain (weight_type_call_type "set" [.ref l] []) rfl];repeat(any_goals (first |assumption|wp_step))
 refine iZ (yk (.ref l) (E:=E) (Q₁:=fun obj s1=>∃led:Bool,led=(!w.params.followText "set-order")/\obj=.ref s.heap.objs.size/\s1={s with heap:=s.heap.push (jh led)}) ⟨_,rfl,rfl,rfl⟩) fun r s1 hr=>?_;rcases r with e|fl
 ·exact hr
 rcases fl with _|_|_|obj
 ·exact hr.elim
 ·exact hr.elim
 ·exact hr.elim
 obtain⟨led,hled,rfl,rfl⟩:=hr;rw[<-hled]at h;have hS:(s.heap.push (jh led)).get? s.heap.objs.size=some (jh led):=aE _ rfl;have hT:Shared.TypeIs {s with heap:=s.heap.push (jh led)} (.ref s.heap.objs.size) "set":=⟨_,hS,rfl⟩;have f6:=c0.init.lookup;have f7:=c0.init.bind (.ref s.heap.objs.size);repeat(any_goals (first |assumption|wp_step))
 refine iZ (codeAny_call_builtin (R:=wants (fun r s2=>r=.none/\∃h' tk,s2={s with heap:=h',toks:=tk}/\P led h'/\
  (∀b o,b<s.heap.objs.size->s.heap.get? b=some o->h'.get? b=some o)) E) c0.init.plain F.entry_set_init (check_set_init_1 hT ?_)) fun r2 s2 hr2=>?_
 ·obtain⟨ol,hol,hcl,nl,hdl⟩:=hl
  obtain⟨oc,od,odt,osl⟩:=ol;obtain rfl:oc=.type "list":=hcl;obtain rfl:odt=.seq items nl:=hdl;have hol':(s.heap.push (jh led)).get? l=some {cls:=.type "list",dict:=od,data:=.seq items nl,slots:=osl}:=af _ hol;have g1:=F.sub_list_set;have g2:=F.sub_list_frozenset;have g3:(iu "list"==iu "dict")=false:=by decide
  have hl1:(s.heap.push (jh led)).IsList l items:=⟨_,hol',rfl,nl,rfl⟩;unfold Builtin.«set.__init__» noKeywords Builtin.Frozenset.updateFrom;generalize hPI:pyIter=PI
  wp_walk
  subst hPI;refine jU hl1 (ae (wpAny_runValue ?_));have hlt:l<s.heap.objs.size:=ay hol;have hz:(s.heap.push (jh led)).objs.size=s.heap.objs.size+1:=cM _ _;refine hloop led _ fun s' mv hS'=>?_
  ·obtain⟨h',g',d',tk',os'⟩:=s'
   obtain rfl:g'=s.gens:=mv.gens;obtain rfl:d'=s.drawn:=mv.drawn;obtain rfl:os'=s.os:=mv.os;show wpAny _ _ _ _ _ _;refine ah ?_;show wpAny _ _ (ret bA) _ _ _;refine ah ⟨rfl,h',tk',rfl,hS',fun b o hq e=>mv.heap b o (fun z=>?_) (af _ (af _ e))⟩;rcases aD.mp z with z|z
   ·exact aH hq z
   ·exact aH (bu hq) ((aB.mp z).trans hz)
 ·rcases r2 with e|fl2
  ·exact hr2
  rcases fl2 with _|_|_|v
  ·exact hr2.elim
  ·exact hr2.elim
  ·exact hr2.elim
  obtain⟨rfl,h',tk,rfl,hS',hk'⟩:=hr2;repeat(any_goals (first |assumption|wp_step))
  exact h _ _ hS' hk'
theorem xA{l:Addr}{items:Array Value}{ks:List Key}{Q:Value->Shared->Prop}(hh:A.handled=none)(hl:s.heap.IsList l items)(hk:ks.length=items.size)
  (hv:∀(i:Nat)(v:Value),items[i]? =some v->∃k,ks[i]? =some k/\RelV (kV k) v)(hb:items.size+1<eR)
  (h:∀(h':Heap)(tk:Nat),nv (bH prog w) h' s.heap.objs.size (has (met ks)) (met ks).length (!w.params.followText "set-order")->(∀b o,b<s.heap.objs.size->s.heap.get? b=some o->h'.get? b=some o)->Q (.ref s.heap.objs.size) {s with heap:=h',toks:=tk}):
  wpAny (model prog w) A (call (.type "set") [.ref l]) Q E s:=by
 have hlt:l<s.heap.objs.size:=let⟨_,e,_⟩:=hl;ay e;refine xB (P:=fun led h=>nv (bH prog w) h s.heap.objs.size (has (met ks)) (met ks).length led) hl (fun led R hR=>?_) h;have h3:A.in1.in1.in1.handled=none:=by simp[hh]
 have hz:(s.heap.push (jh led)).objs.size=s.heap.objs.size+1:=cM _ _;have hne:l≠(s.heap.push (jh led)).objs.size:=by rw[hz];exact aH (bu hlt)
 have hnf:s.heap.objs.size∉[(s.heap.push (jh led)).objs.size,l]:=by
  rw[hz];intro z;rcases aD.mp z with z|z
  ·exact aH (cq _) z
  ·exact dc hlt (aB.mp z)
 have hS:(s.heap.push (jh led)).get? s.heap.objs.size=some (jh led):=aE _ rfl;refine qd (led:=led) ((Walks.list h3 _ l hne items).toS) s.heap.objs.size hnf ks hk hv hb (items.size-0) 0 _ (by omega) (aX _) ⟨⟨_,aE _ rfl,rfl,rfl⟩,(hl.push _).push _⟩ ?_ hR;exact⟨jh led,#[],0,_,af _ hS,⟨rfl,rfl,rfl⟩,rfl,fun e he=>by simp at he,fun k=>by simp[met,has],by decide,by rfl,rfl,⟨kh,rfl⟩,rfl⟩
end
end Q
set_option maxHeartbeats 1000000
namespace Q
open PySem
theorem kI{α:Type}:∀{l:List α}{i:Nat}(h:i<l.length),(l[i]::l.eraseIdx i).Perm l
 |a::l,0,_=>eD _
 |a::l,i+1,h=>by
  have hi:i<l.length:=by simpa using h
  have ih:=kI hi;show(l[i]::a::l.eraseIdx i).Perm (a::l);exact(Bj _ _ _).trans (ih.cons a)
theorem wF{α:Type}(next :Nat->Nat):∀(fuel k:Nat)(left:List α)(out:Array α),left.length<=fuel->(si next fuel k left out).toList.Perm (out.toList++left)
 | 0,k,left,out,h=>by
  have e:left=[]:=bQ.mp (by omega);subst e;simp[si]
 |fuel+1,k,left,out,h=>by
  unfold si;cases left with
  |nil=>simp
  |cons a l=>
   have hi:next k%(a::l).length<(a::l).length:=Nat.mod_lt _ (by simp)
   rw[ag hi];dsimp only;refine(wF next fuel (k+1) _ _ (by rw[sF hi];simp at h⊢;omega)).trans ?_;rw[dh,bt];exact List.Perm.append_left _ (kI hi)
theorem jL{α:Type}(next :Nat->Nat)(xs:Array α):(fB next xs).toList.Perm xs.toList:=by
 unfold fB;exact(wF next xs.size 0 xs.toList #[] (by simp)).trans (by simp)
section
variable {M:Model}{A:Around}{E:Value->Shared->Prop}
theorem pF{s:Shared}{src:Source}{n:Nat}{Q:Nat->Shared->Prop}(h:n≠0)(q:∀i d,i<n->Q i {s with drawn:=d}):wpAny M A (choose src n) Q E s:=fun Γ p hΓ=>by
 unfold choose;rw[Sem.wp_choose];exact⟨h,q _ _ (Nat.mod_lt _ (Nat.pos_of_ne_zero h))⟩
theorem qv{α:Type}:∀(n:Nat)(xs:List α)(s:Shared)(Q:List α->Shared->Prop),xs.length<=n->(∀ys d,ys.Perm xs->Q ys {s with drawn:=d})->wpAny M A (drawOrder n xs) Q E s
 | 0,xs,s,Q,h,q=>by
  have e:xs=[]:=bQ.mp (by omega);subst e;unfold drawOrder;exact ah (q [] s.drawn (eD _))
 |n+1,[],s,Q,h,q=>by
  unfold drawOrder;exact ah (q [] s.drawn (eD _))
 |n+1,a::l,s,Q,h,q=>by
  unfold drawOrder;refine ae (pF (by simp) fun i d hi=>?_);rw[ag hi];dsimp only;refine ae (qv n _ _ _ (by rw[sF hi];simp at h⊢;omega) fun ys d' hy=>ah ?_);exact q _ d' ((hy.cons _).trans (kI hi))
end
end Q
set_option maxHeartbeats 3200000
namespace Q
open PySem PySem.Spec PySem.W PyProof.Rows L2
theorem dQ:Slot "set_iterator" "__next__" "set_iterator.__next__":=
 .of (owner:="set_iterator") (n:="__next__") (by rw[lQ,gI];kernel_rfl) (by decide+kernel) (by decide+kernel) (by decide+kernel) (by first |exact .inl (by decide+kernel) |exact .inr (by decide+kernel)) (by rw[yz];kernel_rfl)
theorem kq:entryFor table "set_iterator.__next__"=some Builtin.«set_iterator.__next__»:=entryFor_of_tree (by kernel_rfl)
theorem lH(a:Value):argsOk "set_iterator.__next__" ⟨[a],[]⟩:=by unfold argsOk;kernel_rfl
theorem nr:entryFor table "set.__iter__"=some Builtin.«frozenset.__iter__»:=entryFor_alias (id':="frozenset.__iter__") (by kernel_rfl) rfl (by decide+kernel) (by kernel_rfl)
noncomputable abbrev siO(S:Addr)(first :Value)(i n ep:Nat):Obj:={cls:=.type "set_iterator",dict:=none,data:=.fields #[first,.int i 0,.ref S,.int n 0,.int ep 0],slots:= #[]}
section
variable {prog:Program}{w:World}{A:Around}{E:Value->Shared->Prop}{s:Shared}
noncomputable def fL(es:Array (Int×Value))(t:be):Bool:= !t.plain&&es.size>1
theorem kX{a:Addr}{o:Obj}{es:Array (Int×Value)}{ep:Nat}{t:be}{Q:Bool->Shared->Prop}(ho:s.heap.get? a=some o)(hd:o.data=.set es ep t)(hf:t.fits es.size=true)(h:Q (!w.params.followText "set-order"&&fL es t) s):
  wpAny (model prog w) A (setDrawn a) Q E s:=by
 unfold setDrawn jk;refine ae (cP ho hd hf ?_);dsimp only;refine ae (ae (cI (ah (ah ?_))));exact h
theorem AE{S:Addr}{o:Obj}{es:Array (Int×Value)}{ep:Nat}{t:be}{Q:Value->Shared->Prop}(ho:s.heap.get? S=some o)(hc:o.cls=.type "set")(hd:o.data=.set es ep t)(hf:t.fits es.size=true)(hsb:es.size<eR)
  (h1:(!w.params.followText "set-order"&&fL es t)=false->Q (.ref s.heap.objs.size) {s with heap:=s.heap.push (siO S (.int 0 0) 0 es.size ep)})
  (h2:(!w.params.followText "set-order"&&fL es t)=true->∀(ps:List Nat)(d:Drawn),ps.Perm (aA es.size)->Q (.ref (s.heap.objs.size+1)) {s with drawn:=d,heap:=(s.heap.push {cls:=.type "tuple",data:=.seq (ps.map fun(i:Nat)=>rawInt i).toArray}).push (siO S (.ref s.heap.objs.size) 0 es.size ep)}):
  wpAny (model prog w) A (pyIter (.ref S)) Q E s:=by
 have hT:s.TypeIs (.ref S) "set":=⟨o,ho,hc⟩;refine wpAny_pyIter_slot hT F.slot_set_iter (dF F.slot_set_iter hT nr ?_ (F.args_set_iter_1 _));unfold Builtin.«frozenset.__iter__» Builtin.Frozenset.slot0 Builtin.Frozenset.sizeOf
 wp_walk
 have hfc:(t.place.size != es.size||decide (t.fill>t.mask))=false:=by
  simp only[be.fits,aK,beq_iff_eq,decide_eq_true_eq]at hf;simp[hf.1,Nat.not_lt.mpr hf.2]
 rw[hd];dsimp only;rw[if_neg (by rw[hfc];decide)];refine ah (ah (ah ?_));refine ae (kX ho hd hf ?_);dsimp only;cases hb:(!w.params.followText "set-order"&&fL es t)with
 |false=>
  rw[if_neg (by decide)];refine ae (ah (ae (wpAny_setEpoch_of ho hd hf ?_)));refine ae (dv (ah ⟨_,rfl,"set_iterator",_,⟨_,aE _ rfl,rfl⟩,dQ.lookup,h1 hb⟩))
 |true=>
  rw[if_pos rfl];refine ae (qv _ _ _ _ (by simp) fun ps d hp=>?_);refine ae (dv ?_ (by show(ps.map fun(i:Nat)=>rawInt i).toArray.size<=sizeLine;rw[aq,ai,hp.length_eq,cb];exact jV hsb));have ho1:(s.heap.push {cls:=.type "tuple",data:=.seq (ps.map fun(i:Nat)=>rawInt i).toArray}).get? S=some o:=af _ ho;refine ae (wpAny_setEpoch_of (s:={s with drawn:=d,heap:=s.heap.push {cls:=.type "tuple",data:=.seq (ps.map fun(i:Nat)=>rawInt i).toArray}}) ho1 hd hf ?_);have hz:(s.heap.push {cls:=.type "tuple",data:=.seq (ps.map fun(i:Nat)=>rawInt i).toArray}).objs.size=s.heap.objs.size+1:=cM ..;refine ae (dv (ah ⟨_,rfl,"set_iterator",_,⟨_,aE _ rfl,rfl⟩,dQ.lookup,?_⟩));have :=h2 hb ps d hp;rw[<-hz]at this;exact this
end
section
variable {prog:Program}{w:World}{A:Around}{E:Value->Shared->Prop}{s:Shared}
structure gX(h:Heap)(S:Addr)(es:Array (Int×Value))(ep:Nat)(t:be):Prop where
 ob:∃o,h.get? S=some o/\o.cls=.type "set"/\o.data=.set es ep t
 fit:t.fits es.size=true
theorem gu{I S:Addr}{first :Value}{i ep:Nat}{es:Array (Int×Value)}{t:be}{Q:el->Shared->Prop}(hi:s.heap.get? I=some (siO S first i es.size ep))(hs:gX s.heap S es ep t)
  (h:wpAny (model prog w) A (match first with
   |.int slot _=>do
    match<-setNext S slot.toNat i ep with
    |some (x,next)=>do
     kP (.ref I) 0 (rawInt next)
     kP (.ref I) 1 (rawInt ((i:Int)+1))
     ret x
    |none=>do
     kP (.ref I) 2 .none
     raiseNew (<-newExc (.type "StopIteration") [])
   |_=>do
    let some places<-seqItems? first |unsupported "internal:set_iterator"
    match places[i]? with
    |some (.int place _)=>do
     let x<-setNextDrawn S place.toNat ep
     kP (.ref I) 1 (rawInt ((i:Int)+1))
     ret x
    |some _=>unsupported "internal:set_iterator"
    |none=>do
     kP (.ref I) 0 (rawInt 0)
     kP (.ref I) 2 .none
     raiseNew (<-newExc (.type "StopIteration") [])) Q E s):
  wpAny (model prog w) A (Builtin.«set_iterator.__next__» ⟨[.ref I],[]⟩) Q E s:=by
 obtain⟨⟨o,ho,hc,hd⟩,hf⟩:=hs;unfold Builtin.«set_iterator.__next__»;show wpAny _ _ (fieldsOf (.ref I)>>=_) _ _ _;refine ae (wpAny_fieldsOf hi rfl ?_);dsimp only;refine ae (wpAny_setEntries_of ho hd hf ?_);rw[if_neg (by simp)];exact h
theorem nextA{I S:Addr}{k i ep:Nat}{es:Array (Int×Value)}{t:be}{x:Int×Value}{Q:el->Shared->Prop}(hw:w.params.followText "set-order"=true)(hi:s.heap.get? I=some (siO S (.int k 0) i es.size ep))(hs:gX s.heap S es ep t)
  (hx:(fB (w.params.setOrder S ep) es)[i]? =some x)(h:∀h',h'.get? I=some (siO S (.int k 0) (i+1) es.size ep)->dy I s.heap h'->Q (.done (.ret x.2)) {s with heap:=h'}):
  wpAny (model prog w) A (Builtin.«set_iterator.__next__» ⟨[.ref I],[]⟩) Q E s:=by
 refine gu hi hs ?_;obtain⟨⟨o,ho,hc,hd⟩,hf⟩:=hs;dsimp only;refine ae ?_;unfold setNext jk;refine ae (cP ho hd hf ?_);dsimp only;refine ae (ae (cI (ah ?_)));dsimp only;rw[show(model prog w).w.params.followText "set-order"=true from hw];simp only[if_true,bne_self_eq_false,bh,if_false];refine ae ?_;unfold setWalk jk;refine ae (cP ho hd hf ?_);dsimp only;refine ae (ae (cI (ah ?_)));dsimp only;rw[show(model prog w).w.params.followText "set-order"=true from hw];simp only[if_true];refine ae (cI (ah (ah ?_)));rw[show(fB ({program:=(model prog w).prog,params:=(model prog w).w.params:Setting}.params.setOrder S ep) es)[i]? =some x from hx];simp only[Option.map_some,dk];refine ae (cn hi (by simp) fun h1 e1 s1=>?_);have e1:h1.get? I=some (siO S (.int k 0) i es.size ep):=e1;refine ae (cn e1 (by simp) fun h2 e2 s2=>?_);have e2:h2.get? I=some (siO S (.int k 0) (i+1) es.size ep):=e2;exact ah (h h2 e2 (s1.trans s2))
theorem nextB{I S:Addr}{k i ep:Nat}{es:Array (Int×Value)}{t:be}{x:Int×Value}{Q:el->Shared->Prop}(hw:w.params.followText "set-order"=false)(hdr:fL es t=false)(hled:t.led=true)(hi:s.heap.get? I=some (siO S (.int k 0) i es.size ep))(hs:gX s.heap S es ep t)
  (hk:bY t.place k=i)(hx:es[i]? =some x)(h:∀h' j,t.place[i]? =some j->h'.get? I=some (siO S (.int (j+1:Nat) 0) (i+1) es.size ep)->dy I s.heap h'->Q (.done (.ret x.2)) {s with heap:=h'}):
  wpAny (model prog w) A (Builtin.«set_iterator.__next__» ⟨[.ref I],[]⟩) Q E s:=by
 refine gu hi hs ?_;obtain⟨⟨o,ho,hc,hd⟩,hf⟩:=hs;dsimp only;refine ae ?_;unfold setNext jk;refine ae (cP ho hd hf ?_);dsimp only;refine ae (ae (cI (ah ?_)));dsimp only;rw[show(model prog w).w.params.followText "set-order"=false from hw];simp only[bh,if_false];have hsz:t.place.size=es.size:=by
  simp only[be.fits,aK,beq_iff_eq]at hf;exact hf.1
 have hil:i<es.size:=(cK.mp hx).1;have hj:t.place[i]? =some (t.place[i]'(by omega)):=by simp[show i<t.place.size by omega]
 rw[if_neg (fun z=>by have z':fL es t=true:=z;rw[hdr]at z';cases z')];refine ae (show wpAny _ _ (if(!t.led&& !es.isEmpty)=true then unsupported "set:maker-not-led" else pure ()) _ _ _ from ?_);rw[if_neg (by rw[hled];simp)];refine ah (ah ?_);simp only[dk,hk,hx,hj];refine ae (cn hi (by simp) fun h1 e1 s1=>?_);have e1:h1.get? I=some (siO S (.int (t.place[i]'(by omega)+1:Nat) 0) i es.size ep):=e1;refine ae (cn e1 (by simp) fun h2 e2 s2=>?_);have e2:h2.get? I=some (siO S (.int (t.place[i]'(by omega)+1:Nat) 0) (i+1) es.size ep):=e2;exact ah (h h2 _ hj e2 (s1.trans s2))
theorem nextC{I S T:Addr}{i ep p:Nat}{tk:Tok}{es:Array (Int×Value)}{t:be}{ps:Array Value}{m:Nat}{oT:Obj}{x:Int×Value}{Q:el->Shared->Prop}(hi:s.heap.get? I=some (siO S (.ref T) i es.size ep))(hs:gX s.heap S es ep t)
  (hT:s.heap.get? T=some oT)(hTd:oT.data=.seq ps m)(hp:ps[i]? =some (.int p tk))(hx:es[p]? =some x)(h:∀h',h'.get? I=some (siO S (.ref T) (i+1) es.size ep)->dy I s.heap h'->Q (.done (.ret x.2)) {s with heap:=h'}):
  wpAny (model prog w) A (Builtin.«set_iterator.__next__» ⟨[.ref I],[]⟩) Q E s:=by
 refine gu hi hs ?_;obtain⟨⟨o,ho,hc,hd⟩,hf⟩:=hs;dsimp only;refine ae (jj hT hTd ?_);simp only[hp,dk];refine ae ?_;unfold setNextDrawn;refine ae (cP ho hd hf ?_);simp only[bne_self_eq_false,bh,if_false,hx];refine ah ?_;refine ae (cn hi (by simp) fun h2 e2 s2=>?_);have e2:h2.get? I=some (siO S (.ref T) (i+1) es.size ep):=e2;exact ah (h h2 e2 s2)
end
section
variable {prog:Program}{w:World}{A:Around}{E:Value->Shared->Prop}{s:Shared}
theorem kG{α:Type}{Q:α->Shared->Prop}(hh:A.handled=none)(h:∀h' e,(∀c o,s.heap.get? c=some o->h'.get? c=some o)->(∃o,h'.get? e=some o/\o.cls=.type "StopIteration")->E (.ref e) {s with heap:=h'}):
  wpAny (model prog w) A (newExc (.type "StopIteration") []>>=fun x=>raiseNew x) Q E s:=by
 refine ae ?_;simp only[newExc,newTuple];refine ae (dv ?_ (by size_fits));refine ae (m:=firstArgMember _ _) (wpAny_of_eq (a:=bA) (by first |rfl| (simp only[firstArgMember];rfl)) ?_);refine dv ?_ (by size_fits);simp only[raiseNew];refine ae (wpAny_handled ?_);rw[hh];refine ae (ah (wpAny_throw ?_));exact h _ _ (fun c o e=>af _ (af _ e)) ⟨_,aE _ rfl,rfl⟩
noncomputable def Ends(E:Value->Shared->Prop)(I:Addr)(s:Shared):Prop:=∀h' e,(∀c o,c≠I->s.heap.get? c=some o->h'.get? c=some o)->(∃o,h'.get? e=some o/\o.cls=.type "StopIteration")->E (.ref e) {s with heap:=h'}
theorem endA{I S:Addr}{k ep:Nat}{es:Array (Int×Value)}{t:be}{Q:el->Shared->Prop}(hh:A.handled=none)(hw:w.params.followText "set-order"=true)(hi:s.heap.get? I=some (siO S (.int k 0) es.size es.size ep))(hs:gX s.heap S es ep t)(h:Ends E I s):
  wpAny (model prog w) A (Builtin.«set_iterator.__next__» ⟨[.ref I],[]⟩) Q E s:=by
 have hx:(fB (w.params.setOrder S ep) es)[es.size]? =none:=by
  have :=(jL (w.params.setOrder S ep) es).length_eq
  simp at this⊢;omega
 refine gu hi hs ?_;obtain⟨⟨o,ho,hc,hd⟩,hf⟩:=hs;dsimp only;refine ae ?_;unfold setNext jk;refine ae (cP ho hd hf ?_);dsimp only;refine ae (ae (cI (ah ?_)));dsimp only;rw[show(model prog w).w.params.followText "set-order"=true from hw];simp only[if_true,bne_self_eq_false,bh,if_false];refine ae ?_;unfold setWalk jk;refine ae (cP ho hd hf ?_);dsimp only;refine ae (ae (cI (ah ?_)));dsimp only;rw[show(model prog w).w.params.followText "set-order"=true from hw];simp only[if_true];refine ae (cI (ah (ah ?_)));rw[show(fB ({program:=(model prog w).prog,params:=(model prog w).w.params:Setting}.params.setOrder S ep) es)[es.size]? =none from hx];simp only[Option.map_none];refine ae (cn hi (by simp) fun h1 e1 s1=>?_);exact kG (s:={s with heap:=h1}) hh fun h' e kp he=>h h' e (fun c o c1 q=>kp c o (s1.extBut c o c1 q)) he
theorem endB{I S:Addr}{k ep:Nat}{es:Array (Int×Value)}{t:be}{Q:el->Shared->Prop}(hh:A.handled=none)(hw:w.params.followText "set-order"=false)(hdr:fL es t=false)(hled:t.led=true)(hi:s.heap.get? I=some (siO S (.int k 0) es.size es.size ep))(hs:gX s.heap S es ep t)
  (hk:bY t.place k=es.size)(h:Ends E I s):wpAny (model prog w) A (Builtin.«set_iterator.__next__» ⟨[.ref I],[]⟩) Q E s:=by
 refine gu hi hs ?_;obtain⟨⟨o,ho,hc,hd⟩,hf⟩:=hs;dsimp only;refine ae ?_;unfold setNext jk;refine ae (cP ho hd hf ?_);dsimp only;refine ae (ae (cI (ah ?_)));dsimp only;rw[show(model prog w).w.params.followText "set-order"=false from hw];simp only[bh,if_false];rw[if_neg (fun z=>by have z':fL es t=true:=z;rw[hdr]at z';cases z')];refine ae (show wpAny _ _ (if(!t.led&& !es.isEmpty)=true then unsupported "set:maker-not-led" else pure ()) _ _ _ from ?_);rw[if_neg (by rw[hled];simp)];refine ah (ah ?_);have hn:es[es.size]? =none:=by simp
 simp only[dk,hk,hn];refine ae (cn hi (by simp) fun h1 e1 s1=>?_);exact kG (s:={s with heap:=h1}) hh fun h' e kp he=>h h' e (fun c o c1 q=>kp c o (s1.extBut c o c1 q)) he
theorem endC{I S T:Addr}{ep:Nat}{es:Array (Int×Value)}{t:be}{ps:Array Value}{m:Nat}{oT:Obj}{Q:el->Shared->Prop}(hh:A.handled=none)(hi:s.heap.get? I=some (siO S (.ref T) es.size es.size ep))(hs:gX s.heap S es ep t)(hT:s.heap.get? T=some oT)(hTd:oT.data=.seq ps m)(hp:ps.size=es.size)(h:Ends E I s):
  wpAny (model prog w) A (Builtin.«set_iterator.__next__» ⟨[.ref I],[]⟩) Q E s:=by
 refine gu hi hs ?_;dsimp only;refine ae (jj hT hTd ?_);have hn:ps[es.size]? =none:=by simp;omega
 simp only[hn];refine ae (cn hi (by simp) fun h1 e1 s1=>?_);have e1:h1.get? I=some (siO S (.int 0 0) es.size es.size ep):=e1;refine ae (cn e1 (by simp) fun h2 e2 s2=>?_);exact kG (s:={s with heap:=h2}) hh fun h' e kp he=>h h' e (fun c o c1 q=>kp c o (s2.extBut c o c1 (s1.extBut c o c1 q))) he
end
theorem k7:Slot "set_iterator" "__iter__" "set_iterator.__iter__":=
 .of (owner:="set_iterator") (n:="__iter__") (by rw[lQ,gI];kernel_rfl) (by decide+kernel) (by decide+kernel) (by decide+kernel) (by first |exact .inl (by decide+kernel) |exact .inr (by decide+kernel)) (by rw[yz];kernel_rfl)
theorem pL:entryFor table "set_iterator.__iter__"=some Builtin.«dict_keyiterator.__iter__»:=
 entryFor_alias (id':="dict_keyiterator.__iter__") (by kernel_rfl) (by first |rfl|decide+kernel) (by decide+kernel) (by kernel_rfl)
theorem r6(a:Value):argsOk "set_iterator.__iter__" ⟨[a],[]⟩:=by unfold argsOk;kernel_rfl
section
variable {prog:Program}{w:World}{A:Around}{E:Value->Shared->Prop}{s:Shared}
theorem qW{I:Addr}{Q:Option Value->Shared->Prop}(hT:s.TypeIs (.ref I) "set_iterator")(h:∀(Q':el->Shared->Prop)(E':Value->Shared->Prop),(∀v h',Q (some v) {s with heap:=h'}->Q' (.done (.ret v)) {s with heap:=h'})->wpAny (model prog w) A.in1 (Builtin.«set_iterator.__next__» ⟨[.ref I],[]⟩) Q' E' s):
  wpAny (model prog w) A (pyNext (.ref I)) Q E s:=by
 unfold pyNext;exact ae (j6 (fW (name:=eY "__next__") hT dQ (dF dQ hT kq (h _ _ fun v h' q=>⟨_,rfl,ah q⟩) (lH _))))
theorem qX{I:Addr}{Q:Option Value->Shared->Prop}(hT:s.TypeIs (.ref I) "set_iterator")(h:∀(Q':el->Shared->Prop)(E':Value->Shared->Prop),(∀h' e,(∀c o,c≠I->s.heap.get? c=some o->h'.get? c=some o)->(∃o,h'.get? e=some o/\o.cls=.type "StopIteration")->E' (.ref e) {s with heap:=h'})->wpAny (model prog w) A.in1 (Builtin.«set_iterator.__next__» ⟨[.ref I],[]⟩) Q' E' s)
  (q:∀h',(∀c o,c≠I->s.heap.get? c=some o->h'.get? c=some o)->Q none {s with heap:=h'}):wpAny (model prog w) A (pyNext (.ref I)) Q E s:=by
 unfold pyNext;refine ae (j6 (fW (name:=eY "__next__") hT dQ (dF dQ hT kq (h _ _ fun h' e kp he=>?_) (lH _))));obtain⟨o,e1,e2⟩:=he;exact ae (uI (T:="StopIteration") (b:=true) ⟨o,e1,e2⟩ isSubtype_stop (ah (q _ kp)))
theorem qV{I:Addr}{Q:Value->Shared->Prop}(hT:s.TypeIs (.ref I) "set_iterator")(h:Q (.ref I) s):wpAny (model prog w) A (pyIter (.ref I)) Q E s:=by
 refine wpAny_pyIter_slot hT k7 (dF k7 hT pL ?_ (r6 _));show wpAny _ _ (ret (.ref I)) _ _ s;exact ah ⟨_,rfl,"set_iterator",_,hT,dQ.lookup,h⟩
end
theorem gX.at{h h':Heap}{S:Addr}{es:Array (Int×Value)}{ep:Nat}{t:be}(x:gX h S es ep t)(k:∀o,h.get? S=some o->h'.get? S=some o):gX h' S es ep t:=let⟨⟨o,a,b,c⟩,f⟩:=x;⟨⟨o,k o a,b,c⟩,f⟩
variable {prog:Program}{w:World}{A:Around}
theorem walkA(hh:A.handled=none)(hw:w.params.followText "set-order"=true){I S:Addr}(ne:S≠I)(es:Array (Int×Value))(ep:Nat)(t:be):
  Walks prog w A I [I,S] [I] es.size (fun i v=>((fB (w.params.setOrder S ep) es).toList.map (·.2))[i]? =some v) (fun i h=>gX h S es ep t/\∃k:Nat,h.get? I=some (siO S (.int k 0) i es.size ep)) where
 sub:=fun b hb=>by simp at hb⊢;exact .inl hb
 frame:=fun i h h' ⟨x,k,e⟩ kp=>⟨x.at fun o q=>kp S (by simp) o q,k,kp I (by simp) _ e⟩
 item:=fun i s Q E hi ⟨x,k,e⟩ hQ=>by
  have hl:=(jL (w.params.setOrder S ep) es).length_eq;simp only[ax]at hl;have hx:(fB (w.params.setOrder S ep) es)[i]? =some ((fB (w.params.setOrder S ep) es)[i]'(by omega)):=by simp[show i<(fB (w.params.setOrder S ep) es).size by omega]
  refine qW ⟨_,e,rfl⟩ fun Q' E' q=>nextA hw e x hx fun h' e' sb=>q _ h' ?_;exact hQ _ h' s.toks (by simp[hx]) ⟨x.at fun o z=>sb.extBut S o ne z,k,e'⟩ fun b o hb z=>sb.extBut b o (by simpa using hb) z
 done:=fun s Q E ⟨x,k,e⟩ hQ=>qX ⟨_,e,rfl⟩ (fun Q' E' q=>endA (by simp[hh]) hw e x q) fun h' kp=>hQ h' s.toks fun b o hb z=>kp b o (by simpa using hb) z
 self:=fun i s Q E ⟨x,k,e⟩ q=>qV ⟨_,e,rfl⟩ q
theorem walkB(hh:A.handled=none)(hw:w.params.followText "set-order"=false){I S:Addr}(ne:S≠I)(es:Array (Int×Value))(ep:Nat)(t:be)(hd:fL es t=false)(hl:t.led=true)(hT:gL t):
  Walks prog w A I [I,S] [I] es.size (fun i v=>(es.toList.map (·.2))[i]? =some v) (fun i h=>gX h S es ep t/\∃k:Nat,bY t.place k=i/\h.get? I=some (siO S (.int k 0) i es.size ep)) where
 sub:=fun b hb=>by simp at hb⊢;exact .inl hb
 frame:=fun i h h' ⟨x,k,hk,e⟩ kp=>⟨x.at fun o q=>kp S (by simp) o q,k,hk,kp I (by simp) _ e⟩
 item:=fun i s Q E hi ⟨x,k,hk,e⟩ hQ=>by
  have hx:es[i]? =some es[i]:=by simp[hi]
  refine qW ⟨_,e,rfl⟩ fun Q' E' q=>nextB hw hd hl e x hk hx fun h' j hj e' sb=>q _ h' ?_;exact hQ _ h' s.toks (by simp[hx]) ⟨x.at fun o z=>sb.extBut S o ne z,j+1,v7 hT.up hj,e'⟩ fun b o hb z=>sb.extBut b o (by simpa using hb) z
 done:=fun s Q E ⟨x,k,hk,e⟩ hQ=>qX ⟨_,e,rfl⟩ (fun Q' E' q=>endB (by simp[hh]) hw hd hl e x hk q) fun h' kp=>hQ h' s.toks fun b o hb z=>kp b o (by simpa using hb) z
 self:=fun i s Q E ⟨x,k,hk,e⟩ q=>qV ⟨_,e,rfl⟩ q
theorem walkC(hh:A.handled=none){I S T:Addr}(ne:S≠I)(neT:T≠I)(es:Array (Int×Value))(ep:Nat)(t:be)(ps:List Nat)(hp:ps.Perm (aA es.size)):
  Walks prog w A I [I,S,T] [I] es.size (fun i v=>(ps.map fun p=>(es.getD p (0,.none)).2)[i]? =some v) (fun i h=>gX h S es ep t/\h.get? T=some {cls:=.type "tuple",data:=.seq (ps.map fun(i:Nat)=>rawInt i).toArray}/\h.get? I=some (siO S (.ref T) i es.size ep)) where
 sub:=fun b hb=>by simp at hb⊢;exact .inl hb
 frame:=fun i h h' ⟨x,z,e⟩ kp=>⟨x.at fun o q=>kp S (by simp) o q,kp T (by simp) _ z,kp I (by simp) _ e⟩
 item:=fun i s Q E hi ⟨x,z,e⟩ hQ=>by
  have hl:ps.length=es.size:=by rw[hp.length_eq,cb]
  have hil:i<ps.length:=by omega
  have hm:ps[i]<es.size:=cC.mp (hp.mem_iff.mp (bL hil));have hx:es[ps[i]]? =some es[ps[i]]:=by simp[hm]
  refine qW ⟨_,e,rfl⟩ fun Q' E' q=>nextC (p:=ps[i]) (tk:=0) e x z rfl (by simp[hil,rawInt]) hx fun h' e' sb=>q _ h' ?_;exact hQ _ h' s.toks (by simp[hil,hm,Bk]) ⟨x.at fun o y=>sb.extBut S o ne y,sb.extBut T _ neT z,e'⟩ fun b o hb y=>sb.extBut b o (by simpa using hb) y
 done:=fun s Q E ⟨x,z,e⟩ hQ=>qX ⟨_,e,rfl⟩ (fun Q' E' q=>endC (by simp[hh]) e x z rfl (by simp[hp.length_eq]) q) fun h' kp=>hQ h' s.toks fun b o hb y=>kp b o (by simpa using hb) y
 self:=fun i s Q E ⟨x,z,e⟩ q=>qV ⟨_,e,rfl⟩ q
end Q
namespace Q
open PySem PySem.Spec PySem.W PyProof.Rows L2
section
variable {prog:Program}{w:World}{A:Around}{E:Value->Shared->Prop}{s:Shared}
theorem ite_yes{α:Type}{M:Model}{b:Bool}{x y:Sem α}{Q:α->Shared->Prop}(hb:b=true)(h:wpAny M A x Q E s):wpAny M A (if b=true then x else y) Q E s:=by rw[if_pos hb];exact h
theorem ud{S:Addr}{Q:Bool->Shared->Prop}(hT:s.TypeIs (.ref S) "set")(h:Q false s):wpAny (model prog w) A (d8 (.ref S)) Q E s:=by
 unfold d8;refine ae (lO hT F.slot_set_len.lookup ?_);generalize hid:("set.__len__":String)=id0
 (fail_if_success (clear hid id0))
 wp_delta
 rw[show splitId id0=some ("set","__len__")from by subst hid;decide+kernel];subst hid;refine ae (uI (b:=true) hT (by rw[yz];kernel_rfl) ?_);rw[if_neg (by decide)];refine ite_yes (by decide+kernel) (ae (wpAny_typeOf hT ?_));exact ah h
noncomputable abbrev f9(acc:Array Value)(c:Nat):Obj:={cls:=.type "list",dict:=none,data:=.seq acc c,slots:= #[]}
theorem touch{L:Addr}{acc:Array Value}{c:Nat}{Q:Unit->Shared->Prop}(hL:s.heap.get? L=some (f9 acc c))(hz:acc.size<=5000)(h:∀h' c',h'.get? L=some (f9 acc c')->dy L s.heap h'->Q () {s with heap:=h'}):wpAny (model prog w) A (iE (.ref L)) Q E s:=by
 have hz1:acc.size<=sizeLine:=aQ hz (by decide);unfold iE;refine ae (j7 hL rfl ?_ hz1 (by simp;omega));have e1:∃c1,(s.heap.update L (b9 fun x=>x.push bA)).get? L=some (f9 (acc.push .none) c1):=⟨_,by rw[cA _ hL rfl];rfl⟩;obtain⟨c1,e1⟩:=e1;refine j7 (s:={s with heap:=s.heap.update L (b9 fun x=>x.push bA)}) e1 rfl ?_ (by simp;exact aQ (by omega:acc.size+1<=5001) (by decide)) (by simp;omega);have e2:∃c2,((s.heap.update L (b9 fun x=>x.push bA)).update L (b9 fun x=>x.pop)).get? L=some (f9 acc c2):=⟨_,by rw[cA _ e1 rfl];simp[b9];rfl⟩;obtain⟨c2,e2⟩:=e2;exact h _ c2 e2 ((fV ..).trans (fV ..))
theorem oD{L I:Addr}{fp wr:List Addr}{n:Nat}{P:Nat->Value->Prop}{St:Nat->Heap->Prop}{res:Value}{c:Nat}{R:Result->Shared->Prop}{Qf:el->Shared->Prop}(hq:∀c' s',c'.quiet=true/\gZ (model prog w) A c' R s'->Qf (.again c') s')(W:Walks prog w A.in1 I fp wr n P St)(hn:n<=sizeLine)(hLf:L∉fp)(hL:s.heap.get? L=some (f9 #[] c))(st:St 0 s.heap)
  (h:∀s' acc c',(∀b o,b∉L::wr->s.heap.get? b=some o->s'.heap.get? b=some o)->s'.gens=s.gens->s'.drawn=s.drawn->s'.os=s.os->s'.heap.get? L=some (f9 acc c')->ItemsOf P acc n->R (.ok (.ret res)) s'):
  wpAny (model prog w) A.in1 (do
   rule "list.extend.makes-room"
   let __r<-iE (.ref L)
   (fun(__r:Unit)=>again (Code.builtin "list.extend.loop" {pos:=[bo L,bo I,res]})) __r) Qf E s:=by
 refine ae (dZ (ae (touch hL (by simp) fun h1 c1 e1 sb=>?_)));have st1:=W.frame 0 s.heap h1 st fun b hb o e=>sb.extBut b o (fun z=>hLf (z▸hb)) e;refine ah (hq _ _ ⟨gY fE _,codeAny_extend_loopS W.toS hn _ hLf _ n 0 _ _ _ rfl (aX _) st1 e1 (ItemsOf.nil P) fun s' acc' c' hm hS' hacc=>?_⟩);exact h s' acc' c' (fun b o hb e=>hm.heap b o hb (sb.extBut b o (fun z=>hb (by rw[z];exact au)) e)) hm.gens hm.drawn hm.os hS' hacc
end
theorem vG{vs:List Value}{acc:Array Value}(h:ItemsOf (fun i v=>vs[i]? =some v) acc vs.length):acc.toList=vs:=by
 obtain⟨h1,h2⟩:=h;apply cX
 ·simpa using h1
 ·intro i a b
  have :vs[i]? =some acc[i]:=h2 i acc[i] (by simp);rw[ag b]at this;simpa using(bz this).symm
theorem es_map(es:Array (Int×Value)):((aA es.size).map fun p=>(es.getD p (0,.none)).2)=es.toList.map (·.2):=by
 apply cX
 ·simp
 ·intro i a b
  have hi:i<es.size:=by simpa using a
  simp[hi,Bk]
section
variable {prog:Program}{w:World}{A:Around}{E:Value->Shared->Prop}{s:Shared}
theorem uq{S:Addr}{o:Obj}{es:Array (Int×Value)}{ep:Nat}{t:be}{Q:List Value->Shared->Prop}(hh:A.handled=none)(ho:s.heap.get? S=some o)(hc:o.cls=.type "set")(hd:o.data=.set es ep t)(hf:t.fits es.size=true)(hsb:es.size<eR)(hT:gL t)(hled:w.params.followText "set-order"=false->t.led=true)
  (hQ:∀(vs:List Value) s',vs.Perm (es.toList.map (·.2))->(∀b o,s.heap.get? b=some o->s'.heap.get? b=some o)->s'.gens=s.gens->s'.os=s.os->s.heap.objs.size<s'.heap.objs.size->Q vs s'):wpAny (model prog w) A (collect (.ref S)) Q E s:=by
 have hSl:S<s.heap.objs.size:=ay ho;have hn:es.size<=sizeLine:=jV hsb;unfold collect;refine ae (wpAny_runValue (dP F.entry_proto_collect ?_));rw[da F.plain_proto_collect _];show wpAny _ A.in1 (newList []>>=fun l=>again (.builtin "list.__iadd__" ⟨[l,.ref S],[]⟩)) _ _ s;refine ae (dv ?_);refine ah ⟨gY F.plain_list_iadd _,dP F.entry_list_iadd ?_⟩;rw[da F.plain_list_iadd _];have hL:(s.heap.push (f9 #[] 0)).get? s.heap.objs.size=some (f9 #[] 0):=aE _ rfl;have ho1:(s.heap.push (f9 #[] 0)).get? S=some o:=af _ ho;have hz:(s.heap.push (f9 #[] 0)).objs.size=s.heap.objs.size+1:=cM ..;have hT1:Shared.TypeIs {s with heap:=s.heap.push (f9 #[] 0)} (.ref S) "set":=⟨o,ho1,hc⟩;show wpAny _ A.in1 (cB (.ref s.heap.objs.size) (.ref S) (.ref s.heap.objs.size)) _ _ {s with heap:=s.heap.push (f9 #[] 0)};unfold cB;refine ae (wpAny_typeOf hT1 ?_);rw[if_neg (by simp[gK];exact dc hSl)];have fin:∀(vs:List Value)(s':Shared)(acc:Array Value)(c':Nat),vs.length=es.size->vs.Perm (es.toList.map (·.2))->(∀b o,s.heap.get? b=some o->s'.heap.get? b=some o)->s'.gens=s.gens->s'.os=s.os->s'.heap.get? s.heap.objs.size=some (f9 acc c')->ItemsOf (fun i v=>vs[i]? =some v) acc es.size->
   wpAny (model prog w) A (load s.heap.objs.size>>=fun x=>match x.data with |.seq xs _=>pure xs.toList|_=>unsupported "internal:collect") Q E s':=fun vs s' acc c' hl hp k1 k2 k3 e it=>by
  refine ae (wpAny_load e ?_);rw[<-hl]at it;have :=vG it;exact ah (by rw[this];exact hQ vs s' hp k1 k2 k3 (ay e))
 refine ae (AE ho1 hc hd hf hsb (fun hm=>?_) fun hm ps d hp=>?_)
 ·rw[hz]
  refine ae (cF (ud ⟨o,af _ ho1,hc⟩ ?_));refine ite_yes (by decide+kernel) ?_;have hI:((s.heap.push (f9 #[] 0)).push (siO S (.int 0 0) 0 es.size ep)).get? (s.heap.objs.size+1)=some (siO S (.int 0 0) 0 es.size ep):=by rw[<-hz];exact aE _ rfl
  have hSA:gX ((s.heap.push (f9 #[] 0)).push (siO S (.int 0 0) 0 es.size ep)) S es ep t:=⟨⟨o,af _ ho1,hc,hd⟩,hf⟩;have nfp:s.heap.objs.size∉[s.heap.objs.size+1,S]:=by
   simp only[aD,bE,or_false,not_or];exact⟨aH (cq _),dc hSl⟩
  have kp:∀(s':Shared),(∀b o,b∉s.heap.objs.size::[s.heap.objs.size+1]->((s.heap.push (f9 #[] 0)).push (siO S (.int 0 0) 0 es.size ep)).get? b=some o->s'.heap.get? b=some o)->∀b o,s.heap.get? b=some o->s'.heap.get? b=some o:=fun s' k b o e=>by
   have hb:=ay e;refine k b o ?_ (af _ (af _ e));simp only[aD,bE,or_false,not_or];exact⟨aH hb,aH (bu hb)⟩
  cases hw:w.params.followText "set-order" with
  |true=>
   have hl:((fB (w.params.setOrder S ep) es).toList.map (·.2)).length=es.size:=by
    have :=(jL (w.params.setOrder S ep) es).length_eq
    simpa using this
   refine oD (s:={s with heap:=(s.heap.push (f9 #[] 0)).push (siO S (.int 0 0) 0 es.size ep)}) (fun c' s' h=>h) (walkA (A:=A.in1) (by simp[hh]) hw (aH (bu hSl)) es ep t) hn nfp (af _ hL) ⟨hSA,0,hI⟩ fun s' acc c' k1 k2 k3 k4 e it=>?_;exact fin _ s' acc c' hl ((jL (w.params.setOrder S ep) es).map _) (kp s' k1) k2 k4 e it
  |false=>
   have hdr:fL es t=false:=by rw[hw]at hm;simpa using hm
   refine oD (s:={s with heap:=(s.heap.push (f9 #[] 0)).push (siO S (.int 0 0) 0 es.size ep)}) (fun c' s' h=>h) (walkB (A:=A.in1) (by simp[hh]) hw (aH (bu hSl)) es ep t hdr (hled hw) hT) hn nfp (af _ hL) ⟨hSA,0,vZ hT.up,hI⟩ fun s' acc c' k1 k2 k3 k4 e it=>?_;exact fin _ s' acc c' (by simp) (eD _) (kp s' k1) k2 k4 e it
 ·rw[hz]
  have hz2:((s.heap.push (f9 #[] 0)).push {cls:=.type "tuple",data:=.seq (ps.map fun(i:Nat)=>rawInt i).toArray}).objs.size=s.heap.objs.size+1+1:=by rw[cM,hz]
  have hT2:((s.heap.push (f9 #[] 0)).push {cls:=.type "tuple",data:=.seq (ps.map fun(i:Nat)=>rawInt i).toArray}).get? (s.heap.objs.size+1)=some {cls:=.type "tuple",data:=.seq (ps.map fun(i:Nat)=>rawInt i).toArray}:=by rw[<-hz];exact aE _ rfl
  have ho2:((s.heap.push (f9 #[] 0)).push {cls:=.type "tuple",data:=.seq (ps.map fun(i:Nat)=>rawInt i).toArray}).get? S=some o:=af _ ho1;have hL2:((s.heap.push (f9 #[] 0)).push {cls:=.type "tuple",data:=.seq (ps.map fun(i:Nat)=>rawInt i).toArray}).get? s.heap.objs.size=some (f9 #[] 0):=af _ hL;have kp2:∀b o,s.heap.get? b=some o->((s.heap.push (f9 #[] 0)).push {cls:=.type "tuple",data:=.seq (ps.map fun(i:Nat)=>rawInt i).toArray}).get? b=some o:=fun b o e=>af _ (af _ e);generalize(s.heap.push (f9 #[] 0)).push {cls:=.type "tuple",data:=.seq (ps.map fun(i:Nat)=>rawInt i).toArray}=h2 at *;refine ae (cF (ud ⟨o,af _ ho2,hc⟩ ?_));refine ite_yes (by decide+kernel) ?_;have hI:(h2.push (siO S (.ref (s.heap.objs.size+1)) 0 es.size ep)).get? (s.heap.objs.size+1+1)=some (siO S (.ref (s.heap.objs.size+1)) 0 es.size ep):=by rw[<-hz2];exact aE _ rfl
  have nfp:s.heap.objs.size∉[s.heap.objs.size+1+1,S,s.heap.objs.size+1]:=by
   simp only[aD,bE,or_false,not_or];exact⟨aH (bu (cq _)),dc hSl,aH (cq _)⟩
  have hl:(ps.map fun p=>(es.getD p (0,.none)).2).length=es.size:=by rw[ai,hp.length_eq,cb]
  refine oD (s:={s with drawn:=d,heap:=h2.push (siO S (.ref (s.heap.objs.size+1)) 0 es.size ep)}) (fun c' s' h=>h) (walkC (A:=A.in1) (by simp[hh]) (aH (bu (bu hSl))) (aH (cq _)) es ep t ps hp) hn nfp (af _ hL2)
   ⟨⟨⟨o,af _ ho2,hc,hd⟩,hf⟩,af _ hT2,hI⟩ fun s' acc c' k1 k2 k3 k4 e it=>?_
  refine fin _ s' acc c' hl ((hp.map _).trans (by rw[es_map])) (fun b o q=>?_) k2 k4 e it;have hb:=ay q;refine k1 b o ?_ (af _ (kp2 b o q));simp only[aD,bE,or_false,not_or];exact⟨aH hb,aH (bu (bu hb))⟩
end
theorem Aw(ks:List Key):(met ks).Nodup:=by
 unfold met;have g:∀(l acc:List Key),acc.Nodup->(l.foldl more acc).Nodup:=by
  intro l
  induction l with
  |nil=>exact fun _ h=>h
  |cons k l ih=>
   intro acc h;refine ih _ ?_;unfold more;split
   ·exact h
   ·rename_i c
    refine dH.mpr ⟨h,by simp,fun a ha b hb=>?_⟩;rw[aB]at hb;subst hb;intro z;subst z;exact c (jO.mpr ha)
 exact g ks [] kS
theorem qe{α:Type}[DecidableEq α]:∀{m l:List α},m.Nodup->(∀x∈m,x∈l)->l.length=m.length->l.Perm m
 | [],l,_,_,h=>by
  rw[cN]at h;rw[pW h]
 |a::m,l,nd,hs,h=>by
  have ha:a∈l:=hs a au;have p:=yN ha;rw[dG]at nd;have hl:=p.length_eq;rw[aS]at hl h;have q:=qe (m:=m) (l:=l.erase a) nd.2 (fun x hx=>(yO (fun z:x=a=>nd.1 (by rw[<-z];exact hx))).mpr (hs x (aI _ hx))) (by omega);exact p.trans (q.cons a)
end Q
namespace L2
open PySem PySem.Spec PyProof.Rows Q
section
variable {X:Cx}
theorem Inv.same{pins:List (Addr×Obj)}{σ:List (Option V)}{H:Hp}{s s':Shared}(I:Inv X pins σ H s)(h1:s'.heap=s.heap)(h2:s'.gens=s.gens)(h3:s'.os=s.os):Inv X pins σ H s':=by
 obtain⟨h,g,d,t,o⟩:=s;obtain⟨h',g',d',t',o'⟩:=s';obtain rfl:h'=h:=h1;obtain rfl:g'=g:=h2;obtain rfl:o'=o:=h3;exact⟨I.ok,I.os,I.bare,I.base,I.loc,I.cell,I.free,I.freeC,I.pin,I.hok,I.len⟩
noncomputable def tSortSet(K:aa)(ta:TA):TE:=fun σ H Q=>ta σ H fun vs H1=>∃(p:Addr)(ns:List Int),vs=[V.ref p]/\SqL K H1 p (ns.map V.int)/\ns.length<64/\
 ∀(ms:List Int) l,ms.Nodup->(∀x,x∈ms↔x∈ns)->H1 l=none->Q (.ref l) (upd H1 l (.lst (sortI ms)))
theorem rW:dD "sorted"=some (.builtin "sorted"):=by decide+kernel
theorem yp:dD "set"=some (.type "set"):=by decide+kernel
end
section
variable {X:Cx}
noncomputable def tSortSetL(K:aa)(ta:TA):TE:=fun σ H Q=>ta σ H fun vs H1=>∃(p:Addr)(ys:List V)(ps:List (List Int))(m:Nat),vs=[V.ref p]/\SqL K H1 p ys/\ps.length<=18/\(∀k∈ps,k.length=m)/\IntKeys H1 ys ps/\
 ∀(zs:List V)(qs:List (List Int)) l,qs.Nodup->(∀x,x∈qs↔x∈ps)->IntKeys H1 zs qs->H1 l=none->Q (.ref l) (upd H1 l (.lst (zt .non qs zs)))
end
end L2
set_option maxHeartbeats 1000000
namespace SR
open PySem PySem.W PyProof.Rows
noncomputable def gallop':Bool->Keyed->Array Keyed->Nat->Nat->Nat->StateT SortSt Sem (Option Nat):=sortPriv%PySem.Builtin.gallop
structure Od(M:Model)(A:Around)(E:Value->Shared->Prop)(s:Shared)(κ:eh)(S:Keyed->Prop)(R:Keyed->Keyed->Bool):Prop where
 irr:∀x,S x->R x x=false
 tri:∀x y,S x->S y->x≠y->R x y= !R y x
 tr:∀x y z,S x->S y->S z->R x y=true->R y z=true->R x z=true
 ask:∀x y (st:SortSt)(Q:Option Bool->SortSt->Prop),S x->S y->x≠y->kindOf st=κ->Q (some (R x y)) st->wpS M A E s (lt' x y) Q st
section
variable {M:Model}{A:Around}{E:Value->Shared->Prop}{s:Shared}{κ:eh}{S:Keyed->Prop}{R:Keyed->Keyed->Bool}
theorem cH{arr:Array Keyed}{i:Nat}{x:Keyed}{Q:Keyed->SortSt->Prop}{st:SortSt}(h:arr[i]? =some x)(q:Q x st):wpS M A E s (elem' arr i) Q st:=by
 rw[elem'_eq,h];exact az q
theorem Od.asym(o:Od M A E s κ S R){x y:Keyed}(hx:S x)(hy:S y)(h:R x y=true):R y x=false:=by
 by_cases e:x=y
 ·subst e
  rw[o.irr x hx]at h;cases h
 ·rw[o.tri x y hx hy e]at h
  simpa using h
noncomputable def at_(arr:Array Keyed)(i:Nat):Keyed:=arr.getD i (.none,.none)
theorem cD{arr:Array Keyed}{i:Nat}(h:i<arr.size):arr[i]? =some (at_ arr i):=by
 unfold at_;rw[bV h,bN,bV h];rfl
structure Seg(S:Keyed->Prop)(R:Keyed->Keyed->Bool)(arr:Array Keyed)(b n:Nat)(key:Keyed):Prop where
 sz:b+n<=arr.size
 inS:∀i,i<n->S (at_ arr (b+i))
 up:∀i j,i<j->j<n->R (at_ arr (b+i)) (at_ arr (b+j))=true
 ks:S key
 nk:∀i,i<n->at_ arr (b+i)≠key
noncomputable def bey(R:Keyed->Keyed->Bool)(arr:Array Keyed)(b:Nat)(key:Keyed)(i:Nat):Bool:=R (at_ arr (b+i)) key
variable {arr:Array Keyed}{b n hint:Nat}{key:Keyed}{st:SortSt}
theorem iP(o:Od M A E s κ S R)(g:Seg S R arr b n key){i j:Nat}(h:i<=j)(hj:j<n)(e:bey R arr b key j=true):bey R arr b key i=true:=by
 rcases ix i j with c|c
 ·exact o.tr _ _ _ (g.inS i (by omega)) (g.inS j hj) g.ks (g.up i j c hj) e
 ·obtain rfl:i=j:=by omega
  exact e
theorem lG(o:Od M A E s κ S R)(g:Seg S R arr b n key){left:Bool}{i:Nat}{Q:Option Bool->SortSt->Prop}(hi:i<n)(hk:kindOf st=κ)(q:Q (some (bey R arr b key i)) st):
  wpS M A E s (do
   let x<-elem' arr (b+i)
   if left=true then lt' x key else do
    let r<-lt' key x
    pure (r.map (!·))) Q st:=by
 refine ao (cH (cD (by have :=g.sz;omega)) ?_);cases left with
 |true=>
  rw[if_pos rfl];exact o.ask _ _ _ _ (g.inS i hi) g.ks (g.nk i hi) hk q
 |false=>
  rw[if_neg (by decide)];refine ao (o.ask _ _ _ _ g.ks (g.inS i hi) (fun e=>g.nk i hi e.symm) hk (az ?_));rw[o.tri _ _ g.ks (g.inS i hi) fun e=>g.nk i hi e.symm];simpa[bey]using q
theorem uB(o:Od M A E s κ S R)(g:Seg S R arr b n key){f:Nat->Option (Option Nat)×Nat×Nat->StateT SortSt Sem (ForInStep (Option (Option Nat)×Nat×Nat))}{Q:Option (Option Nat)×Nat×Nat->SortSt->Prop}{lo hi:Nat}
  (hf:∀x lo hi (Q':ForInStep (Option (Option Nat)×Nat×Nat)->SortSt->Prop),hi<=n->(lo≥ hi->Q' (.done (none,lo,hi)) st)->(∀m,m=lo+(hi-lo)/2->lo<hi->bey R arr b key m=true->Q' (.yield (none,m+1,hi)) st)->(∀m,m=lo+(hi-lo)/2->lo<hi->bey R arr b key m=false->Q' (.yield (none,lo,m)) st)->wpS M A E s (f x (none,lo,hi)) Q' st)
  (h1:lo<=hi)(h2:hi<=n)(h3:∀i,i<lo->bey R arr b key i=true)(h4:∀i,hi<=i->i<n->bey R arr b key i=false)(q:∀k,k<=n->(∀i,i<k->bey R arr b key i=true)->(∀i,k<=i->i<n->bey R arr b key i=false)->Q (none,k,k) st):wpS M A E s (forIn [:n] (none,lo,hi) f) Q st:=by
 refine cj (I:=fun x c st'=>st'=st/\∃lo hi,c=(none,lo,hi)/\lo<=hi/\hi<=n/\hi-lo+x<=n/\(∀i,i<lo->bey R arr b key i=true)/\(∀i,hi<=i->i<n->bey R arr b key i=false)) ?_ ?_ ⟨rfl,lo,hi,rfl,h1,h2,by omega,h3,h4⟩
 ·rintro x c st' _ hx ⟨rfl,lo,hi,rfl,a1,a2,a3,a4,a5⟩
  refine hf x lo hi _ a2 (fun c=>?_) (fun m hm c e=>?_) fun m hm c e=>?_
  ·obtain rfl:lo=hi:=by omega
   exact q lo a2 a4 a5
  ·exact⟨rfl,_,_,rfl,by omega,a2,by omega,fun i hi'=>iP o g (by omega:i<=m) (by omega) e,a5⟩
  ·refine⟨rfl,_,_,rfl,by omega,by omega,by omega,a4,fun i h1 h2=>?_⟩
   rw[i6];intro z;rw[iP o g h1 h2 z]at e;cases e
 ·rintro c st' ⟨rfl,lo,hi,rfl,a1,a2,a3,a4,a5⟩
  obtain rfl:lo=hi:=by omega
  exact q lo a2 a4 a5
theorem gr(o:Od M A E s κ S R)(g:Seg S R arr b n key){left:Bool}{Q:Option Nat->SortSt->Prop}(hh:hint<n)(hk:kindOf st=κ)(q:∀k,k<=n->(∀i,i<k->bey R arr b key i=true)->(∀i,k<=i->i<n->bey R arr b key i=false)->Q (some k) st):
  wpS M A E s (gallop' left key arr b n hint) Q st:=by
 refine ao (lG o g hh hk ?_);cases e:bey R arr b key hint with
 |true=>
  dsimp only;rw[if_pos rfl];refine ao (ef (cj (I:=fun x c st'=>st'=st/\∃la ofs,c=(none,la,ofs)/\la<ofs/\hint+la<n/\x+1<=ofs/\bey R arr b key (hint+la)=true)
   (Q:=fun c st'=>st'=st/\∃la ofs,c=(none,la,ofs)/\la<ofs/\hint+la<n/\bey R arr b key (hint+la)=true/\(ofs≥ n-hint\/(hint+ofs<n/\bey R arr b key (hint+ofs)=false))) ?_ ?_ ⟨rfl,0,1,rfl,by omega,by omega,by omega,e⟩) ?_)
  ·rintro x c st' _ hx ⟨rfl,la,ofs,rfl,a1,a2,a3,a4⟩
   dsimp only;by_cases c:ofs≥ n-hint
   ·rw[if_pos c]
    exact az ⟨rfl,_,_,rfl,a1,a2,a4,.inl c⟩
   ·rw[if_neg c]
    refine ao (lG o g (by omega) hk ?_);cases e2:bey R arr b key (hint+ofs)with
    |true=>
     dsimp only;rw[if_neg (by decide)];exact az ⟨rfl,_,_,rfl,by omega,by omega,by omega,e2⟩
    |false=>
     dsimp only;rw[if_pos (by decide)];exact az ⟨rfl,_,_,rfl,a1,a2,a4,.inr ⟨by omega,e2⟩⟩
  ·rintro c st' ⟨rfl,la,ofs,rfl,a1,a2,a3,a4⟩
   exact⟨rfl,_,_,rfl,a1,a2,a4,.inl (by omega)⟩
  ·rintro c st' ⟨rfl,la,ofs,rfl,a1,a2,a4,a5⟩
   refine ao (uB o g (fun x lo hi Q' hn f1 f2 f3=>?_) (lo:=hint+la+1) (hi:=hint+min ofs (n-hint)) (by omega) (by omega) ?_ ?_ fun k k1 k2 k3=>az (q k k1 k2 k3))
   ·dsimp only
    by_cases c:lo≥ hi
    ·rw[if_pos c]
     exact az (f1 c)
    ·rw[if_neg c]
     refine ao (lG o g (by omega) hk ?_);cases e3:bey R arr b key (lo+(hi-lo)/2)with
     |true=>exact az (f2 _ rfl (by omega) e3)
     |false=>exact az (f3 _ rfl (by omega) e3)
   ·exact fun i hi=>iP o g (by omega) a2 a4
   ·intro i h1 h2
    rcases a5 with z|⟨z1,z2⟩
    ·omega
    ·rw[i6]
     intro y;rw[iP o g (by omega:hint+ofs<=i) h2 y]at z2;cases z2
 |false=>
  dsimp only;rw[if_neg (by decide)];refine ao (ef (cj (I:=fun x c st'=>st'=st/\∃la ofs,c=(none,la,ofs)/\la<ofs/\la<=hint/\x+1<=ofs/\bey R arr b key (hint-la)=false)
   (Q:=fun c st'=>st'=st/\∃la ofs,c=(none,la,ofs)/\la<ofs/\la<=hint/\bey R arr b key (hint-la)=false/\(ofs≥ hint+1\/bey R arr b key (hint-ofs)=true)) ?_ ?_ ⟨rfl,0,1,rfl,by omega,by omega,by omega,e⟩) ?_)
  ·rintro x c st' _ hx ⟨rfl,la,ofs,rfl,a1,a2,a3,a4⟩
   dsimp only;by_cases c:ofs≥ hint+1
   ·rw[if_pos c]
    exact az ⟨rfl,_,_,rfl,a1,a2,a4,.inl c⟩
   ·rw[if_neg c]
    refine ao (lG o g (by omega) hk ?_);cases e2:bey R arr b key (hint-ofs)with
    |true=>
     dsimp only;rw[if_pos rfl];exact az ⟨rfl,_,_,rfl,a1,a2,a4,.inr e2⟩
    |false=>
     dsimp only;rw[if_neg (by decide)];exact az ⟨rfl,_,_,rfl,by omega,by omega,by omega,e2⟩
  ·rintro c st' ⟨rfl,la,ofs,rfl,a1,a2,a3,a4⟩
   exact⟨rfl,_,_,rfl,a1,a2,a4,.inl (by omega)⟩
  ·rintro c st' ⟨rfl,la,ofs,rfl,a1,a2,a4,a5⟩
   refine ao (uB o g (fun x lo hi Q' hn f1 f2 f3=>?_) (lo:=hint+1-min ofs (hint+1)) (hi:=hint-la) (by omega) (by omega) ?_ ?_ fun k k1 k2 k3=>az (q k k1 k2 k3))
   ·dsimp only
    by_cases c:lo≥ hi
    ·rw[if_pos c]
     exact az (f1 c)
    ·rw[if_neg c]
     refine ao (lG o g (by omega) hk ?_);cases e3:bey R arr b key (lo+(hi-lo)/2)with
     |true=>exact az (f2 _ rfl (by omega) e3)
     |false=>exact az (f3 _ rfl (by omega) e3)
   ·intro i hi
    rcases a5 with z|z
    ·omega
    ·exact iP o g (by omega) (by omega) z
   ·intro i h1 h2
    rw[i6];intro y;rw[iP o g h1 h2 y]at a4;cases a4
end
noncomputable def Ay:Array Keyed->Array Keyed->StateT SortSt Sem (Array Keyed):=sortPriv%PySem.Builtin.mergeLo
noncomputable def Az:Array Keyed->Array Keyed->StateT SortSt Sem (Array Keyed):=sortPriv%PySem.Builtin.mergeHi
structure Mi(R:Keyed->Keyed->Bool)(tot o P T:List Keyed):Prop where
 pm:(o++P++T).Perm tot
 oo:o.Pairwise fun x y=>R x y=true
 pp:P.Pairwise fun x y=>R x y=true
 tt:T.Pairwise fun x y=>R x y=true
 lt:∀x∈o,∀y,y∈P\/y∈T->R x y=true
section
variable {R:Keyed->Keyed->Bool}{tot o P P1 P2 T T1 T2:List Keyed}
theorem Mi.swap(m:Mi R tot o P T):Mi R tot o T P:=
 ⟨by
  have h:=m.pm;rw[bt]at h⊢;exact(yF.append_left o).trans h,m.oo,m.tt,m.pp,fun x hx y hy=>m.lt x hx y hy.symm⟩
theorem Mi.sU(m:Mi R tot o (P1++P2) T)(h:∀p∈P1,∀t∈T,R p t=true):Mi R tot (o++P1) P2 T:=by
 obtain⟨a1,a2,a3⟩:=bU.mp m.pp;refine⟨by rw[bt o];exact m.pm,bU.mpr ⟨m.oo,a1,fun x hx y hy=>m.lt x hx y (.inl (aG.mpr (.inl hy)))⟩,a2,m.tt,fun x hx y hy=>?_⟩;rcases aG.mp hx with c|c
 ·exact m.lt x c y (hy.imp (fun z=>aG.mpr (.inr z)) id)
 ·rcases hy with z|z
  ·exact a3 x c y z
  ·exact h x c y z
theorem Mi.wm(m:Mi R tot o P (T1++T2))(h:∀t∈T1,∀p∈P,R t p=true):Mi R tot (o++T1) P T2:=(m.swap.sU h).swap
theorem Mi.fin(m:Mi R tot o P T)(h:∀p∈P,∀t∈T,R p t=true):(o++P++T).Perm tot/\(o++P++T).Pairwise fun x y=>R x y=true:=by
 refine⟨m.pm,?_⟩;rw[bt];exact bU.mpr ⟨m.oo,bU.mpr ⟨m.pp,m.tt,h⟩,fun x hx y hy=>m.lt x hx y (aG.mp hy)⟩
end
theorem du{a:Array Keyed}{i:Nat}(h:i<a.toList.length):a.toList[i]=at_ a i:=by
 have :=cD (arr:=a) (i:=i) (by simpa using h)
 rw[<-cR,ag h]at this;exact bz this
theorem wZ{a:Array Keyed}{i:Nat}(h:i<a.size):a.toList.drop i=at_ a i::a.toList.drop (i+1):=by
 rw[List.drop_eq_getElem_cons (by simpa using h),du]
theorem take_at{a:Array Keyed}{i:Nat}(h:i<a.size):a.toList.take (i+1)=a.toList.take i++[at_ a i]:=by
 rw[fO,ag (by simpa using h),du];rfl
theorem gC{a:Array Keyed}{i:Nat}{x:Keyed}(h:x∈a.toList.drop i):∃j,i<=j/\j<a.size/\x=at_ a j:=by
 obtain⟨k,hk,rfl⟩:=aJ.mp h;rw[bq]at hk;refine⟨i+k,by omega,by have :a.toList.length=a.size:=rfl;omega,?_⟩;rw[cL,du]
theorem jQ{a:Array Keyed}{i:Nat}:(a.extract i).toList=a.toList.drop i:=by
 rw[cG,bW,dw];rw[bq];exact aw _
theorem oP{a:Array Keyed}{i k:Nat}:(a.extract i (i+k)).toList=(a.toList.drop i).take k:=by
 rw[cG,bW,xk]
theorem wK{a:Array Keyed}{i:Nat}(h:i=a.size):a.toList.drop i=[]:=by
 rw[h];exact List.drop_length
structure Two(S:Keyed->Prop)(R:Keyed->Keyed->Bool)(a b:Array Keyed):Prop where
 sa:∀i,i<a.size->S (at_ a i)
 sb:∀i,i<b.size->S (at_ b i)
 ua:∀i j,i<j->j<a.size->R (at_ a i) (at_ a j)=true
 ub:∀i j,i<j->j<b.size->R (at_ b i) (at_ b j)=true
 dj:∀i j,i<a.size->j<b.size->at_ a i≠at_ b j
 la:∀j,j<b.size->R (at_ b j) (at_ a (a.size-1))=true
 fb:∀i,i<a.size->R (at_ b 0) (at_ a i)=true
 na:0<a.size
 nb:0<b.size
structure Ke(κ:eh)(st st':SortSt):Prop where
 kd:kindOf st'=κ
 ar:arrOf st'=arrOf st
 pe:bO st'=bO st
 fa:cQ st'=cQ st
section
variable {M:Model}{A:Around}{E:Value->Shared->Prop}{s:Shared}{κ:eh}{S:Keyed->Prop}{R:Keyed->Keyed->Bool}{a b:Array Keyed}{st:SortSt}{ia ib:Nat}{out:Array Keyed}
theorem nH{c:Array Keyed}(u:∀i j,i<j->j<c.size->R (at_ c i) (at_ c j)=true):c.toList.Pairwise fun x y=>R x y=true:=by
 refine bx.mpr fun i j hi hj hij=>?_;rw[du,du];exact u i j hij (by simpa using hj)
structure Lo(R:Keyed->Keyed->Bool)(a b:Array Keyed)(out:Array Keyed)(ia ib:Nat):Prop where
 ha:ia+1<a.size
 hb:ib<b.size
 mi:Mi R (a.toList++b.toList) out.toList (a.toList.drop ia) (b.toList.drop ib)
noncomputable def Good(R:Keyed->Keyed->Bool)(tot:List Keyed)(r:Array Keyed):Prop:=r.toList.Perm tot/\r.toList.Pairwise fun x y=>R x y=true
theorem rL(m:Mi R (a.toList++b.toList) out.toList (a.toList.drop ia) (b.toList.drop ib))(h:ib=b.size):Good R (a.toList++b.toList) (out++a.extract ia++b.extract ib):=by
 have :=m.fin (fun p _ t ht=>by rw[wK h]at ht;cases ht)
 unfold Good;rw[b8,b8,jQ,jQ];exact this
theorem done_a(m:Mi R (a.toList++b.toList) out.toList (a.toList.drop ia) (b.toList.drop ib))(h:ia=a.size):Good R (a.toList++b.toList) (out++a.extract ia++b.extract ib):=by
 have :=m.fin (fun p hp=>by rw[wK h]at hp;cases hp)
 unfold Good;rw[b8,b8,jQ,jQ];exact this
theorem rG(w:Two S R a b)(m:Mi R (a.toList++b.toList) out.toList (a.toList.drop ia) (b.toList.drop ib))(h:ia+1=a.size):Good R (a.toList++b.toList) (out++b.extract ib++a.extract ia):=by
 have :=m.swap.fin fun t ht p hp=>by
  obtain⟨j,_,hj,rfl⟩:=gC ht;obtain⟨i,h1,h2,rfl⟩:=gC hp;obtain rfl:i=a.size-1:=by omega
  exact w.la j hj
 unfold Good;rw[b8,b8,jQ,jQ];exact this
theorem vm(o:Od M A E s κ S R)(w:Two S R a b)(m:Mi R (a.toList++b.toList) out.toList (a.toList.drop ia) (b.toList.drop ib))(hb:ib<b.size)(h:∀i,ia<=i->i<a.size->R (at_ b ib) (at_ a i)=true):Mi R (a.toList++b.toList) (out.push (at_ b ib)).toList (a.toList.drop ia) (b.toList.drop (ib+1)):=by
 rw[wZ hb]at m;rw[dh];exact m.wm (T1:=[at_ b ib]) fun t ht p hp=>by
  obtain⟨i,h1,h2,rfl⟩:=gC hp;rw[aB.mp ht];exact h i h1 h2
theorem zQ(o:Od M A E s κ S R)(w:Two S R a b)(m:Mi R (a.toList++b.toList) out.toList (a.toList.drop ia) (b.toList.drop ib))(ha:ia<a.size)(h:∀j,ib<=j->j<b.size->R (at_ a ia) (at_ b j)=true):Mi R (a.toList++b.toList) (out.push (at_ a ia)).toList (a.toList.drop (ia+1)) (b.toList.drop ib):=by
 rw[wZ ha]at m;rw[dh];exact m.sU (P1:=[at_ a ia]) fun t ht p hp=>by
  obtain⟨i,h1,h2,rfl⟩:=gC hp;rw[aB.mp ht];exact h i h1 h2
theorem many_a(w:Two S R a b)(o:Od M A E s κ S R)(m:Mi R (a.toList++b.toList) out.toList (a.toList.drop ia) (b.toList.drop ib))(hb:ib<b.size){k:Nat}(hk:k<=a.size-ia)(h:∀i,i<k->bey R a ia (at_ b ib) i=true):Mi R (a.toList++b.toList) (out++a.extract ia (ia+k)).toList (a.toList.drop (ia+k)) (b.toList.drop ib):=by
 have e:a.toList.drop ia=(a.toList.drop ia).take k++a.toList.drop (ia+k):=by rw[<-List.drop_drop,bf]
 rw[e]at m;have :=m.sU fun p hp t ht=>by
  obtain⟨i,hi,rfl⟩:=aJ.mp hp;rw[aF,bq]at hi;have hl:a.toList.length=a.size:=rfl;obtain⟨j,h1,h2,rfl⟩:=gC ht;rw[bS,cL,du];have hi1:=h i (by omega);rcases ix ib j with c|c
  ·exact o.tr _ _ _ (w.sa _ (by omega)) (w.sb _ hb) (w.sb _ h2) hi1 (w.ub ib j c h2)
  ·obtain rfl:j=ib:=by omega
   exact hi1
 rw[b8,oP];exact this
theorem many_b(w:Two S R a b)(o:Od M A E s κ S R)(m:Mi R (a.toList++b.toList) out.toList (a.toList.drop ia) (b.toList.drop ib))(ha:ia<a.size){k:Nat}(hk:k<=b.size-ib)(h:∀i,i<k->bey R b ib (at_ a ia) i=true):Mi R (a.toList++b.toList) (out++b.extract ib (ib+k)).toList (a.toList.drop ia) (b.toList.drop (ib+k)):=by
 have e:b.toList.drop ib=(b.toList.drop ib).take k++b.toList.drop (ib+k):=by rw[<-List.drop_drop,bf]
 rw[e]at m;have :=m.wm fun p hp t ht=>by
  obtain⟨i,hi,rfl⟩:=aJ.mp hp;rw[aF,bq]at hi;have hl:b.toList.length=b.size:=rfl;obtain⟨j,h1,h2,rfl⟩:=gC ht;rw[bS,cL,du];have hi1:=h i (by omega);rcases ix ia j with c|c
  ·exact o.tr _ _ _ (w.sb _ (by omega)) (w.sa _ ha) (w.sa _ h2) hi1 (w.ua ia j c h2)
  ·obtain rfl:j=ia:=by omega
   exact hi1
 rw[b8,oP];exact this
end
section
variable {M:Model}{A:Around}{E:Value->Shared->Prop}{s:Shared}{κ:eh}{S:Keyed->Prop}{R:Keyed->Keyed->Bool}{a b:Array Keyed}{st st':SortSt}{ia ib:Nat}{out:Array Keyed}
theorem Lo.size(m:Lo R a b out ia ib):out.size+(a.size-ia)+(b.size-ib)=a.size+b.size:=by
 have :=m.mi.pm.length_eq
 simp only[aj,bq,ax]at this;omega
theorem seg_a(w:Two S R a b)(hb:ib<b.size)(ha:ia<a.size):Seg S R a ia (a.size-ia) (at_ b ib):=
 ⟨by omega,fun i hi=>w.sa _ (by omega),fun i j h1 h2=>w.ua _ _ (by omega) (by omega),w.sb _ hb,fun i hi=>w.dj _ _ (by omega) hb⟩
theorem seg_b(w:Two S R a b)(hb:ib<b.size)(ha:ia<a.size):Seg S R b ib (b.size-ib) (at_ a ia):=
 ⟨by omega,fun i hi=>w.sb _ (by omega),fun i j h1 h2=>w.ub _ _ (by omega) (by omega),w.sa _ ha,fun i hi e=>w.dj _ _ ha (by omega) e.symm⟩
noncomputable def LoQ(κ:eh)(R:Keyed->Keyed->Bool)(a b:Array Keyed)(st:SortSt)(n:Nat)(r:Option (Array Keyed))(out:Array Keyed)(ia ib:Nat)(st':SortSt):Prop:=
 Ke κ st st'/\((∃x,r=some x/\Good R (a.toList++b.toList) x)\/(r=none/\Lo R a b out ia ib/\n<=out.size))
theorem wk(o:Od M A E s κ S R){c:Array Keyed}{i j:Nat}{x:Keyed}(sc:∀i,i<c.size->S (at_ c i))(u:∀i j,i<j->j<c.size->R (at_ c i) (at_ c j)=true)(sx:S x)(h:R x (at_ c i)=true)(hij:i<=j)(hj:j<c.size):R x (at_ c j)=true:=by
 rcases ix i j with z|z
 ·exact o.tr _ _ _ sx (sc _ (by omega)) (sc _ hj) h (u _ _ z hj)
 ·obtain rfl:j=i:=by omega
  exact h
theorem jr{α β:Type}{v:α}{f:α->StateT SortSt Sem β}{Q:β->SortSt->Prop}{st:SortSt}(h:wpS M A E s (f v) Q st):wpS M A E s (have x:=v;f x) Q st:=h
theorem Ke.g(k:Ke κ st st')(g:Nat):Ke κ st (eI (kindOf st') (arrOf st') (bO st') g (cQ st')):=⟨k.kd,k.ar,k.pe,k.fa⟩
theorem oth(o:Od M A E s κ S R)(w:Two S R a b)(ha:ia<a.size){k:Nat}(h:∀i,k<=i->i<b.size-ib->bey R b ib (at_ a ia) i=false)(j:Nat)(z1:ib+k<=j)(z2:j<b.size):R (at_ a ia) (at_ b j)=true:=by
 have z:=h (j-ib) (by omega) (by omega);unfold bey at z;rw[show ib+(j-ib)=j by omega]at z;rw[o.tri _ _ (w.sa _ ha) (w.sb _ z2) (w.dj _ _ ha z2),z];rfl
theorem Ak{m n:Nat}(h:(m==n)=true):m=n:=by simpa using h
theorem Ap{m n:Nat}(h:¬(m==n)=true):m≠n:=fun e=>h (by rw[e];exact beq_self_eq_true _)
theorem qL{β:Type}{c:Prop}[Decidable c]{m n:StateT SortSt Sem β}{Q:β->SortSt->Prop}{st:SortSt}(h1:c->wpS M A E s m Q st)(h2:¬c->wpS M A E s n Q st):wpS M A E s (if c then m else n) Q st:=by
 by_cases h:c
 ·rw[if_pos h];exact h1 h
 ·rw[if_neg h];exact h2 h
theorem u0(o:Od M A E s κ S R)(w:Two S R a b)(hk:kindOf st=κ){Q:Array Keyed->SortSt->Prop}(q:∀r st',Ke κ st st'->Good R (a.toList++b.toList) r->Q r st'):wpS M A E s (Ay a b) Q st:=by
 have k0:Ke κ st st:=⟨hk,rfl,rfl,rfl⟩;have m00:Mi R (a.toList++b.toList) (#[]:Array Keyed).toList (a.toList.drop 0) (b.toList.drop 0):=⟨by simp,.nil,nH w.ua,nH w.ub,(fun x hx=>nomatch hx)⟩;have m0:=vm o w m00 w.nb fun i _ hi=>w.fb i hi;rw[fc]at m0;refine ao (nz (dZ ⟨rfl,?_⟩));refine jr (jr (jr ?_));refine ao (cH (cD w.nb) ?_);refine jr (jr (jr ?_));by_cases c1:1=b.size
 ·rw[if_pos (by simpa using c1)]
  exact az (q _ _ k0 (rL m0 c1))
 rw[if_neg (by simpa using c1)];by_cases c2:0+1=a.size
 ·rw[if_pos (by simpa using c2)]
  exact az (q _ _ k0 (rG w m0 c2))
 rw[if_neg (by simpa using c2)];have na:=w.na;have nb:=w.nb;refine ao (iY (jr ?_));refine ao (ef (cj (I:=fun x c st'=>LoQ κ R a b st (x+1) c.1 c.2.1 c.2.2.1 c.2.2.2.1 st'/\c.1=none) (Q:=fun c st'=>Ke κ st st'/\∃r,c.1=some r/\Good R (a.toList++b.toList) r) ?_ ?_ ⟨⟨k0,.inr ⟨rfl,⟨by show 0+1<_;omega,by show 1<_;omega,m0⟩,by simp⟩⟩,rfl⟩) ?_)
 ·rintro x ⟨r,out,ia,ib,g⟩ st1 _ hx ⟨⟨k1,h1⟩,rfl⟩
  obtain⟨_,lo,sz⟩:=h1.resolve_left fun⟨_,e,_⟩=>nomatch e;dsimp only at sz lo
  iterate 9 refine jr ?_
  refine ao (ef (cj (I:=fun y c st'=>LoQ κ R a b st (x+1+y) c.1 c.2.1 c.2.2.1 c.2.2.2.1 st'/\c.1=none) (Q:=fun c st'=>LoQ κ R a b st (x+2) c.1 c.2.1 c.2.2.1 c.2.2.2.1 st') ?_ ?_ ⟨⟨k1,.inr ⟨rfl,lo,by simpa using sz⟩⟩,rfl⟩) ?_)
  ·rintro y ⟨r,out,ia,ib,ac,bc⟩ st2 _ hy ⟨⟨k2,h2⟩,rfl⟩
   obtain⟨_,lo,sz⟩:=h2.resolve_left fun⟨_,e,_⟩=>nomatch e;have l1:=lo.ha;have l2:=lo.hb;dsimp only at sz lo l1 l2⊢;refine ao (cH (cD lo.hb) (ao (cH (cD (by omega)) (ao (o.ask _ _ _ _ (w.sb _ lo.hb) (w.sa _ (by omega)) (fun e=>w.dj _ _ (by omega) lo.hb e.symm) k2.kd ?_)))));cases e:R (at_ b ib) (at_ a ia)with
   |true=>
    dsimp only;rw[if_pos rfl];refine ao (cH (cD lo.hb) ?_);have m:=vm o w lo.mi lo.hb fun i h1 h2=>wk o w.sa w.ua (w.sb _ lo.hb) e h1 h2;by_cases c:ib+1=b.size
    ·rw[if_pos (by simpa using c)]
     exact az ⟨k2,.inl ⟨_,rfl,rL m c⟩⟩
    ·rw[if_neg (by simpa using c)]
     have lo':Lo R a b (out.push (at_ b ib)) ia (ib+1):=⟨lo.ha,by omega,m⟩;split
     ·exact az ⟨k2,.inr ⟨rfl,lo',by rw[b7];omega⟩⟩
     ·exact az ⟨⟨k2,.inr ⟨rfl,lo',by rw[b7];omega⟩⟩,rfl⟩
   |false=>
    dsimp only;rw[if_neg (by decide)];refine ao (cH (cD (by omega)) ?_);have e':R (at_ a ia) (at_ b ib)=true:=by
     rw[o.tri _ _ (w.sa _ (by omega)) (w.sb _ lo.hb) (w.dj _ _ (by omega) lo.hb),e];rfl
    have m:=zQ o w lo.mi (by omega) fun i h1 h2=>wk o w.sb w.ub (w.sa _ (by omega)) e' h1 h2;by_cases c:ia+1+1=a.size
    ·rw[if_pos (by simpa using c)]
     exact az ⟨k2,.inl ⟨_,rfl,rG w m c⟩⟩
    ·rw[if_neg (by simpa using c)]
     have lo':Lo R a b (out.push (at_ a ia)) (ia+1) ib:=⟨by omega,by omega,m⟩;split
     ·exact az ⟨k2,.inr ⟨rfl,lo',by rw[b7];omega⟩⟩
     ·exact az ⟨⟨k2,.inr ⟨rfl,lo',by rw[b7];omega⟩⟩,rfl⟩
  ·rintro⟨r,out,ia,ib,ac,bc⟩ st2 ⟨⟨k2,h2⟩,e⟩
   obtain⟨_,lo,sz⟩:=h2.resolve_left fun⟨_,e',_⟩=>by rw[e]at e';cases e'
   exact⟨k2,.inr ⟨e,lo,by dsimp only at sz⊢;omega⟩⟩
  ·rintro⟨r,out,ia,ib,ac,bc⟩ st2 ⟨k2,h2⟩
   dsimp only at h2
   iterate 10 refine jr ?_
   rcases h2 with⟨z,rfl,gz⟩ |⟨rfl,lo,sz⟩
   ·exact az ⟨k2,z,rfl,gz⟩
   refine ao (nz (dZ ⟨rfl,?_⟩));refine jr ?_;refine ao (ef (cj (I:=fun y c st'=>LoQ κ R a b st (x+2) c.1 c.2.1 c.2.2.1 c.2.2.2.1 st'/\c.1=none) (Q:=fun c st'=>LoQ κ R a b st (x+2) c.1 c.2.1 c.2.2.1 c.2.2.2.1 st') ?_ (fun c st' h=>h.1) ⟨⟨k2,.inr ⟨rfl,lo,sz⟩⟩,rfl⟩) ?_)
   ·rintro y ⟨r,out,ia,ib,g,ac,bc⟩ st3 _ hy ⟨⟨k3,h3⟩,rfl⟩
    obtain⟨_,lo,sz⟩:=h3.resolve_left fun⟨_,e,_⟩=>nomatch e;have l1:=lo.ha;have l2:=lo.hb;dsimp only at sz lo l1 l2;dsimp only;have go:∀g',Ke κ st (eI (kindOf st3) (arrOf st3) (bO st3) g' (cQ st3)):=k3.g;by_cases cg:g>1
    case' pos=>
     rw[if_pos cg];have ke:=go (g-1)
    case' neg=>
     rw[if_neg cg];have ke:=go g
    all_goals
     refine ao (eG (ao (cH (cD l2) (ao (gr o (seg_a w l2 (by omega)) (by omega) k3.kd fun k h1 h2 h3=>?_)))));have more:∀i,ia+k<=i->i<a.size->R (at_ b ib) (at_ a i)=true:=fun i z1 z2=>by
      have z:=h3 (i-ia) (by omega) (by omega);unfold bey at z;rw[show ia+(i-ia)=i by omega]at z;rw[o.tri _ _ (w.sb _ l2) (w.sa _ z2) fun e=>w.dj _ _ z2 l2 e.symm,z];rfl
     dsimp only;by_cases c:k>0
     case' pos=>
      rw[if_pos c];have m:=many_a w o lo.mi l2 h1 h2;by_cases c1:ia+k+1=a.size
      ·rw[if_pos (by simpa using c1)]
       exact az ⟨ke,.inl ⟨_,rfl,rG w m c1⟩⟩
      rw[if_neg (by simpa using c1)];by_cases c2:ia+k=a.size
      ·rw[if_pos (by simpa using c2)]
       exact az ⟨ke,.inl ⟨_,rfl,done_a m c2⟩⟩
      rw[if_neg (by simpa using c2)];have f2:x+2<=(out++a.extract ia (ia+k)).size:=by rw[eF];omega
      have f1:ia+k+1<a.size:=by omega
     case' neg=>
      rw[if_neg c];obtain rfl:k=0:=by omega
      have m:=lo.mi;have f2:=sz;have f1:ia+1<a.size:=l1
     all_goals
      have m2:=vm o w m l2 more;refine ao (cH (cD l2) ?_);by_cases c:ib+1=b.size
      ·rw[if_pos (by simpa using c)]
       exact az ⟨ke,.inl ⟨_,rfl,rL m2 c⟩⟩
      rw[if_neg (by simpa using c)];refine ao (cH (cD (eJ f1)) (ao (gr o (seg_b w (by omega:ib+1<b.size) (eJ f1)) (by omega) ke.kd fun k' h1' h2' h3'=>?_)));have more':=oth o w (eJ f1) h3';dsimp only;by_cases c:k'>0
      case' pos=>
       rw[if_pos c];have m3:=many_b w o m2 (eJ f1) h1' h2';by_cases c1:ib+1+k'=b.size
       ·rw[if_pos (by simpa using c1)]
        exact az ⟨ke,.inl ⟨_,rfl,rL m3 c1⟩⟩
       rw[if_neg (by simpa using c1)];have g1:ib+1+k'<b.size:=by omega
      case' neg=>
       rw[if_neg c];obtain rfl:k'=0:=by omega
       have m3:=m2;have g1:ib+1<b.size:=by omega
      all_goals
       refine ao (cH (cD (eJ f1)) ?_);have m4:=zQ o w m3 (eJ f1) more';refine qL (fun c=>az ⟨ke,.inl ⟨_,rfl,rG w m4 (Ak c)⟩⟩) fun c=>?_
       ·have c:=Ap c
        have lo':Lo R a b _ _ _:=⟨by omega,g1,m4⟩;split
        ·exact az ⟨ke,.inr ⟨rfl,lo',by simp only[b7,eF]at f2⊢;omega⟩⟩
        ·exact az ⟨⟨ke,.inr ⟨rfl,lo',by simp only[b7,eF]at f2⊢;omega⟩⟩,rfl⟩
   ·rintro⟨r,out,ia,ib,g,ac,bc⟩ st3 ⟨k3,h3⟩
    dsimp only at h3
    iterate 11 refine jr ?_
    rcases h3 with⟨z,rfl,gz⟩ |⟨rfl,lo,sz⟩
    ·exact az ⟨k3,z,rfl,gz⟩
    exact ao (eG (az ⟨⟨k3.g _,.inr ⟨rfl,lo,sz⟩⟩,rfl⟩))
 ·rintro⟨r,out,ia,ib,g⟩ st1 ⟨⟨k1,h1⟩,e⟩
  obtain⟨_,lo,sz⟩:=h1.resolve_left fun⟨_,e',_⟩=>by rw[e]at e';cases e'
  have :=lo.size
  have l1:=lo.ha;have l2:=lo.hb;dsimp only at sz this l1 l2;omega
 ·rintro⟨r,out,ia,ib,g⟩ st1 ⟨k1,z,e,gz⟩
  dsimp only at e⊢;subst e;exact az (q _ _ k1 gz)
end
section
variable {M:Model}{A:Around}{E:Value->Shared->Prop}{s:Shared}{κ:eh}{S:Keyed->Prop}{R:Keyed->Keyed->Bool}{a b:Array Keyed}{st st':SortSt}{na nb:Nat}{out:Array Keyed}
noncomputable def rv(R:Keyed->Keyed->Bool)(x y:Keyed):Bool:=R y x
theorem iL{a:Array Keyed}{i:Nat}{x:Keyed}(h:x∈(a.toList.take i).reverse):∃j,j<i/\j<a.size/\x=at_ a j:=by
 obtain⟨k,hk,rfl⟩:=aJ.mp (List.mem_reverse.mp h);rw[aF]at hk;refine⟨k,by omega,by have :a.toList.length=a.size:=rfl;omega,?_⟩;rw[bS,du]
theorem zI{a:Array Keyed}{i:Nat}(h:i<a.size):(a.toList.take (i+1)).reverse=at_ a i::(a.toList.take i).reverse:=by rw[take_at h,Bh];rfl
theorem tz{a:Array Keyed}{i n:Nat}(h:i<=n):(a.toList.take n).reverse=(a.extract i n).reverse.toList++(a.toList.take i).reverse:=by
 rw[yH,cG,bW,<-Bh,<-List.drop_take]
 conv =>lhs;rw[<-bf i (a.toList.take n)]
 rw[List.take_take,fF h]
noncomputable abbrev Mh(R:Keyed->Keyed->Bool)(a b:Array Keyed)(out:Array Keyed)(na nb:Nat):Prop:=Mi (rv R) (a.toList++b.toList) out.toList (a.toList.take na).reverse (b.toList.take nb).reverse
structure Hi(R:Keyed->Keyed->Bool)(a b:Array Keyed)(out:Array Keyed)(na nb:Nat):Prop where
 ha:0<na
 hb:1<nb
 la:na<=a.size
 lb:nb<=b.size
 mi:Mh R a b out na nb
theorem Hi.size(m:Hi R a b out na nb):out.size+na+nb=a.size+b.size:=by
 have h1:=m.mi.pm.length_eq;have h2:=m.la;have h3:=m.lb;simp only[aj,dU,aF,ax]at h1;omega
theorem oK{l:List Keyed}{r:Array Keyed}{tot:List Keyed}(h:l.Perm tot/\l.Pairwise fun x y=>rv R x y=true)(e:r.toList=l.reverse):Good R tot r:=by
 refine⟨by rw[e];exact(i3 l).trans h.1,?_⟩;rw[e,kD];exact h.2
theorem nK(m:Mh R a b out na nb)(h:na=0):Good R (a.toList++b.toList) (a.extract 0 na++b.extract 0 nb++out.reverse):=
 oK (m.swap.fin fun t _ p hp=>by subst h;cases hp) (by simp[cG,bW])
theorem hdone_b(m:Mh R a b out na nb)(h:nb=0):Good R (a.toList++b.toList) (a.extract 0 na++b.extract 0 nb++out.reverse):=
 oK (m.swap.fin fun t ht=>by subst h;cases ht) (by simp[cG,bW])
theorem nL(w:Two S R a b)(m:Mh R a b out na nb)(h:nb=1):Good R (a.toList++b.toList) (b.extract 0 nb++a.extract 0 na++out.reverse):=
 oK (m.fin fun p hp t ht=>by
  obtain⟨i,_,hi,rfl⟩:=iL hp;obtain⟨j,hj,_,rfl⟩:=iL ht;obtain rfl:j=0:=by omega
  exact w.fb i hi) (by simp[cG,bW])
theorem wQ(m:Mh R a b out (na+1) nb)(ha:na<a.size)(h:∀j,j<nb->j<b.size->R (at_ b j) (at_ a na)=true):Mh R a b (out.push (at_ a na)) na nb:=by
 unfold Mh at m⊢;rw[zI ha]at m;rw[dh];exact m.sU (P1:=[at_ a na]) fun p hp t ht=>by
  obtain⟨j,h1,h2,rfl⟩:=iL ht;rw[aB.mp hp];exact h j h1 h2
theorem hpush_b(m:Mh R a b out na (nb+1))(hb:nb<b.size)(h:∀i,i<na->i<a.size->R (at_ a i) (at_ b nb)=true):Mh R a b (out.push (at_ b nb)) na nb:=by
 unfold Mh at m⊢;rw[zI hb]at m;rw[dh];exact m.wm (T1:=[at_ b nb]) fun p hp t ht=>by
  obtain⟨j,h1,h2,rfl⟩:=iL ht;rw[aB.mp hp];exact h j h1 h2
theorem hpa(m:Mh R a b out na nb)(h0:0<na)(la:na<=a.size)(h:∀j,j<nb->j<b.size->R (at_ b j) (at_ a (na-1))=true):Mh R a b (out.push (at_ a (na-1))) (na-1) nb:=wQ (by rwa [show na-1+1=na by omega]) (by omega) h
theorem hpb(m:Mh R a b out na nb)(h0:0<nb)(lb:nb<=b.size)(h:∀i,i<na->i<a.size->R (at_ a i) (at_ b (nb-1))=true):Mh R a b (out.push (at_ b (nb-1))) na (nb-1):=hpush_b (by rwa [show nb-1+1=nb by omega]) (by omega) h
theorem AG{c:Array Keyed}{k n:Nat}{x:Keyed}(hn:n<=c.size)(h:x∈(c.extract k n).reverse.toList):∃i,k<=i/\i<n/\x=at_ c i:=by
 rw[yH,List.mem_reverse,cG,bW]at h;obtain⟨j,h1,h2,rfl⟩:=gC (dI h);obtain⟨i,hi,e⟩:=aJ.mp h;rw[aF,bq,ax]at hi;refine⟨k+i,by omega,by omega,?_⟩;rw[<-e,bS,cL,du]
theorem hmany_a(m:Mh R a b out na nb)(la:na<=a.size){k:Nat}(hk:k<=na)(h:∀i,k<=i->i<na->∀j,j<nb->j<b.size->R (at_ b j) (at_ a i)=true):Mh R a b (out++(a.extract k na).reverse) k nb:=by
 unfold Mh at m⊢;rw[tz hk]at m;rw[b8];exact m.sU fun p hp t ht=>by
  obtain⟨i,h1,h2,rfl⟩:=AG la hp;obtain⟨j,h3,h4,rfl⟩:=iL ht;exact h i h1 h2 j h3 h4
theorem hmany_b(m:Mh R a b out na nb)(lb:nb<=b.size){k:Nat}(hk:k<=nb)(h:∀i,k<=i->i<nb->∀j,j<na->j<a.size->R (at_ a j) (at_ b i)=true):Mh R a b (out++(b.extract k nb).reverse) na k:=by
 unfold Mh at m⊢;rw[tz hk]at m;rw[b8];exact m.wm fun p hp t ht=>by
  obtain⟨i,h1,h2,rfl⟩:=AG lb hp;obtain⟨j,h3,h4,rfl⟩:=iL ht;exact h i h1 h2 j h3 h4
theorem hseg_a(w:Two S R a b)(la:na<=a.size)(hb:nb<b.size):Seg S R a 0 na (at_ b nb):=
 ⟨by omega,fun i hi=>w.sa _ (by omega),fun i j h1 h2=>w.ua _ _ (by omega) (by omega),w.sb _ hb,fun i hi=>w.dj _ _ (by omega) hb⟩
theorem hseg_b(w:Two S R a b)(lb:nb<=b.size)(ha:na<a.size):Seg S R b 0 nb (at_ a na):=
 ⟨by omega,fun i hi=>w.sb _ (by omega),fun i j h1 h2=>w.ub _ _ (by omega) (by omega),w.sa _ ha,fun i hi e=>w.dj _ _ ha (by omega) e.symm⟩
theorem nM(o:Od M A E s κ S R){c:Array Keyed}{i j:Nat}{x:Keyed}(sc:∀i,i<c.size->S (at_ c i))(u:∀i j,i<j->j<c.size->R (at_ c i) (at_ c j)=true)(sx:S x)(h:R (at_ c i) x=true)(hij:j<=i)(hj:i<c.size):R (at_ c j) x=true:=by
 rcases ix j i with z|z
 ·exact o.tr _ _ _ (sc _ (by omega)) (sc _ hj) sx (u _ _ z hj) h
 ·obtain rfl:j=i:=by omega
  exact h
noncomputable def HiQ(κ:eh)(R:Keyed->Keyed->Bool)(a b:Array Keyed)(st:SortSt)(n:Nat)(r:Option (Array Keyed))(na nb:Nat)(out:Array Keyed)(st':SortSt):Prop:=
 Ke κ st st'/\((∃x,r=some x/\Good R (a.toList++b.toList) x)\/(r=none/\Hi R a b out na nb/\n<=out.size))
theorem hoth_a(o:Od M A E s κ S R)(w:Two S R a b)(hb:nb<b.size)(la:na<=a.size){k:Nat}(h:∀i,k<=i->i<na->bey R a 0 (at_ b nb) i=false)(i:Nat)(z1:k<=i)(z2:i<na)(j:Nat)(z3:j<=nb)(z4:j<b.size):R (at_ b j) (at_ a i)=true:=by
 have z:=h i z1 z2;unfold bey at z;rw[fc]at z;refine nM o w.sb w.ub (w.sa _ (by omega)) ?_ z3 hb;rw[o.tri _ _ (w.sb _ hb) (w.sa _ (by omega)) fun e=>w.dj _ _ (by omega) hb e.symm,z];rfl
theorem hoth_b(o:Od M A E s κ S R)(w:Two S R a b)(ha:na<a.size)(lb:nb<=b.size){k:Nat}(h:∀i,k<=i->i<nb->bey R b 0 (at_ a na) i=false)(i:Nat)(z1:k<=i)(z2:i<nb)(j:Nat)(z3:j<=na)(z4:j<a.size):R (at_ a j) (at_ b i)=true:=by
 have z:=h i z1 z2;unfold bey at z;rw[fc]at z;refine nM o w.sa w.ua (w.sb _ (by omega)) ?_ z3 ha;rw[o.tri _ _ (w.sa _ ha) (w.sb _ (by omega)) (w.dj _ _ ha (by omega)),z];rfl
theorem u4(o:Od M A E s κ S R)(w:Two S R a b)(hk:kindOf st=κ){Q:Array Keyed->SortSt->Prop}(q:∀r st',Ke κ st st'->Good R (a.toList++b.toList) r->Q r st'):wpS M A E s (Az a b) Q st:=by
 have k0:Ke κ st st:=⟨hk,rfl,rfl,rfl⟩;have na:=w.na;have nb:=w.nb;have m00:Mh R a b #[] (a.size-1+1) b.size:=by
  refine⟨?_,.nil,kD.mpr ((nH w.ua).sublist (fN _ _)),kD.mpr ((nH w.ub).sublist (fN _ _)),(fun x hx=>nomatch hx)⟩;rw[dw (by rw[ax];omega),dw (by rw[ax];omega)];exact(i3 _).append (i3 _)
 have m0:=wQ m00 (by omega) fun j _ hj=>w.la j hj;refine ao (nz (dZ ⟨rfl,?_⟩));refine ao (cH (cD (by omega)) ?_);dsimp only;by_cases c1:a.size-1=0
 ·rw[if_pos (by simpa using c1)]
  exact az (q _ _ k0 (nK m0 c1))
 rw[if_neg (by simpa using c1)];by_cases c2:b.size=1
 ·rw[if_pos (by simpa using c2)]
  exact az (q _ _ k0 (nL w m0 c2))
 rw[if_neg (by simpa using c2)];refine ao (iY ?_);refine ao (ef (cj (I:=fun x c st'=>HiQ κ R a b st (x+1) c.1 c.2.1 c.2.2.1 c.2.2.2.1 st'/\c.1=none) (Q:=fun c st'=>Ke κ st st'/\∃r,c.1=some r/\Good R (a.toList++b.toList) r) ?_ ?_ ⟨⟨k0,.inr ⟨rfl,⟨by show 0<a.size-1;omega,by show 1<b.size;omega,Nat.sub_le _ _,aw _,m0⟩,by simp⟩⟩,rfl⟩) ?_)
 ·rintro x ⟨r,na,nb,out,g⟩ st1 _ hx ⟨⟨k1,h1⟩,rfl⟩
  obtain⟨_,hi,sz⟩:=h1.resolve_left fun⟨_,e,_⟩=>nomatch e;dsimp only at sz hi⊢;refine ao (ef (cj (I:=fun y c st'=>HiQ κ R a b st (x+1+y) c.1 c.2.1 c.2.2.1 c.2.2.2.1 st'/\c.1=none) (Q:=fun c st'=>HiQ κ R a b st (x+2) c.1 c.2.1 c.2.2.1 c.2.2.2.1 st') ?_ ?_ ⟨⟨k1,.inr ⟨rfl,hi,by simpa using sz⟩⟩,rfl⟩) ?_)
  ·rintro y ⟨r,na,nb,out,ac,bc⟩ st2 _ hy ⟨⟨k2,h2⟩,rfl⟩
   obtain⟨_,hi,sz⟩:=h2.resolve_left fun⟨_,e,_⟩=>nomatch e;have l1:=hi.ha;have l2:=hi.hb;have l3:=hi.la;have l4:=hi.lb;dsimp only at sz hi l1 l2 l3 l4⊢;refine ao (cH (cD (by omega)) (ao (cH (cD (by omega)) (ao (o.ask _ _ _ _ (w.sb _ (by omega)) (w.sa _ (by omega)) (fun e=>w.dj _ _ (by omega) (by omega) e.symm) k2.kd ?_)))));cases e:R (at_ b (nb-1)) (at_ a (na-1))with
   |true=>
    dsimp only;rw[if_pos rfl];refine ao (cH (cD (by omega)) ?_);have m:=hpa hi.mi l1 l3 fun j h1 h2=>nM o w.sb w.ub (w.sa _ (by omega)) e (by omega) (by omega);by_cases c:na-1=0
    ·rw[if_pos (by simpa using c)]
     exact az ⟨k2,.inl ⟨_,rfl,nK m c⟩⟩
    ·rw[if_neg (by simpa using c)]
     have hi':Hi R a b (out.push (at_ a (na-1))) (na-1) nb:=⟨by omega,l2,by omega,l4,m⟩;split
     ·exact az ⟨k2,.inr ⟨rfl,hi',by rw[b7];omega⟩⟩
     ·exact az ⟨⟨k2,.inr ⟨rfl,hi',by rw[b7];omega⟩⟩,rfl⟩
   |false=>
    dsimp only;rw[if_neg (by decide)];refine ao (cH (cD (by omega)) ?_);have e':R (at_ a (na-1)) (at_ b (nb-1))=true:=by
     rw[o.tri _ _ (w.sa _ (by omega)) (w.sb _ (by omega)) (w.dj _ _ (by omega) (by omega)),e];rfl
    have m:=hpb hi.mi (by omega) l4 fun i h1 h2=>nM o w.sa w.ua (w.sb _ (by omega)) e' (by omega) (by omega);by_cases c:nb-1=1
    ·rw[if_pos (by simpa using c)]
     exact az ⟨k2,.inl ⟨_,rfl,nL w m c⟩⟩
    ·rw[if_neg (by simpa using c)]
     have hi':Hi R a b (out.push (at_ b (nb-1))) na (nb-1):=⟨l1,by omega,l3,by omega,m⟩;split
     ·exact az ⟨k2,.inr ⟨rfl,hi',by rw[b7];omega⟩⟩
     ·exact az ⟨⟨k2,.inr ⟨rfl,hi',by rw[b7];omega⟩⟩,rfl⟩
  ·rintro⟨r,na,nb,out,ac,bc⟩ st2 ⟨⟨k2,h2⟩,e⟩
   obtain⟨_,hi,sz⟩:=h2.resolve_left fun⟨_,e',_⟩=>by rw[e]at e';cases e'
   exact⟨k2,.inr ⟨e,hi,by dsimp only at sz⊢;omega⟩⟩
  ·rintro⟨r,na,nb,out,ac,bc⟩ st2 ⟨k2,h2⟩
   dsimp only at h2⊢;rcases h2 with⟨z,rfl,gz⟩ |⟨rfl,hi,sz⟩
   ·exact az ⟨k2,z,rfl,gz⟩
   dsimp only;refine ao (nz (dZ ⟨rfl,?_⟩));refine ao (ef (cj (I:=fun y c st'=>HiQ κ R a b st (x+2) c.1 c.2.1 c.2.2.1 c.2.2.2.1 st'/\c.1=none) (Q:=fun c st'=>HiQ κ R a b st (x+2) c.1 c.2.1 c.2.2.1 c.2.2.2.1 st') ?_ (fun c st' h=>h.1) ⟨⟨k2,.inr ⟨rfl,hi,sz⟩⟩,rfl⟩) ?_)
   ·rintro y ⟨r,na,nb,out,g,ac,bc⟩ st3 _ hy ⟨⟨k3,h3⟩,rfl⟩
    obtain⟨_,hi,sz⟩:=h3.resolve_left fun⟨_,e,_⟩=>nomatch e;have l1:=hi.ha;have l2:=hi.hb;have l3:=hi.la;have l4:=hi.lb;dsimp only at sz hi l1 l2 l3 l4⊢;by_cases cg:g>1
    case' pos=>
     rw[if_pos cg];have ke:=k3.g (g-1)
    case' neg=>
     rw[if_neg cg];have ke:=k3.g g
    all_goals
     refine ao (eG (ao (cH (cD (by omega)) (ao (gr o (hseg_a w l3 (by omega:nb-1<b.size)) (by omega) k3.kd fun k h1 h2 h3=>?_)))));have up:=hoth_a o w (by omega:nb-1<b.size) l3 h3;have dn:∀i,i<k->i<a.size->R (at_ a i) (at_ b (nb-1))=true:=fun i z _=>by
      have :=h2 i z
      unfold bey at this
      rwa [fc]at this
     dsimp only;by_cases c:na-k>0
     case' pos=>
      rw[if_pos c];have m:=hmany_a hi.mi l3 h1 fun i z1 z2 j z3 z4=>up i z1 z2 j (by omega) z4;by_cases c1:k=0
      ·rw[if_pos (by simpa using c1)]
       exact az ⟨ke,.inl ⟨_,rfl,nK m c1⟩⟩
      rw[if_neg (by simpa using c1)];have f1:0<k:=by omega
      have f2:x+2<=(out++(a.extract k na).reverse).size:=by rw[eF];omega
     case' neg=>
      rw[if_neg c];obtain rfl:k=na:=by omega
      have m:=hi.mi;have f1:=l1;have f2:=sz
     all_goals
      have m2:=hpb m (by omega) l4 dn;refine ao (cH (cD (by omega)) ?_);by_cases c:nb-1=1
      ·rw[if_pos (by simpa using c)]
       exact az ⟨ke,.inl ⟨_,rfl,nL w m2 c⟩⟩
      rw[if_neg (by simpa using c)];refine ao (cH (cD (by omega)) (ao (gr o (hseg_b w (by omega:nb-1<=b.size) (by omega:k-1<a.size)) (by omega) ke.kd fun k' h1' h2' h3'=>?_)));have up':=hoth_b o w (by omega:k-1<a.size) (by omega:nb-1<=b.size) h3';have dn':∀i,i<k'->i<b.size->R (at_ b i) (at_ a (k-1))=true:=fun i z _=>by
       have :=h2' i z
       unfold bey at this
       rwa [fc]at this
      dsimp only;by_cases c:nb-1-k'>0
      case' pos=>
       rw[if_pos c];have m3:=hmany_b m2 (by omega) h1' fun i z1 z2 j z3 z4=>up' i z1 z2 j (by omega) z4;by_cases c1:k'=1
       ·rw[if_pos (by simpa using c1)]
        exact az ⟨ke,.inl ⟨_,rfl,nL w m3 c1⟩⟩
       rw[if_neg (by simpa using c1)];by_cases c2:k'=0
       ·rw[if_pos (by simpa using c2)]
        exact az ⟨ke,.inl ⟨_,rfl,hdone_b m3 c2⟩⟩
       rw[if_neg (by simpa using c2)];have g1:1<k':=by omega
      case' neg=>
       rw[if_neg c];obtain rfl:k'=nb-1:=by omega
       have m3:=m2;have g1:1<nb-1:=by omega
      all_goals
       refine ao (cH (cD (by omega)) ?_);have m4:=hpa m3 f1 (by omega) dn';refine qL (fun c=>az ⟨ke,.inl ⟨_,rfl,nK m4 (Ak c)⟩⟩) fun c=>?_
       ·have c:=Ap c
        have hi':Hi R a b _ _ _:=⟨by omega,g1,by omega,by omega,m4⟩;split
        ·exact az ⟨ke,.inr ⟨rfl,hi',by simp only[b7,eF]at f2⊢;omega⟩⟩
        ·exact az ⟨⟨ke,.inr ⟨rfl,hi',by simp only[b7,eF]at f2⊢;omega⟩⟩,rfl⟩
   ·rintro⟨r,na,nb,out,g,ac,bc⟩ st3 ⟨k3,h3⟩
    dsimp only at h3⊢;rcases h3 with⟨z,rfl,gz⟩ |⟨rfl,hi,sz⟩
    ·exact az ⟨k3,z,rfl,gz⟩
    exact ao (eG (az ⟨⟨k3.g _,.inr ⟨rfl,hi,sz⟩⟩,rfl⟩))
 ·rintro⟨r,na,nb,out,g⟩ st1 ⟨⟨k1,h1⟩,e⟩
  obtain⟨_,hi,sz⟩:=h1.resolve_left fun⟨_,e',_⟩=>by rw[e]at e';cases e'
  have :=hi.size
  have l1:=hi.ha;have l2:=hi.hb;dsimp only at sz this l1 l2;omega
 ·rintro⟨r,na,nb,out,g⟩ st1 ⟨k1,z,e,gz⟩
  dsimp only at e⊢;subst e;exact az (q _ _ k1 gz)
end
noncomputable abbrev Rs(R:Keyed->Keyed->Bool)(l:List Keyed):Prop:=l.Pairwise fun x y=>R x y=true
section
variable {M:Model}{A:Around}{E:Value->Shared->Prop}{s:Shared}{κ:eh}{S:Keyed->Prop}{R:Keyed->Keyed->Bool}
theorem wpS_set{x:SortSt}{Q:PUnit->SortSt->Prop}{st:SortSt}(h:Q ⟨⟩ x):wpS M A E s (set x:StateT SortSt Sem PUnit) Q st:=by
 unfold wpS;rw[StateT.run_set];exact ah ⟨rfl,h⟩
theorem rY{arr:Array Keyed}{U W:List Keyed}(h:arr.toList=U++W){i:Nat}(hi:i<W.length):at_ arr (U.length+i)=W[i]:=by
 have h1:U.length+i<arr.toList.length:=by rw[h,aj];omega
 rw[<-du h1];simp only[h];rw[List.getElem_append_right (by omega)];simp
theorem tG{o:Nat}:∀(l:List Keyed)(n:Nat)(arr:Array Keyed)(P L T:List Keyed),arr.toList=P++(L++T)->P.length=o+n->L.length=l.length->((l.zipIdx n).foldl (fun a x=>a.setIfInBounds (o+x.2) x.1) arr).toList=P++(l++T)
 | [],n,arr,P,L,T,h,h1,h2=>by
  obtain rfl:L=[]:=bQ.mp h2;exact h
 |p::l,n,arr,P,[],T,h,h1,h2=>nomatch h2
 |p::l,n,arr,P,y::L,T,h,h1,h2=>by
  rw[List.zipIdx_cons,qI];have e:(arr.setIfInBounds (o+n) p).toList=(P++[p])++(L++T):=by
   rw[sA,h,<-h1,List.set_append_right _ _ (aw _),Nat.sub_self];simp
  have :=tG l (n+1) (arr.setIfInBounds (o+n) p) (P++[p]) L T e (by rw[aj,cS,h1];rfl) (gw h2)
  rw[this];simp
theorem tp{arr:Array Keyed}{U W V:List Keyed}{key:Keyed}(h:arr.toList=U++(W++V))(u:Rs R W)(hs:∀x∈W,S x)(hk:S key)(nk:key∉W):Seg S R arr U.length W.length key:=by
 have a:∀i (hi:i<W.length),at_ arr (U.length+i)=W[i]:=fun i hi=>by
  rw[rY h (by rw[aj];omega),jf hi]
 refine⟨?_,fun i hi=>?_,fun i j h1 h2=>?_,hk,fun i hi e=>?_⟩
 ·have :arr.toList.length=arr.size:=rfl
  rw[<-this,h,aj,aj];omega
 ·rw[a i hi]
  exact hs _ (bL hi)
 ·rw[a i (by omega),a j h2]
  exact bx.mp u i j (by omega) h2 h1
 ·rw[a i hi]at e
  exact nk (e▸bL hi)
theorem kL{x:Array Keyed}{i:Nat}(h:i<x.size):at_ x i∈x.toList:=by rw[<-du (by simpa using h)];exact bL _
theorem yW{x y:Array Keyed}{z:Keyed}(ux:Rs R x.toList)(uy:Rs R y.toList)(sx:∀p∈x.toList,S p)(sy:∀p∈y.toList,S p)(dj:∀p∈x.toList,∀t∈y.toList,p≠t)(hf:∀t∈x.toList,R (at_ y 0) t=true)(hl:∀t∈y.toList,R t (at_ x (x.size-1))=true)(nx:0<x.size)(ny:0<y.size):Two S R x y where
 sa:=fun i hi=>sx _ (kL hi)
 sb:=fun i hi=>sy _ (kL hi)
 ua:=fun i j h1 h2=>by
  have :=bx.mp ux i j (by rw[ax];omega) (by rw[ax];exact h2) h1
  rwa [du,du]at this
 ub:=fun i j h1 h2=>by
  have :=bx.mp uy i j (by rw[ax];omega) (by rw[ax];exact h2) h1
  rwa [du,du]at this
 dj:=fun i j h1 h2=>dj _ (kL h1) _ (kL h2)
 la:=fun j hj=>hl _ (kL hj)
 fb:=fun i hi=>hf _ (kL hi)
 na:=nx
 nb:=ny
theorem u5(o:Od M A E s κ S R){st:SortSt}{i:Nat}{U P T V:List Keyed}{pw pw':Nat}{Q:Bool->SortSt->Prop}(hk:kindOf st=κ)(hf:cQ st=none)(h:(arrOf st).toList=U++(P++(T++V)))
  (p1:(bO st)[i]? =some (U.length,P.length,pw))(p2:(bO st)[i+1]? =some (U.length+P.length,T.length,pw'))(uP:Rs R P)(uT:Rs R T)(nP:P≠[])(nT:T≠[])(hs:∀x∈(arrOf st).toList,S x)(nd:(arrOf st).toList.Nodup)
  (q:∀(st':SortSt) C,kindOf st'=κ->cQ st'=none->(arrOf st').toList=U++(C++V)->C.Perm (P++T)->Rs R C->bO st'=((bO st).setIfInBounds i (U.length,P.length+T.length,pw)).eraseIdxIfInBounds (i+1)->Q true st'):
  wpS M A E s (mergeAt' i) Q st:=by
 have sP:∀x∈P,S x:=fun x hx=>hs x (by rw[h];simp[hx]);have sT:∀x∈T,S x:=fun x hx=>hs x (by rw[h];simp[hx]);rw[h]at nd;obtain⟨_,nd1,_⟩:=dH.mp nd;obtain⟨_,nd2,dj⟩:=dH.mp nd1;have dj:∀p∈P,∀t∈T,p≠t:=fun p hp t ht=>dj p hp t (aG.mpr (.inl ht));have lP:0<P.length:=dW.mpr nP;have lT:0<T.length:=dW.mpr nT;have h2:(arrOf st).toList=(U++P)++(T++V):=by rw[h];simp
 have aP:∀i (hi:i<P.length),at_ (arrOf st) (U.length+i)=P[i]:=fun i hi=>by rw[rY h (by rw[aj];omega),jf hi]
 have aT:∀i (hi:i<T.length),at_ (arrOf st) (U.length+P.length+i)=T[i]:=fun i hi=>by
  have :=rY h2 (i:=i) (by rw[aj];omega)
  rw[aj]at this;rw[this,jf hi]
 have sz:(arrOf st).size=U.length+(P.length+(T.length+V.length)):=by
  have :(arrOf st).toList.length=(arrOf st).size:=rfl;rw[<-this,h];simp
 have t0:at_ (arrOf st) (U.length+P.length)=T[0]:=aT 0 lT;refine ao (iY ?_);rw[p1,p2];dsimp only;refine ao (wpS_set ?_);obtain⟨st1,hst⟩:∃x,x=eI (kindOf st) (arrOf st) (((bO st).setIfInBounds i (U.length,P.length+T.length,pw)).eraseIdxIfInBounds (i+1)) (yA st) (cQ st):=⟨_,rfl⟩;change wpS M A E s _ Q (eI (kindOf st) (arrOf st) (((bO st).setIfInBounds i (U.length,P.length+T.length,pw)).eraseIdxIfInBounds (i+1)) (yA st) (cQ st));rw[<-hst];have k1:kindOf st1=κ:=by rw[hst];exact hk
 have f1:cQ st1=none:=by rw[hst];exact hf
 have a1:arrOf st1=arrOf st:=by rw[hst]
 have e1:bO st1=((bO st).setIfInBounds i (U.length,P.length+T.length,pw)).eraseIdxIfInBounds (i+1):=by rw[hst]
 have mT0:T[0]∈T:=bL lT;refine ao (cH (cD (show U.length+P.length<(arrOf st).size by omega)) ?_);rw[t0];refine ao (gr o (tp h uP sP (sT _ mT0) fun z=>dj _ z _ mT0 rfl) (by omega) k1 fun k b1 b2 b3=>?_);have lo1:∀i (hi:i<P.length),i<k->R P[i] T[0]=true:=fun i hi hik=>by
  have :=b2 i hik
  unfold bey at this
  rwa [aP i hi]at this
 have hi1:∀i (hi:i<P.length),k<=i->R T[0] P[i]=true:=fun i hi hik=>by
  have :=b3 i hik hi
  unfold bey at this;rw[aP i hi]at this;rw[o.tri _ _ (sT _ mT0) (sP _ (bL hi)) fun e=>dj _ (bL hi) _ mT0 e.symm,this];rfl
 have T0le:∀x y,S x->R x T[0]=true->y∈T->R x y=true:=fun x y sx hx hy=>by
  obtain⟨j,hj,rfl⟩:=aJ.mp hy;rcases Nat.eq_zero_or_pos j with rfl|c
  ·exact hx
  ·exact o.tr _ _ _ sx (sT _ mT0) (sT _ hy) hx (bx.mp uT 0 j lT hj c)
 dsimp only;by_cases c0:P.length-k=0
 ·rw[if_pos (by simpa using c0)]
  refine az (q st1 (P++T) k1 f1 (by rw[a1,h];simp) (eD _) (bU.mpr ⟨uP,uT,fun x hx y hy=>?_⟩) e1);obtain⟨j,hj,rfl⟩:=aJ.mp hx;exact T0le _ _ (sP _ hx) (lo1 j hj (by omega)) hy
 rw[if_neg (by simpa using c0)];have lst:at_ (arrOf st) (U.length+k+(P.length-k)-1)=P[P.length-1]'(by omega):=by
  rw[show U.length+k+(P.length-k)-1=U.length+(P.length-1) by omega];exact aP _ (by omega)
 have mL:P[P.length-1]'(by omega)∈P:=bL _;refine ao (cH (cD (show U.length+k+(P.length-k)-1<(arrOf st).size by omega)) ?_);rw[lst];have sg:=tp h2 uT sT (sP _ mL) fun z=>dj _ mL _ z rfl;rw[aj]at sg;refine ao (gr o sg (by omega) k1 fun m d1 d2 d3=>?_);have lo2:∀i (hi:i<T.length),i<m->R T[i] (P[P.length-1]'(by omega))=true:=fun i hi hik=>by
  have :=d2 i hik
  unfold bey at this
  rwa [aT i hi]at this
 have hi2:∀i (hi:i<T.length),m<=i->R (P[P.length-1]'(by omega)) T[i]=true:=fun i hi hik=>by
  have :=d3 i hik hi
  unfold bey at this;rw[aT i hi]at this;rw[o.tri _ _ (sP _ mL) (sT _ (bL hi)) (dj _ mL _ (bL hi)),this];rfl
 dsimp only;by_cases c1:m=0
 ·have z1:=hi1 (P.length-1) (by omega) (by omega)
  have z2:=hi2 0 lT (by omega);rw[o.asym (sT _ mT0) (sP _ mL) z1]at z2;cases z2
 rw[if_neg (by simpa using c1)];have eP:P=P.take k++P.drop k:=(bf k P).symm;have eT:T=T.take m++T.drop m:=(bf m T).symm;have ex:((arrOf st).extract (U.length+k) (U.length+P.length)).toList=P.drop k:=by
  have hh:(arrOf st).toList=(U++P.take k)++(P.drop k++(T++V)):=by
   rw[h,bt,<-bt (P.take k),bf]
  rw[cG,bW,hh,show U.length+k=(U++P.take k).length by rw[aj,aF];omega,List.drop_left,aj,aF,show U.length+P.length-(U.length+min k P.length)=(P.drop k).length by rw[bq];omega,List.take_left]
 have ey:((arrOf st).extract (U.length+P.length) (U.length+P.length+m)).toList=T.take m:=by
  rw[oP,h2,show U.length+P.length=(U++P).length by rw[aj],List.drop_left,List.take_append_of_le_length (by omega)]
 have mx:∀{x},x∈P.drop k->x∈P:=fun hx=>kT hx;have my:∀{x},x∈T.take m->x∈T:=fun hx=>dI hx;have dR:∀{x},x∈P.drop k->R T[0] x=true:=fun{x} hx=>by
  obtain⟨j,hj,rfl⟩:=aJ.mp hx;rw[bq]at hj;rw[cL];exact hi1 _ _ (by omega)
 have dL:∀{x},x∈T.take m->R x (P[P.length-1]'(by omega))=true:=fun{x} hx=>by
  obtain⟨j,hj,rfl⟩:=aJ.mp hx;rw[aF]at hj;rw[bS];exact lo2 _ _ (by omega)
 generalize hx:(arrOf st).extract (U.length+k) (U.length+P.length)=x at ex;generalize hy:(arrOf st).extract (U.length+P.length) (U.length+P.length+m)=y at ey;have xs:x.size=P.length-k:=by rw[<-ax,ex,bq]
 have ys:y.size=m:=by rw[<-ax,ey,aF];omega
 have y0:at_ y 0=T[0]:=by
  rw[<-du (by rw[ax,ys];omega)];simp only[ey];rw[bS]
 have xl:at_ x (x.size-1)=P[P.length-1]'(by omega):=by
  rw[<-du (by rw[ax];omega)];simp only[ex,xs];rw[cL];congr 1;omega
 have tw:Two S R x y:=yW (z:=T[0]) (by rw[ex];exact uP.sublist (List.drop_sublist _ _)) (by rw[ey];exact uT.sublist (fN _ _)) (fun p hp=>sP _ (mx (by rwa [ex]at hp))) (fun p hp=>sT _ (my (by rwa [ey]at hp))) (fun p hp t ht=>dj _ (mx (by rwa [ex]at hp)) _ (my (by rwa [ey]at ht)))
  (fun t ht=>by rw[y0];exact dR (by rwa [ex]at ht)) (fun t ht=>by rw[xl];exact dL (by rwa [ey]at ht)) (by omega) (by omega)
 have fin:∀(r:Array Keyed)(st2:SortSt),Ke κ st1 st2->Good R (x.toList++y.toList) r->Q (cQ (eI (kindOf st2) (r.toList.zipIdx.foldl (fun a z=>a.setIfInBounds (U.length+k+z.2) z.1) (arrOf st2)) (bO st2) (yA st2) (cQ st2))).isNone (eI (kindOf st2) (r.toList.zipIdx.foldl (fun a z=>a.setIfInBounds (U.length+k+z.2) z.1) (arrOf st2)) (bO st2) (yA st2) (cQ st2)):=fun r st2 ke gd=>by
  obtain⟨g1,g2⟩:=gd;rw[ex,ey]at g1;have hfl:cQ st2=none:=ke.fa.trans f1;have e2:(cQ (eI (kindOf st2) (r.toList.zipIdx.foldl (fun a z=>a.setIfInBounds (U.length+k+z.2) z.1) (arrOf st2)) (bO st2) (yA st2) (cQ st2))).isNone=true:=by
   show(cQ st2).isNone=true;rw[hfl];rfl
  rw[e2];have hh:(arrOf st2).toList=(U++P.take k)++((P.drop k++T.take m)++(T.drop m++V)):=by
   simp only[bt];rw[ke.ar,a1,h,<-bt (P.take k),bf,<-bt (T.take m),bf]
  have pl:=tG (o:=U.length+k) r.toList 0 (arrOf st2) _ _ _ hh (by rw[aj,aF];omega) g1.length_eq.symm;refine q _ (P.take k++(r.toList++T.drop m)) ke.kd hfl ?_ ?_ ?_ (ke.pe.trans e1)
  ·show((r.toList.zipIdx.foldl (fun a z=>a.setIfInBounds (U.length+k+z.2) z.1) (arrOf st2))).toList=_
   rw[pl];simp
  ·have pm:=(g1.append_right (T.drop m)).append_left (P.take k)
   have e:P.take k++(P.drop k++T.take m++T.drop m)=P++T:=by rw[bt (P.drop k),<-bt (P.take k),bf,bf]
   rwa [e]at pm
  ·have mr:∀{z},z∈r.toList->z∈P.drop k\/z∈T.take m:=fun hz=>aG.mp (g1.mem_iff.mp hz)
   have uP':Rs R (P.take k++P.drop k):=by rw[<-eP];exact uP
   have uT':Rs R (T.take m++T.drop m):=by rw[<-eT];exact uT
   obtain⟨v1,v2,v3⟩:=bU.mp uP';obtain⟨v4,v5,v6⟩:=bU.mp uT';have low:∀{p},p∈P.take k->R p T[0]=true:=fun{p} hp=>by
    obtain⟨j,hj,rfl⟩:=aJ.mp hp;rw[aF]at hj;rw[bS];exact lo1 _ _ (by omega)
   refine bU.mpr ⟨v1,bU.mpr ⟨g2,v5,fun p hp t ht=>?_⟩,fun p hp t ht=>?_⟩
   ·rcases mr hp with z|z
    ·have tt:R (P[P.length-1]'(by omega)) t=true:=by
      obtain⟨j,hj,rfl⟩:=aJ.mp ht;rw[bq]at hj;rw[cL];exact hi2 _ _ (by omega)
     obtain⟨j,hj,rfl⟩:=aJ.mp (mx z);rcases ix j (P.length-1)with c|c
     ·exact o.tr _ _ _ (sP _ (mx z)) (sP _ mL) (sT _ (kT ht)) (bx.mp uP j _ hj (by omega) c) tt
     ·have :j=P.length-1:=by omega
      subst this;exact tt
    ·exact v6 p z t ht
   ·rcases aG.mp ht with z|z
    ·rcases mr z with y|y
     ·exact v3 p hp t y
     ·exact T0le _ _ (sP _ (dI hp)) (low hp) (my y)
    ·exact T0le _ _ (sP _ (dI hp)) (low hp) (kT z)
 refine qL (fun _=>ao ?_) fun _=>ao ?_
 ·exact u0 o tw k1 fun r st2 ke gd=>ao (eG (ao (iY (az (fin r st2 ke gd)))))
 ·exact u4 o tw k1 fun r st2 ke gd=>ao (eG (ao (iY (az (fin r st2 ke gd)))))
end
noncomputable def Up(R:Keyed->Keyed->Bool)(arr:Array Keyed)(lo n:Nat):Prop:=∀i j,i<j->j<n->R (at_ arr (lo+i)) (at_ arr (lo+j))=true
noncomputable def Dn(R:Keyed->Keyed->Bool)(arr:Array Keyed)(lo n:Nat):Prop:=∀i j,i<j->j<n->R (at_ arr (lo+j)) (at_ arr (lo+i))=true
section
variable {M:Model}{A:Around}{E:Value->Shared->Prop}{s:Shared}{κ:eh}{S:Keyed->Prop}{R:Keyed->Keyed->Bool}{arr:Array Keyed}{lo nrem n:Nat}{st:SortSt}
structure Al(S:Keyed->Prop)(arr:Array Keyed):Prop where
 hs:∀x∈arr.toList,S x
 nd:arr.toList.Nodup
theorem Al.inS(h:Al S arr){i:Nat}(hi:i<arr.size):S (at_ arr i):=h.hs _ (kL hi)
theorem Al.ne(h:Al S arr){i j:Nat}(hi:i<arr.size)(hj:j<arr.size)(n:i≠j):at_ arr i≠at_ arr j:=fun e=>by
 rw[<-du (by simpa using hi),<-du (by simpa using hj)]at e;exact n ((cW h.nd).mp e)
theorem Al.perm{arr':Array Keyed}(h:Al S arr)(p:arr'.Perm arr):Al S arr':=by
 have q:=cJ.mp p;exact⟨fun x hx=>h.hs x (q.mem_iff.mp hx),q.nodup_iff.mpr h.nd⟩
theorem flip(o:Od M A E s κ S R)(h:Al S arr){i j:Nat}(hi:i<arr.size)(hj:j<arr.size)(n:i≠j)(e:R (at_ arr i) (at_ arr j)=false):R (at_ arr j) (at_ arr i)=true:=by
 rw[o.tri _ _ (h.inS hj) (h.inS hi) (h.ne hj hi fun z=>n z.symm),e];rfl
theorem qk(o:Od M A E s κ S R)(hk:kindOf st=κ)(h:Al S (arrOf st)){i j:Nat}{Q:Option Bool->SortSt->Prop}(hi:i<(arrOf st).size)(hj:j<(arrOf st).size)(n:i≠j)(q:Q (some (R (at_ (arrOf st) i) (at_ (arrOf st) j))) st):wpS M A E s (ltAt' i j) Q st:=
 ao (iY (ao (cH (cD hi) (ao (cH (cD hj) (o.ask _ _ _ _ (h.inS hi) (h.inS hj) (h.ne hi hj n) hk q))))))
theorem Up.succ(o:Od M A E s κ S R)(h:Al S arr)(hn:lo+n<arr.size)(h1:1<=n)(u:Up R arr lo n)(e:R (at_ arr (lo+n-1)) (at_ arr (lo+n))=true):Up R arr lo (n+1):=fun i j hij hj=>by
 by_cases c:j=n
 ·subst c
  by_cases c2:i=j-1
  ·subst c2
   rwa [show lo+j-1=lo+(j-1) by omega]at e
  ·have :=u i (j-1) (by omega) (by omega)
   rw[show lo+j-1=lo+(j-1) by omega]at e;exact o.tr _ _ _ (h.inS (by omega)) (h.inS (by omega)) (h.inS hn) this e
 ·exact u i j hij (by omega)
theorem Dn.succ(o:Od M A E s κ S R)(h:Al S arr)(hn:lo+n<arr.size)(h1:1<=n)(u:Dn R arr lo n)(e:R (at_ arr (lo+n)) (at_ arr (lo+n-1))=true):Dn R arr lo (n+1):=fun i j hij hj=>by
 by_cases c:j=n
 ·subst c
  by_cases c2:i=j-1
  ·subst c2
   rwa [show lo+j-1=lo+(j-1) by omega]at e
  ·have :=u i (j-1) (by omega) (by omega)
   rw[show lo+j-1=lo+(j-1) by omega]at e;exact o.tr _ _ _ (h.inS hn) (h.inS (by omega)) (h.inS (by omega)) e this
 ·exact u i j hij (by omega)
theorem uD(o:Od M A E s κ S R)(h:Al S arr){f:Nat->Option (Option Nat)×Nat->StateT SortSt Sem (ForInStep (Option (Option Nat)×Nat))}{Q:Option (Option Nat)×Nat->SortSt->Prop}{n0:Nat}(hz:lo+nrem<=arr.size)
  (hf:∀x n (Q':ForInStep (Option (Option Nat)×Nat)->SortSt->Prop),1<=n->n<nrem->(R (at_ arr (lo+n)) (at_ arr (lo+n-1))=true->Q' (.done (none,n)) st)->(R (at_ arr (lo+n)) (at_ arr (lo+n-1))=false->Q' (.yield (none,n+1)) st)->wpS M A E s (f x (none,n)) Q' st)
  (h1:1<=n0)(h2:n0<=nrem)(u:Up R arr lo n0)(q:∀n,n0<=n->n<=nrem->Up R arr lo n->(n=nrem\/R (at_ arr (lo+n)) (at_ arr (lo+n-1))=true)->Q (none,n) st):wpS M A E s (forIn [n0:nrem] (none,n0) f) Q st:=by
 refine cj (I:=fun x c st'=>st'=st/\c=(none,x)/\n0<=x/\x<=nrem/\Up R arr lo x) ?_ ?_ ⟨rfl,rfl,aw _,h2,u⟩
 ·rintro x c st' _ hx ⟨rfl,rfl,a1,a2,a3⟩
  refine hf _ _ _ (by omega) hx (fun e=>q x a1 a2 a3 (.inr e)) fun e=>⟨rfl,rfl,by omega,hx,a3.succ o h (by omega) (by omega) (flip o h (by omega) (by omega) (by omega) e)⟩
 ·rintro c st' ⟨rfl,rfl,a1,a2,a3⟩
  rw[Nat.max_eq_right h2]at a3⊢;exact q nrem h2 (aw _) a3 (.inl rfl)
theorem yu{n:Nat}(hn:lo+n<=arr.size)(k:Nat):at_ (mirror arr lo (lo+n) ((lo+n-lo)/2)) k=if lo<=k/\k<lo+n then at_ arr (lo+(lo+n)-1-k)else at_ arr k:=by
 unfold at_;rw[bN,getElem?_mirror_all hn];split <;>rw[bN]
theorem sN(o:Od M A E s κ S R)(hk:kindOf st=κ)(h:Al S (arrOf st)){Q:Option Nat->SortSt->Prop}(h1:1<=nrem)(hz:lo+nrem<=(arrOf st).size)
  (q:∀n arr',1<=n->n<=nrem->arr'.Perm (arrOf st)->(∀k,k<lo->at_ arr' k=at_ (arrOf st) k)->Up R arr' lo n->Q (some n) (setArr st arr')):wpS M A E s (countRun' lo nrem) Q st:=by
 refine ao (uD o h hz (fun x n Q' z1 z2 f1 f2=>?_) (aw _) h1 (fun i j _ _=>by omega) fun n a1 a2 a3 a4=>?_)
 ·dsimp only
  refine ao (qk o hk h (by omega) (by omega) (by omega) ?_);cases e:R (at_ (arrOf st) (lo+n)) (at_ (arrOf st) (lo+n-1))with
  |true=>exact az (f1 e)
  |false=>exact az (f2 e)
 dsimp only;by_cases c:n=nrem
 ·rw[if_pos (by simpa using c)]
  exact az (q n (arrOf st) a1 a2 (fX _) (fun _ _=>rfl) a3)
 rw[if_neg (by simpa using c)];by_cases d:n>1
 ·rw[if_pos d]
  refine ao (qk o hk h (by omega) (by omega) (by omega) ?_);have e:=a3 0 (n-1) (by omega) (by omega);rw[Nat.add_zero,show lo+(n-1)=lo+n-1 by omega]at e;rw[e];exact az (q n (arrOf st) a1 a2 (fX _) (fun _ _=>rfl) a3)
 rw[if_neg d];obtain rfl:n=1:=by omega
 have e1:=a4.resolve_left c;refine ao (nz (dZ ⟨rfl,?_⟩));refine ao (ef (cj (I:=fun x c st'=>st'=st/\c=(none,x,0)/\2<=x/\x<=nrem/\Dn R (arrOf st) lo x) (Q:=fun c st'=>st'=st/\∃x,c=(none,x,0)/\2<=x/\x<=nrem/\Dn R (arrOf st) lo x) ?_ ?_ ⟨rfl,rfl,by omega,by omega,fun i j hij hj=>?_⟩) ?_)
 ·rintro x c st' _ hx ⟨rfl,rfl,b1,b2,b3⟩
  dsimp only;refine ao (qk o hk h (by omega) (by omega) (by omega) ?_);cases e:R (at_ (arrOf st') (lo+x)) (at_ (arrOf st') (lo+x-1))with
  |true=>
   dsimp only;rw[if_pos rfl,if_neg (by omega)];exact az ⟨rfl,rfl,by omega,hx,b3.succ o h (by omega) (by omega) e⟩
  |false=>
   dsimp only;rw[if_neg (by decide)];refine ao (qk o hk h (by omega) (by omega) (by omega) ?_);rw[flip o h (by omega) (by omega) (by omega) e];exact az ⟨rfl,x,rfl,b1,b2,b3⟩
 ·rintro c st' ⟨rfl,rfl,b1,b2,b3⟩
  exact⟨rfl,_,rfl,b1,b2,b3⟩
 ·obtain rfl:j=1:=by omega
  obtain rfl:i=0:=by omega
  exact e1
 ·rintro c st' ⟨rfl,x,rfl,b1,b2,b3⟩
  dsimp only;rw[if_neg (by omega)];refine ao (eG ?_);have pm:(mirror (arrOf st') lo (lo+x) ((lo+x-lo)/2)).Perm (arrOf st'):=mirror_perm _ _ _ _;have h':=h.perm pm;have sz':(mirror (arrOf st') lo (lo+x) ((lo+x-lo)/2)).size=(arrOf st').size:=pm.size_eq;have am:=yu (arr:=arrOf st') (lo:=lo) (n:=x) (by omega);have ar:arrOf (setArr st' (mirror (arrOf st') lo (lo+x) ((lo+x-lo)/2)))=mirror (arrOf st') lo (lo+x) ((lo+x-lo)/2):=rfl;change wpS M A E s _ Q (setArr st' (mirror (arrOf st') lo (lo+x) ((lo+x-lo)/2)));generalize mirror (arrOf st') lo (lo+x) ((lo+x-lo)/2)=ar' at pm h' sz' am ar;refine ao (uD o h' (by rw[sz'];exact hz) (fun x n Q' z1 z2 f1 f2=>?_) (by omega) b2 (fun i j hij hj=>?_) fun n a1 a2 a3 a4=>?_)
  ·dsimp only
   refine ao (qk (st:=setArr st' ar') o hk h' (by rw[ar,sz'];omega) (by rw[ar,sz'];omega) (by omega) ?_);rw[ar];cases e:R (at_ ar' (lo+n)) (at_ ar' (lo+n-1))with
   |true=>exact az (f1 e)
   |false=>exact az (f2 e)
  ·rw[am,am,if_pos (by omega),if_pos (by omega),show lo+(lo+x)-1-(lo+i)=lo+(x-1-i) by omega,show lo+(lo+x)-1-(lo+j)=lo+(x-1-j) by omega]
   exact b3 _ _ (by omega) (by omega)
  ·exact az (q n ar' (by omega) a2 pm (fun k hk=>by rw[am,if_neg (by omega)]) a3)
theorem yv{src d:Nat}(hs:src<arr.size)(hd:d<=src)(k:Nat):at_ (bubble arr src d) k=if k=src-d then at_ arr src else if src-d<k/\k<=src then at_ arr (k-1)else at_ arr k:=by
 unfold at_;rw[bN,getElem?_bubble hs d hd,bN,bN,bN];split
 ·rfl
 ·split <;>rfl
theorem pE(o:Od M A E s κ S R)(hk:kindOf st=κ)(h:Al S (arrOf st)){Q:Bool->SortSt->Prop}{ok:Nat}(h1:1<=ok)(h2:ok<=n)(hz:lo+n<=(arrOf st).size)(u:Up R (arrOf st) lo ok)
  (q:∀arr',arr'.Perm (arrOf st)->(∀k,k<lo->at_ arr' k=at_ (arrOf st) k)->Up R arr' lo n->Q true (setArr st arr')):wpS M A E s (binarySort' lo n ok) Q st:=by
 refine ao (ef (cj (I:=fun x c st'=>c=(none,())/\∃ar,st'=setArr st ar/\ar.Perm (arrOf st)/\(∀k,k<lo->at_ ar k=at_ (arrOf st) k)/\ok<=x/\Up R ar lo x) (Q:=fun c st'=>c=(none,())/\∃ar,st'=setArr st ar/\ar.Perm (arrOf st)/\(∀k,k<lo->at_ ar k=at_ (arrOf st) k)/\Up R ar lo n) ?_ ?_ ⟨rfl,arrOf st,rfl,fX _,fun _ _=>rfl,by omega,by rw[Nat.max_eq_left h1];exact u⟩) ?_)
 ·rintro k c st' hk1 hk2 ⟨rfl,ar,rfl,pm,below,ok1,u⟩
  have h':=h.perm pm;have sz':ar.size=(arrOf st).size:=pm.size_eq;have ea:arrOf (setArr st ar)=ar:=rfl;dsimp only;refine ao (ef (cj (I:=fun x c st'=>st'=setArr st ar/\∃l r,c=(none,l,r)/\l<=r/\r<=k/\r-l+x<=k/\(∀i,i<l->R (at_ ar (lo+i)) (at_ ar (lo+k))=true)/\(∀i,r<=i->i<k->R (at_ ar (lo+k)) (at_ ar (lo+i))=true))
   (Q:=fun c st'=>st'=setArr st ar/\∃l,c=(none,l,l)/\l<=k/\(∀i,i<l->R (at_ ar (lo+i)) (at_ ar (lo+k))=true)/\(∀i,l<=i->i<k->R (at_ ar (lo+k)) (at_ ar (lo+i))=true)) ?_ ?_ ⟨rfl,0,k,rfl,aX _,aw _,by omega,(fun i hi=>absurd hi (gP _)),fun i z1 z2=>by omega⟩) ?_)
  ·rintro x c st2 _ hx ⟨rfl,l,r,rfl,a1,a2,a3,a4,a5⟩
   dsimp only;by_cases c:l≥ r
   ·rw[if_pos c]
    obtain rfl:l=r:=by omega
    exact az ⟨rfl,l,rfl,a2,a4,a5⟩
   ·rw[if_neg c]
    refine ao (qk (st:=setArr st ar) o hk h' (by rw[ea,sz'];omega) (by rw[ea,sz'];omega) (by omega) ?_);rw[ea];cases e:R (at_ ar (lo+k)) (at_ ar (lo+(l+r)/2))with
    |true=>
     refine az ⟨rfl,_,_,rfl,by omega,by omega,by omega,a4,fun i z1 z2=>?_⟩;by_cases z:i=(l+r)/2
     ·rw[z];exact e
     ·exact o.tr _ _ _ (h'.inS (by omega)) (h'.inS (by omega)) (h'.inS (by omega)) e (u _ _ (by omega) (by omega))
    |false=>
     have e':=flip o h' (by omega) (by omega) (by omega) e;refine az ⟨rfl,_,_,rfl,by omega,a2,by omega,fun i z1=>?_,a5⟩;by_cases z:i=(l+r)/2
     ·rw[z];exact e'
     ·exact o.tr _ _ _ (h'.inS (by omega)) (h'.inS (by omega)) (h'.inS (by omega)) (u _ _ (by omega) (by omega)) e'
  ·rintro c st2 ⟨rfl,l,r,rfl,a1,a2,a3,a4,a5⟩
   obtain rfl:l=r:=by omega
   exact⟨rfl,l,rfl,a2,a4,a5⟩
  ·rintro c st2 ⟨rfl,l,rfl,a2,a4,a5⟩
   dsimp only;refine ao (eG (az ?_));have ab:=yv (arr:=ar) (src:=lo+k) (d:=k-l) (by omega) (by omega);rw[show lo+k-(k-l)=lo+l by omega]at ab;refine⟨rfl,bubble ar (lo+k) (lo+k-(lo+l)),rfl,(bubble_perm _ _ _).trans pm,?_⟩;rw[show lo+k-(lo+l)=k-l by omega];refine⟨fun i hi=>by rw[ab,if_neg (by omega),if_neg (by omega)];exact below i hi,by omega,fun i j hij hj=>?_⟩;have v1:at_ (bubble ar (lo+k) (k-l)) (lo+l)=at_ ar (lo+k):=by rw[ab,if_pos rfl]
   have v2:∀i,i<l->at_ (bubble ar (lo+k) (k-l)) (lo+i)=at_ ar (lo+i):=fun i z=>by rw[ab,if_neg (by omega),if_neg (by omega)]
   have v3:∀i,l<i->i<=k->at_ (bubble ar (lo+k) (k-l)) (lo+i)=at_ ar (lo+(i-1)):=fun i z1 z2=>by rw[ab,if_neg (by omega),if_pos (by omega),show lo+i-1=lo+(i-1) by omega]
   rcases Nat.lt_trichotomy i l with c|c|c
   ·rw[v2 i c]
    rcases Nat.lt_trichotomy j l with d|d|d
    ·rw[v2 j d]
     exact u _ _ hij (by omega)
    ·rw[d,v1]
     exact a4 i c
    ·rw[v3 j d (by omega)]
     exact u _ _ (by omega) (by omega)
   ·rw[c,v1,v3 j (by omega) (by omega)]
    exact a5 _ (by omega) (by omega)
   ·rw[v3 i c (by omega),v3 j (by omega) (by omega)]
    exact u _ _ (by omega) (by omega)
 ·rintro c st' ⟨rfl,ar,rfl,pm,below,_,u⟩
  rw[show max (max ok 1) n=n by omega]at u;exact⟨rfl,ar,rfl,pm,below,u⟩
 ·rintro c st' ⟨rfl,ar,rfl,pm,below,u⟩
  exact az (q ar pm below u)
end
noncomputable def Pn:Nat->List (Nat×Nat×Nat)->List (List Keyed)->Prop
 |_,[],[]=>True
 |o,p::ps,G::gs=>p.1=o/\p.2.1=G.length/\Pn (o+G.length) ps gs
 |_,_,_=>False
theorem Pn.len:∀{o:Nat}{ps:List (Nat×Nat×Nat)}{gs:List (List Keyed)},Pn o ps gs->ps.length=gs.length
 |_,[],[],_=>rfl
 |_,[],_::_,h=>h.elim
 |_,_::_,[],h=>h.elim
 |_,_::ps,_::gs,h=>by rw[aS,aS,Pn.len h.2.2]
theorem Pn.snoc:∀{o:Nat}{ps:List (Nat×Nat×Nat)}{gs:List (List Keyed)}{G:List Keyed}{w:Nat},Pn o ps gs->Pn o (ps++[(o+gs.flatten.length,G.length,w)]) (gs++[G])
 |o,[],[],G,w,_=>⟨rfl,rfl,trivial⟩
 |_,[],_::_,_,_,h=>h.elim
 |_,_::_,[],_,_,h=>h.elim
 |o,p::ps,F::gs,G,w,h=>by
  refine⟨h.1,h.2.1,?_⟩;have :=Pn.snoc (G:=G) (w:=w) h.2.2
  rwa [fQ,aj,<-jn]
theorem Pn.at:∀{o:Nat}{ps:List (Nat×Nat×Nat)}{g1 g2:List (List Keyed)}{P T:List Keyed},Pn o ps (g1++P::T::g2)->∃w w',ps[g1.length]? =some (o+g1.flatten.length,P.length,w)/\ps[g1.length+1]? =some (o+g1.flatten.length+P.length,T.length,w')
 |_,[],[],_,_,_,h=>h.elim
 |_,[_],[],_,_,_,h=>h.2.2.elim
 |o,(a,b,w)::(a',b',w')::ps,[],_,P,T,h=>by
  obtain⟨h1,h2,h3,h4,_⟩:=h;dsimp only at h1 h2 h3 h4;subst h1 h2 h3 h4;exact⟨w,w',rfl,rfl⟩
 |_,[],_::_,_,_,_,h=>h.elim
 |o,p::ps,F::g1,g2,P,T,h=>by
  obtain⟨w,w',e1,e2⟩:=Pn.at (g1:=g1) h.2.2;refine⟨w,w',?_,?_⟩
  ·rw[aS,fH,e1,fQ,aj,<-jn]
  ·rw[aS,fH,e2,fQ,aj,<-jn]
theorem Pn.merge:∀{o:Nat}{ps:List (Nat×Nat×Nat)}{g1 g2:List (List Keyed)}{P T C:List Keyed}{w:Nat},Pn o ps (g1++P::T::g2)->C.length=P.length+T.length->Pn o ((ps.set g1.length (o+g1.flatten.length,P.length+T.length,w)).eraseIdx (g1.length+1)) (g1++C::g2)
 |_,[],[],_,_,_,_,_,h,_=>h.elim
 |_,[_],[],_,_,_,_,_,h,_=>h.2.2.elim
 |o,p::p'::ps,[],g2,P,T,C,w,h,hc=>by
  refine⟨rfl,hc.symm,?_⟩;have :=h.2.2.2.2
  rwa [jn,<-hc]at this
 |_,[],_::_,_,_,_,_,_,h,_=>h.elim
 |o,p::ps,F::g1,g2,P,T,C,w,h,hc=>by
  refine⟨h.1,h.2.1,?_⟩;have :=Pn.merge (g1:=g1) (w:=w) h.2.2 hc
  rwa [fQ,aj,<-jn]
theorem Pn.mod:∀{o:Nat}{ps:List (Nat×Nat×Nat)}{gs:List (List Keyed)}{f:Nat×Nat×Nat->Nat×Nat×Nat}(i:Nat),(∀x,(f x).1=x.1/\(f x).2.1=x.2.1)->Pn o ps gs->Pn o (ps.modify i f) gs
 |_,[],[],_,_,_,_=>by rw[List.modify_nil];trivial
 |_,[],_::_,_,_,_,h=>h.elim
 |_,_::_,[],_,_,_,h=>h.elim
 |o,p::ps,G::gs,f,0,hf,h=>⟨(hf p).1.trans h.1,(hf p).2.trans h.2.1,h.2.2⟩
 |o,p::ps,G::gs,f,i+1,hf,h=>⟨h.1,h.2.1,Pn.mod i hf h.2.2⟩
section
variable {M:Model}{A:Around}{E:Value->Shared->Prop}{s:Shared}{κ:eh}{S:Keyed->Prop}{R:Keyed->Keyed->Bool}{a₀:Array Keyed}{st:SortSt}{gs:List (List Keyed)}{rest:List Keyed}
structure Ri(κ:eh)(R:Keyed->Keyed->Bool)(a₀:Array Keyed)(st:SortSt)(gs:List (List Keyed))(rest:List Keyed):Prop where
 kd:kindOf st=κ
 fa:cQ st=none
 ar:(arrOf st).toList=gs.flatten++rest
 pe:Pn 0 (bO st).toList gs
 up:∀G∈gs,Rs R G/\G≠[]
 pm:(arrOf st).Perm a₀
theorem Ri.al(r:Ri κ R a₀ st gs rest)(h:Al S a₀):Al S (arrOf st):=h.perm r.pm
theorem Ri.sz(r:Ri κ R a₀ st gs rest):gs.flatten.length+rest.length=a₀.size:=by
 rw[<-r.pm.size_eq,<-ax,r.ar,aj]
theorem Ri.psz(r:Ri κ R a₀ st gs rest):(bO st).size=gs.length:=by rw[<-r.pe.len,ax]
theorem sM(o:Od M A E s κ S R)(h0:Al S a₀){g1 g2:List (List Keyed)}{P T:List Keyed}{Q:Bool->SortSt->Prop}(r:Ri κ R a₀ st (g1++P::T::g2) rest)
  (q:∀st' C,C.length=P.length+T.length->Ri κ R a₀ st' (g1++C::g2) rest->Q true st'):wpS M A E s (mergeAt' g1.length) Q st:=by
 have al:=r.al h0;obtain⟨w,w',e1,e2⟩:=r.pe.at;rw[fc]at e1 e2;have uP:=r.up P (by simp);have uT:=r.up T (by simp);have ar:(arrOf st).toList=g1.flatten++(P++(T++(g2.flatten++rest))):=by rw[r.ar];simp
 refine u5 o r.kd r.fa ar (by rw[<-cR];exact e1) (by rw[<-cR];exact e2) uP.1 uT.1 uP.2 uT.2 al.hs al.nd fun st' C k1 k2 k3 k4 k5 k6=>?_;have cl:C.length=P.length+T.length:=by rw[k4.length_eq,aj]
 refine q st' C cl ⟨k1,k2,by rw[k3];simp,?_,fun G hG=>?_,?_⟩
 ·have :=r.pe.merge (w:=w) cl
  rw[fc]at this;rw[k6,Array.toList_eraseIdxIfInBounds,sA];exact this
 ·rcases aG.mp hG with z|z
  ·exact r.up G (aG.mpr (.inl z))
  ·rcases aD.mp z with rfl|z
   ·refine⟨k5,fun e=>?_⟩
    rw[e]at cl;exact uP.2 (bQ.mp (by rw[cN]at cl;omega))
   ·exact r.up G (by simp[z])
 ·refine .trans ?_ r.pm
  rw[cJ,k3,ar];have :=k4.append_right (g2.flatten++rest);rw[bt P]at this;exact this.append_left _
theorem Ri.grow(r:Ri κ R a₀ st gs rest){arr':Array Keyed}(pm:arr'.Perm (arrOf st))(below:∀k,k<gs.flatten.length->at_ arr' k=at_ (arrOf st) k):Ri κ R a₀ (setArr st arr') gs (arr'.toList.drop gs.flatten.length):=by
 have e:arr'.toList.take gs.flatten.length=gs.flatten:=by
  have hl:arr'.toList.length=(arrOf st).toList.length:=by rw[ax,ax,pm.size_eq]
  have h2:gs.flatten=(arrOf st).toList.take gs.flatten.length:=by rw[r.ar,List.take_left]
  have h3:(arrOf st).toList.length=gs.flatten.length+rest.length:=by rw[r.ar,aj]
  conv =>rhs;rw[h2]
  apply cX
  ·rw[aF,aF,hl]
  ·intro i h4 h5
   rw[aF]at h4;rw[bS,bS,du,du];exact below i (by omega)
 refine⟨r.kd,r.fa,?_,r.pe,r.up,pm.trans r.pm⟩;show arr'.toList=_
 conv =>lhs;rw[<-bf gs.flatten.length arr'.toList]
 rw[e]
theorem wj{arr:Array Keyed}{lo n:Nat}(u:Up R arr lo n)(h:lo+n<=arr.size):Rs R ((arr.toList.drop lo).take n):=by
 refine bx.mpr fun i j hi hj hij=>?_;rw[aF,bq,ax]at hi hj;rw[bS,bS,cL,cL,du,du];exact u i j hij (by omega)
theorem Ri.push(r:Ri κ R a₀ st gs rest){n:Nat}(h1:1<=n)(h2:n<=rest.length)(u:Rs R (rest.take n)){ps:Array (Nat×Nat×Nat)}(hp:Pn 0 ps.toList gs):Ri κ R a₀ (setPending st (ps.push (gs.flatten.length,n,0))) (gs++[rest.take n]) (rest.drop n) where
 kd:=r.kd
 fa:=r.fa
 ar:=by
  show(arrOf st).toList=_;rw[r.ar,Bi,jY,bt,bf]
 pe:=by
  show Pn 0 (ps.push _).toList _;have :=hp.snoc (G:=rest.take n) (w:=0);rw[fc,aF,fF h2]at this;rw[dh];exact this
 up:=fun G hG=>by
  rcases aG.mp hG with z|z
  ·exact r.up G z
  ·rw[aB.mp z]
   exact⟨u,fun e=>by have :=congrArg pU e;rw[aF,cN]at this;omega⟩
 pm:=r.pm
theorem t9{α:Type}:∀(l:List α),1<l.length->∃l' a b,l=l'++[a,b]
 | [],h=>by simp at h
 | [_],h=>by simp at h
 | [a,b],_=>⟨[],a,b,rfl⟩
 |a::b::c::l,_=>by
  obtain⟨l',x,y,e⟩:=t9 (b::c::l) (by simp);exact⟨a::l',x,y,by rw[e];rfl⟩
theorem tf{α:Type}:∀(l:List α)(i:Nat),i+1<l.length->∃l1 a b l2,l=l1++a::b::l2/\l1.length=i
 | [],_,h=>by simp at h
 | [_],_,h=>by simp at h
 |a::b::l,0,_=>⟨[],a,b,l,rfl,rfl⟩
 |a::b::l,i+1,h=>by
  obtain⟨l1,x,y,l2,e,hl⟩:=tf (b::l) i (by simp at h⊢;omega);exact⟨a::l1,x,y,l2,by rw[e];rfl,by rw[aS,hl]⟩
theorem wX{R:Keyed->Keyed->Bool}:∀{gs:List (List Keyed)},(∀G∈gs,Rs R G/\G≠[])->gs.length<=gs.flatten.length
 | [],_=>aX _
 |G::gs,h=>by
  have :=wX (gs:=gs) fun F hF=>h F (aI _ hF)
  have :=dW.mpr (h G au).2
  rw[aS,fQ,aj];omega
theorem jP{gs:List (List Keyed)}{l:List Keyed}{m:Nat}(h:m<=l.length):(gs++[l.take m]).flatten.length=gs.flatten.length+m:=by
 rw[Bi,jY,aj,aF,fF h]
theorem sL(o:Od M A E s κ S R)(h0:Al S a₀){Q:Unit->SortSt->Prop}(r0:Ri κ R a₀ st [] (arrOf st).toList)(q:∀st',cQ st'=none->(arrOf st').Perm a₀->Rs R (arrOf st').toList->Q () st'):wpS M A E s sortRuns' Q st:=by
 have hN:(arrOf st).size=a₀.size:=r0.pm.size_eq;refine ao (iY ?_);dsimp only;rw[show(sortPriv%PySem.Builtin.SortState.a) st=arrOf st from rfl,hN];generalize(sortPriv%PySem.Builtin.minRun) a₀.size a₀.size 0=mr;refine ao (ef (cj (I:=fun x c st'=>∃gs rest,c=(none,gs.flatten.length)/\Ri κ R a₀ st' gs rest/\min x a₀.size<=gs.flatten.length) (Q:=fun c st'=>c.1=none/\∃gs,Ri κ R a₀ st' gs []) ?_ ?_ ⟨[],_,rfl,r0,aX _⟩) ?_)
 ·rintro x c st1 _ hx ⟨gs,rest,rfl,r,pr⟩
  have rz:=r.sz;dsimp only;by_cases c:gs.flatten.length≥ a₀.size
  ·rw[if_pos c]
   obtain rfl:rest=[]:=bQ.mp (by omega);exact az ⟨rfl,gs,r⟩
  rw[if_neg c];have al:=r.al h0;have sz1:(arrOf st1).size=a₀.size:=r.pm.size_eq;refine ao (sN o r.kd al (by omega) (by omega) fun n ar' n1 n2 pm bl u=>?_);have rg:=r.grow pm bl;have sz2:ar'.size=a₀.size:=by rw[pm.size_eq,sz1]
  have rl:(ar'.toList.drop gs.flatten.length).length=rest.length:=by rw[bq,ax,sz2];omega
  dsimp only;by_cases cm:n<mr
  case' pos=>
   rw[if_pos cm];refine ao (nz (dZ ⟨rfl,?_⟩));refine ao (pE (st:=setArr st1 ar') o rg.kd (rg.al h0) n1 (by omega) (show gs.flatten.length+min (a₀.size-gs.flatten.length) mr<=ar'.size by omega) u fun ar2 pm2 bl2 u2=>?_);rw[if_neg (by decide)];have r2:=rg.grow pm2 bl2;have sz3:ar2.size=a₀.size:=by rw[pm2.size_eq];exact sz2
   have m1:1<=min (a₀.size-gs.flatten.length) mr:=by omega
   have m2:min (a₀.size-gs.flatten.length) mr<=(ar2.toList.drop gs.flatten.length).length:=by
    have :ar2.toList.length=ar2.size:=rfl;rw[bq];omega
   have u3:=wj u2 (by omega);have pr2:min (x+1) a₀.size<=gs.flatten.length+min (a₀.size-gs.flatten.length) mr:=by omega
   generalize min (a₀.size-gs.flatten.length) mr=m at m1 m2 u3 pr2;generalize ar2.toList.drop gs.flatten.length=rest2 at r2 m2 u3;generalize hst2:setArr (setArr st1 ar') ar2=st2 at r2
  case' neg=>
   rw[if_neg cm];have r2:=rg;have m1:=n1;have m2:n<=(ar'.toList.drop gs.flatten.length).length:=by omega
   have u3:=wj u (by omega);have pr2:min (x+1) a₀.size<=gs.flatten.length+n:=by omega
   generalize n=m at m1 m2 u3 pr2;generalize ar'.toList.drop gs.flatten.length=rest2 at r2 m2 u3;generalize hst2:setArr st1 ar'=st2 at r2
  all_goals
   refine ao (iY ?_);rw[show(sortPriv%PySem.Builtin.SortState.pending) st2=bO st2 from rfl];cases hb:(bO st2).back? with
   |none=>
    dsimp only;exact ao (eG (az ⟨_,_,by rw[jP m2],r2.push m1 m2 u3 r2.pe,by rw[jP m2];exact pr2⟩))
   |some v=>
    obtain⟨s1,n1,w⟩:=v;dsimp only;generalize(sortPriv%PySem.Builtin.power) a₀.size (2*s1+n1) (2*s1+n1+n1+m) a₀.size=pw;refine ao (ef (cj (I:=fun y c st'=>c=(none,())/\∃gs',Ri κ R a₀ st' gs' rest2/\gs'.flatten.length=gs.flatten.length) (Q:=fun c st'=>c=(none,())/\∃gs',Ri κ R a₀ st' gs' rest2/\gs'.flatten.length=gs.flatten.length) ?_ (fun c st' h=>h) ⟨rfl,gs,r2,rfl⟩) ?_)
    ·rintro y c st3 _ hy ⟨rfl,gs',r3,fl⟩
     have hp:=r3.psz;refine ao (iY ?_);rw[show(sortPriv%PySem.Builtin.SortState.pending) st3=bO st3 from rfl];by_cases c2:(bO st3).size>1
     ·rw[if_pos c2]
      obtain⟨g1,P,T,rfl⟩:=t9 gs' (by omega);obtain⟨w,w',e1,_⟩:=r3.pe.at (g2:=[]);rw[show(bO st3).size-2=g1.length by rw[hp,aj];rfl,<-cR,e1];dsimp only;refine qL (fun _=>az ⟨rfl,_,r3,fl⟩) fun _=>ao (sM o h0 r3 fun st4 C cl r4=>?_);rw[if_neg (by decide)];exact az ⟨rfl,_,r4,by rw[<-fl];simp[cl]⟩
     ·rw[if_neg c2]
      exact az ⟨rfl,gs',r3,fl⟩
    ·rintro c st3 ⟨rfl,gs',r3,fl⟩
     dsimp only;refine ao (eG (ao (eG (az ?_))));have pp:=r3.pe.mod (f:=fun x=>(x.1,x.2.1,pw)) ((bO st3).size-1) fun x=>⟨rfl,rfl⟩;have r5:=r3.push m1 m2 u3 (ps:=(bO st3).modify ((bO st3).size-1) fun x=>(x.1,x.2.1,pw)) (by rw[Array.toList_modify];exact pp);rw[fl]at r5;exact⟨_,_,by rw[jP m2,fl],r5,by rw[jP m2,fl];exact pr2⟩
 ·rintro c st1 ⟨gs,rest,rfl,r,pr⟩
  have :=r.sz
  rw[Nat.max_eq_right (aX _),pj]at pr;obtain rfl:rest=[]:=bQ.mp (by omega);exact⟨rfl,gs,r⟩
 ·rintro⟨c,l⟩ st1 ⟨rfl,gs,r⟩
  dsimp only;have rz:=r.sz;refine ao (ef (cj (I:=fun x c st'=>c=(none,())/\∃gs,Ri κ R a₀ st' gs []/\gs.length+x<=a₀.size+1) (Q:=fun c st'=>c=(none,())/\∃gs,Ri κ R a₀ st' gs []/\gs.length<=1) ?_ ?_ ⟨rfl,gs,r,by have :=wX r.up;rw[cN]at rz;omega⟩) ?_)
  ·rintro x c st2 _ hx ⟨rfl,gs,r,pr⟩
   have hp:=r.psz;refine ao (iY ?_);rw[show(sortPriv%PySem.Builtin.SortState.pending) st2=bO st2 from rfl,hp];by_cases c:gs.length<=1
   ·rw[if_pos c]
    exact az ⟨rfl,gs,r,c⟩
   rw[if_neg c];have key:∀i,i+1<gs.length->wpS M A E s (mergeAt' i) (fun b st'=>b=true/\∃gs,Ri κ R a₀ st' gs []/\gs.length+(x+1)<=a₀.size+1) st2:=fun i hi=>by
    obtain⟨g1,P,T,g2,rfl,rfl⟩:=tf gs i hi;refine sM o h0 r fun st3 C cl r3=>⟨rfl,_,r3,?_⟩;rw[aj,aS,aS]at pr;rw[aj,aS];omega
   refine ao (ef (?_:wpS M A E s _ (fun b st'=>b=true/\∃gs,Ri κ R a₀ st' gs []/\gs.length+(x+1)<=a₀.size+1) st2) ?_)
   ·have two:∀(c:Prop)[Decidable c],wpS M A E s (mergeAt' (if c then gs.length-2-1 else gs.length-2)) (fun b st'=>b=true/\∃gs,Ri κ R a₀ st' gs []/\gs.length+(x+1)<=a₀.size+1) st2:=fun c _=>by
     split
     ·exact key _ (by omega)
     ·exact key _ (by omega)
    exact two _
   ·rintro b st3 ⟨rfl,gs',r3,pr3⟩
    rw[if_neg (by decide)];exact az ⟨rfl,gs',r3,pr3⟩
  ·rintro c st2 ⟨rfl,gs,r,pr⟩
   exact⟨rfl,gs,r,by omega⟩
  ·rintro c st2 ⟨rfl,gs,r,gl⟩
   refine az (q st2 r.fa r.pm ?_);rw[r.ar,kg]
   match gs,gl,r.up with
   | [],_,_=>exact .nil
   | [G],_,h=>rw[jY];exact(h G au).1
end
end SR
namespace Q
open PySem PySem.Spec PySem.W PyProof.Rows L2
theorem mG{α:Type}{r:α->α->Bool}:∀{l m:List α},(∀x∈l,∀y∈l,r x y=true->r y x=false)->l.Perm m->l.Pairwise (fun a b=>r a b=true)->m.Pairwise (fun a b=>r a b=true)->l=m
 | [],m,_,p,_,_=>(List.nil_perm.mp p).symm
 |x::l,[],_,p,_,_=>nomatch List.perm_nil.mp p
 |x::l,y::m,as,p,h1,h2=>by
  obtain⟨a1,a2⟩:=iB.mp h1;obtain⟨b1,b2⟩:=iB.mp h2;have e:x=y:=by
   apply Classical.byContradiction
   intro ne;have hy:y∈l:=(aD.mp (p.mem_iff.mpr au)).resolve_left fun z=>ne z.symm;have hx:x∈m:=(aD.mp (p.mem_iff.mp au)).resolve_left ne;have z:=as x au y (aI _ hy) (a1 y hy);rw[b1 x hx]at z;cases z
  subst e;rw[mG (fun u hu v hv=>as u (aI _ hu) v (aI _ hv)) ((List.perm_cons x).mp p) a2 b2]
section
variable {prog:Program}{w:World}{A:Around}{E:Value->Shared->Prop}{s:Shared}{lt:Nat->Nat->Bool}{vs:List Value}
noncomputable abbrev itm(vs:List Value)(i:Nat):Keyed:=(vs.getD i .none,vs.getD i .none)
open Classical in
noncomputable def vy(lt:Nat->Nat->Bool)(vs:List Value)(x y:Keyed):Bool:=decide (∃i j,i<vs.length/\j<vs.length/\x=itm vs i/\y=itm vs j/\i≠j/\lt i j=true)
noncomputable def inV(vs:List Value)(x:Keyed):Prop:=∃i,i<vs.length/\x=itm vs i
theorem gS(inj:∀i j,i<vs.length->j<vs.length->vs.getD i .none=vs.getD j .none->i=j){i j:Nat}(hi:i<vs.length)(hj:j<vs.length):vy lt vs (itm vs i) (itm vs j)=true↔i≠j/\lt i j=true:=by
 unfold vy;rw[@decide_eq_true_eq _ (_)];constructor
 ·rintro⟨i',j',h1,h2,e1,e2,h3⟩
  obtain rfl:=inj i i' hi h1 (nO e1).1;obtain rfl:=inj j j' hj h2 (nO e2).1;exact h3
 ·exact fun h=>⟨i,j,hi,hj,rfl,rfl,h⟩
theorem od_of(T:Tot lt vs.length)(inj:∀i j,i<vs.length->j<vs.length->vs.getD i .none=vs.getD j .none->i=j){κ:eh}(ask:∀i j (C:Bool->Shared->Prop),i<vs.length->j<vs.length->i≠j->C (lt i j) s->kas_ask prog w A κ vs i j C s):
  SR.Od (model prog w) A E s κ (inV vs) (vy lt vs) where
 irr:=by
  rintro x ⟨i,hi,rfl⟩;rw[i6];exact fun z=>((gS inj hi hi).mp z).1 rfl
 tri:=by
  rintro x y ⟨i,hi,rfl⟩ ⟨j,hj,rfl⟩ ne;have nij:i≠j:=fun e=>ne (by rw[e]);have t:=T.tri i j hi hj nij;have a:=gS (lt:=lt) inj hi hj;have b:=gS (lt:=lt) inj hj hi;rw[t]at a;cases e1:vy lt vs (itm vs i) (itm vs j)<;>cases e2:vy lt vs (itm vs j) (itm vs i)<;>cases e3:lt j i<;>simp_all
 tr:=by
  rintro x y z ⟨i,hi,rfl⟩ ⟨j,hj,rfl⟩ ⟨k,hk,rfl⟩ a b;rw[gS inj hi hj]at a;rw[gS inj hj hk]at b;refine(gS inj hi hk).mpr ⟨fun e=>?_,T.tr i j k hi hj hk a.2 b.2⟩;subst e;have :=T.tri i j hi hj a.1;rw[a.2,b.2]at this;cases this
 ask:=by
  rintro x y st Q' ⟨i,hi,rfl⟩ ⟨j,hj,rfl⟩ ne hk q;have nij:i≠j:=fun e=>ne (by rw[e]);have e:vy lt vs (itm vs i) (itm vs j)=lt i j:=by
   rw[ki,gS inj hi hj];exact⟨fun z=>z.2,fun z=>⟨nij,z⟩⟩
  rw[e]at q;rw[lt'_eq];refine ao (iY ?_);rw[hk];refine ao (nz (j6 (dz (ask i j (fun b s'=>b=lt i j/\s'=s) hi hj nij ⟨rfl,rfl⟩) (fun b s' z=>⟨z.2,?_⟩) fun _ _ z=>z.elim)));rw[z.1];exact az q
theorem qK:(vs.toArray.zip vs.toArray).toList=(aA vs.length).map (itm vs):=by
 apply cX
 ·simp
 ·intro i h1 h2
  have hi:i<vs.length:=by simpa using h2
  simp[itm,hi]
theorem run_all(T:Tot lt vs.length)(inj:∀i j,i<vs.length->j<vs.length->vs.getD i .none=vs.getD j .none->i=j)(h2:2<=vs.length){κ:eh}(ask:∀i j (C:Bool->Shared->Prop),i<vs.length->j<vs.length->i≠j->C (lt i j) s->kas_ask prog w A κ vs i j C s):
  wpAny (model prog w) A ((sortRuns').run (eI κ (vs.toArray.zip vs.toArray) #[] 7 none)) (fun r s'=>s'=s/\(arrOf r.2).map (·.2)=(gA lt vs).toArray/\cQ r.2=none) E s:=by
 obtain⟨P1,U1,_⟩:=iJ T (by omega:1<=vs.length);have od:=od_of (E:=E) T inj ask;have pr:(run lt (ck vs.length)).toList.Perm (aA vs.length):=by simpa using cJ.mp P1.perm
 have al:SR.Al (inV vs) (vs.toArray.zip vs.toArray):=by
  refine⟨fun x hx=>?_,?_⟩
  ·rw[qK]at hx
   obtain⟨i,hi,rfl⟩:=bB.mp hx;exact⟨i,cC.mp hi,rfl⟩
  ·rw[qK,List.nodup_iff_pairwise_ne,i5]
   exact pC.imp_of_mem fun{i j} hi hj h e=>h (inj i j (cC.mp hi) (cC.mp hj) (nO e).1)
 refine SR.sL (Q:=fun _ st'=>(arrOf st').map (·.2)=(gA lt vs).toArray/\cQ st'=none) od al ⟨rfl,rfl,rfl,trivial,(fun G hG=>nomatch hG),fX _⟩ fun st' f1 f2 f3=>⟨?_,f1⟩;have pz:=cJ.mp f2;have e:(arrOf st').toList=(run lt (ck vs.length)).toList.map (itm vs):=by
  refine mG (r:=vy lt vs) (fun x hx y hy z=>od.asym (al.hs x (pz.mem_iff.mp hx)) (al.hs y (pz.mem_iff.mp hy)) z) (pz.trans ?_) f3 ?_
  ·rw[qK]
   exact(pr.map _).symm
  ·rw[i5]
   refine bx.mpr fun i j hi hj hij=>?_;have m:∀(k:Nat)(hk:k<(run lt (ck vs.length)).toList.length),(run lt (ck vs.length)).toList[k]<vs.length:=fun k hk=>cC.mp (pr.mem_iff.mp (bL hk));have e:∀(k:Nat)(hk:k<(run lt (ck vs.length)).toList.length),(run lt (ck vs.length)).toList[k]=at' (run lt (ck vs.length)) k:=fun k hk=>by
    have hk':k<(run lt (ck vs.length)).size:=by simpa using hk
    simp[at',hk']
   have u:=U1 i j hij (by rw[ax,P1.size]at hj;exact hj);refine(gS inj (m i hi) (m j hj)).mpr ⟨fun z=>?_,by rw[e,e];exact u⟩;have nd:(run lt (ck vs.length)).toList.Nodup:=pr.nodup_iff.mpr pC;have :=(cW nd).mp z;omega
 apply Array.toList_inj.mp
 rw[Array.toList_map,e,ee];unfold gA;rw[if_neg (by omega)];rfl
theorem tj{a:Addr}{n:Nat}{h0:Heap}{P:el->Shared->Prop}(T:Tot lt vs.length)(inj:∀i j,i<vs.length->j<vs.length->vs.getD i .none=vs.getD j .none->i=j)(ho:s.heap.get? a=some (seqObj "list" vs.toArray n))(k0:∀b o,h0.get? b=some o->s.heap.get? b=some o/\b≠a)(hz:vs.length<=sizeLine)
  (ask:2<=vs.length->Asks prog w A lt vs h0)(h:P (.done (.ret .none)) {s with heap:=sortedHeap s.heap a vs (gA lt vs).toArray}):wpAny (model prog w) A (Builtin.«list.sort» ⟨[.ref a],[]⟩) P E s:=by
 have hv:vs.toArray.size=vs.length:=by simp
 obtain⟨c,hc⟩:∃c,(s.heap.update a (b9 fun _=> #[])).get? a=some (seqObj "list" #[] c):=⟨_,get?_update_seq ho _⟩;have hc':(((s.heap.update a (b9 fun _=> #[])).push (seqObj "tuple" vs.toArray 0)).push (seqObj "list" #[] 0)).get? a=some (seqObj "list" #[] c):=af _ (af _ hc);have keep:∀b o,h0.get? b=some o->(((s.heap.update a (b9 fun _=> #[])).push (seqObj "tuple" vs.toArray 0)).push (seqObj "list" #[] 0)).get? b=some o:=fun b o e=>
  af _ (af _ ((aZ _ _ (dg (k0 b o e).2)).trans (k0 b o e).1))
 rw[list_sort_plain];refine ae (listItems_at ho rfl (ae (j7 ho rfl ?_ (by rw[hv];exact hz) (aX _))));refine ae (seqEpoch_at hc rfl (ae (wpAny_newTuple ?_ (show vs.length<=_ from hz))));refine ae (A9 (cF ?_) (aX _));by_cases hn:vs.length<2
 ·have e:gA lt vs=vs:=if_pos hn
  rw[e]at h;dsimp only;rw[if_pos (by rw[hv];exact hn),if_pos (by rw[hv];exact hn)];refine ae (ah (ae ?_));rw[StateT.run_pure];refine ah (ae (seqEpoch_at hc' rfl (ae (j7 hc' rfl ?_ (aX _) ?_))))
  ·have e2:(arrOf (eI general' (vs.toArray.zip vs.toArray) #[] 7 none)).map (·.2)=vs.toArray:=by
    show(vs.toArray.zip vs.toArray).map (·.2)=vs.toArray;apply Array.ext';simp[List.map_snd_zip]
   rw[e2];have e3:cQ ((),eI general' (vs.toArray.zip vs.toArray) #[] 7 none).snd=none:=rfl;rw[e3];simp only[bne_self_eq_false,bh,if_false];exact ah h
  ·show((vs.toArray.zip vs.toArray).map (·.2)).size<=_
   rw[Array.size_map,Array.size_zip,hv,pj];exact eK hz
 ·have h2:2<=vs.length:=by omega
  have e:gA lt vs=(run lt (ck vs.length)).toList.map fun i=>vs.getD i .none:=if_neg hn;rw[e]at h;dsimp only;rw[if_neg (by rw[hv];exact hn),if_neg (by rw[hv];exact hn)];obtain⟨κ,hk1,hk2⟩:=ask h2 {s with heap:=((s.heap.update a (b9 fun _=> #[])).push (seqObj "tuple" vs.toArray 0)).push (seqObj "list" #[] 0)} keep;refine ae (hk1 _ _ (ae ?_));have key:=run_all (E:=E) T inj h2 hk2;refine dz key ?_ fun _ _ z=>z;rintro⟨⟨⟩,st'⟩ s' ⟨rfl,hout,hf⟩;rw[e]at hout;dsimp only at hout hf⊢;rw[hout,hf];have hlen:(List.toArray ((run lt (ck vs.length)).toList.map fun i=>vs.getD i bA)).size<=sizeLine+1:=by
   rw[aq,ai,ax,(iJ T (by omega:1<=vs.length)).1.size];exact eK hz
  refine ae (seqEpoch_at hc' rfl (ae (j7 hc' rfl ?_ (aX _) hlen)));simp only[bne_self_eq_false,bh,if_false];exact ah h
theorem vh{l:Addr}{Q:Value->Shared->Prop}(T:Tot lt vs.length)(inj:∀i j,i<vs.length->j<vs.length->vs.getD i .none=vs.getD j .none->i=j)(hl:s.heap.IsList l vs.toArray)(hz:vs.length<=sizeLine)(ask:2<=vs.length->Asks prog w A.in1.in1 lt vs s.heap)
  (h:Q (.ref (s.heap.objs.size+1)) {s with heap:=sortedAll s.heap vs (gA lt vs).toArray}):wpAny (model prog w) A (call (.builtin "sorted") [.ref l]) Q E s:=by
 refine sJ kind_sorted plain_sorted entry_sorted (args_sorted1 _) ?_;unfold Builtin.«sorted»;refine ae (m:=checkCount "sorted" 1 1 _) (ah (ae (collect_list hl (ae (A9 ?_ (show vs.length<=_ from hz))) hz)));generalize hH:(s.heap.push (seqObj "list" #[] 0)).update s.heap.objs.size (b9 (·++vs.toArray))=h1;have hsz:h1.objs.size=s.heap.objs.size+1:=by rw[<-hH,gf,size_push']
 have kp:∀b o,s.heap.get? b=some o->h1.get? b=some o:=fun b o e=>by
  have hb:=ay e;rw[<-hH,aZ _ _ (dc hb)];exact af _ e
 have hg:(h1.push (seqObj "list" vs.toArray 0)).get? (s.heap.objs.size+1)=some (seqObj "list" vs.toArray 0):=by
  rw[<-hsz];exact aE _ rfl
 have hq:sortedAll s.heap vs (gA lt vs).toArray=sortedHeap (h1.push (seqObj "list" vs.toArray 0)) (s.heap.objs.size+1) vs (gA lt vs).toArray:=by rw[<-hH];rfl
 rw[hq]at h;show wpAny _ _ _ _ _ {s with heap:=h1.push (seqObj "list" vs.toArray 0)};rw[hsz];refine ae (cF (dF slot_list_sort ⟨_,hg,rfl⟩ entry_list_sort (tj T inj hg (fun b o e=>⟨af _ (kp b o e),aH (bu (ay e))⟩) hz ask ⟨_,rfl,?_⟩) (args_list_sort _)));exact ah ⟨_,rfl,h⟩
end
set_option maxHeartbeats 3200000
theorem sY{vs:List Value}{ks:List Str}(r:gp vs ks)(nd:ks.Nodup)(i j:Nat)(hi:i<vs.length)(hj:j<vs.length)(e:vs.getD i .none=vs.getD j .none):i=j:=by
 rw[iI r]at hi hj;obtain⟨t,e1⟩:=qQ r hi;obtain⟨u,e2⟩:=qQ r hj;rw[e1,e2]at e;have e3:=(uQ.inj e).1;rw[av,av,ag hi,ag hj]at e3;exact(cW nd).mp e3
theorem pX:∀{vs:List Value}{ms:List Str},gp vs ms->bJ (ms.map V.str) vs
 |_,_,.nil=>.nil
 |_,_,.cons _ t h=>.cons ⟨t,rfl⟩ (pX h)
theorem xv{vs xs:List Value}(p:vs.Perm xs):∀{ks:List Str},gp xs ks->∃ms:List Str,ms.Perm ks/\gp vs ms:=by
 induction p with
 |nil=>intro ks h;exact⟨ks,eD _,h⟩
 |cons x p ih=>
  intro ks h;cases h with
  |cons k t h=>
   obtain⟨ms,a,b⟩:=ih h;exact⟨k::ms,a.cons k,.cons k t b⟩
 |swap x y l=>
  intro ks h;cases h with
  |cons k t h=>cases h with
   |cons k' t' h=>exact⟨k'::k::_,Bj _ _ _,.cons k' t' (.cons k t h)⟩
 |trans p q ih1 ih2=>
  intro ks h;obtain⟨ms,a,b⟩:=ih2 h;obtain⟨ms',a',b'⟩:=ih1 b;exact⟨ms',a'.trans a,b'⟩
section
variable {prog:Program}{w:World}{A:Around}{E:Value->Shared->Prop}{s:Shared}
theorem ti{S:Addr}{o:Obj}{es:Array (Int×Value)}{ep:Nat}{t:be}{ks:List Str}{Q:Value->Shared->Prop}(hh:A.handled=none)(ho:s.heap.get? S=some o)(hc:o.cls=.type "set")(hd:o.data=.set es ep t)(hf:t.fits es.size=true)(h64:es.size<1000)(hT:gL t)(hled:w.params.followText "set-order"=false->t.led=true)
  (hk:gp (es.toList.map (·.2)) ks)(nd:ks.Nodup)
  (h:∀(ms:List Str)(vs:List Value)(s':Shared)(l:Addr)(c:Nat),ms.Perm ks->gp vs ms->(∀b o,s.heap.get? b=some o->s'.heap.get? b=some o)->s'.gens=s.gens->s'.os=s.os->s.heap.objs.size<=l->s'.heap.get? l=some (seqObj "list" (gA (lh ms) vs).toArray c)->Q (.ref l) s'):
  wpAny (model prog w) A (call (.builtin "sorted") [.ref S]) Q E s:=by
 refine sJ kind_sorted plain_sorted entry_sorted (args_sorted1 _) ?_;unfold Builtin.«sorted»;refine ae (m:=checkCount "sorted" 1 1 _) (ah (ae (uq (by simp[hh]) ho hc hd hf (j9 h64 (by decide)) hT hled fun vs s' hp kp k2 k3 k4=>ae (A9 ?_ ?_))))
 ·obtain⟨ms,m1,m2⟩:=xv hp hk
  have hl:vs.length=ms.length:=iI m2;have hv:vs.length<1000:=by
   have :=hp.length_eq
   simp at this;omega
  have hg:(s'.heap.push (seqObj "list" vs.toArray 0)).get? s'.heap.objs.size=some (seqObj "list" vs.toArray 0):=aE _ rfl;have ndm:ms.Nodup:=m1.nodup_iff.mpr nd;show wpAny _ _ _ _ _ {s' with heap:=s'.heap.push (seqObj "list" vs.toArray 0)};refine ae (cF (dF slot_list_sort ⟨_,hg,rfl⟩ entry_list_sort (tj (lt:=lh ms) (h0:=s'.heap) (by rw[hl];exact lV ndm) (sY m2 ndm) hg (fun b o e=>⟨af _ e,aH (ay e)⟩) (aQ (fU hv) (by decide)) (fun h2=>qG m2 h2) ⟨_,rfl,?_⟩) (args_list_sort _)));refine ah ⟨_,rfl,?_⟩;obtain⟨c,hc'⟩:=sortedHeap_at (out:=(gA (lh ms) vs).toArray) hg;refine h ms vs _ _ c m1 m2 (fun b o e=>?_) k2 k3 (fU k4) hc';have e':=kp b o e;have hb:=ay e';show(sortedHeap (s'.heap.push (seqObj "list" vs.toArray 0)) s'.heap.objs.size vs (gA (lh ms) vs).toArray).get? b=some o;rw[sortedHeap_old (aH hb) (by rw[size_push'];exact bu hb)];exact af _ e'
 ·have :=hp.length_eq
  simp at this;exact aQ (by omega:vs.length<=1000) (by decide)
end
section
variable {prog:Program}{w:World}
theorem wO{k:Str}{v:Value}(h:(bH prog w).is (.inr k) v=true):∃t,v=.str k t:=by
 rw[oA]at h;exact lL h
theorem AD{l:List (Int×Value)}(h:ElemsOf (bH prog w) l)(hi:∀e∈l,∀k,(bH prog w).is k e.2=true->∃n:Str,k=.inr n):∃ms:List Str,gp (l.map (·.2)) ms:=by
 induction l with
 |nil=>exact⟨[],.nil⟩
 |cons e l ih=>
  obtain⟨ms,r⟩:=ih h.tail fun e' he'=>hi e' (aI _ he');obtain⟨⟨k,hk,_⟩,_⟩:=h.head;obtain⟨n,rfl⟩:=hi e au k hk;obtain⟨t,e2⟩:=wO hk;refine⟨n::ms,?_⟩;rw[bw,e2];exact .cons n t r
theorem zj:∀{vs:List Value}{ms:List Str},gp vs ms->∀n,n∈ms↔∃v∈vs,(bH prog w).is (.inr n) v=true:=by
 intro vs ms r
 induction r with
 |nil=>simp
 |cons k t r ih=>
  intro n;rw[aD,ih n];constructor
  ·rintro(rfl|⟨v,hv,e⟩)
   ·exact⟨_,au,mQ _ _ _ _⟩
   ·exact⟨v,aI _ hv,e⟩
  ·rintro⟨v,hv,e⟩
   rcases aD.mp hv with rfl|hv
   ·obtain⟨t',e'⟩:=wO e
    cases e';exact .inl rfl
   ·exact .inr ⟨v,hv,e⟩
theorem xC{h:Heap}{a:Addr}{ns:List Str}{led:Bool}(x:nv (bH prog w) h a (has (met (ns.map .inr))) (met (ns.map .inr)).length led):
  ∃o es ep t ms,h.get? a=some o/\o.cls=.type "set"/\o.data=.set es ep t/\t.fits es.size=true/\es.size=(met (ns.map .inr)).length/\gL t/\t.led=led/\gp (es.toList.map (·.2)) ms/\ms.Nodup/\∀n,n∈ms↔n∈ns:=by
 obtain⟨o,es,ep,t,ho,hx,hd,hl,hm,hb,hf,hn,hT,hL⟩:=x;have hle:=Ax (ns.map (gv:Str->Key));rw[ai]at hle;have inl:∀e∈es.toList,∀k,(bH prog w).is k e.2=true->∃n:Str,n∈ns/\k=.inr n:=fun e he k hk=>by
  have :=rC.mp (jO.mp ((hm k).mpr ⟨e,he,hk⟩))
  obtain⟨n,hn,rfl⟩:=bB.mp this;exact⟨n,hn,rfl⟩
 obtain⟨ms,r⟩:=AD hl fun e he k hk=>let⟨n,_,e⟩:=inl e he k hk;⟨n,e⟩;have mem:∀n,n∈ms↔n∈ns:=fun n=>by
  rw[zj (prog:=prog) (w:=w) r n];constructor
  ·rintro⟨v,hv,e⟩
   obtain⟨e',he',rfl⟩:=bB.mp hv;obtain⟨n',hn',z⟩:=inl e' he' _ e;cases z;exact hn'
  ·intro h
   obtain⟨e,he,hk⟩:=(hm (.inr n)).mp (jO.mpr (rC.mpr (fh h)));exact⟨e.2,fh he,hk⟩
 have len:ms.length=es.size:=by
  have :=iI r
  simp at this;omega
 have p:(ms.map (gv:Str->Key)).Perm (met (ns.map .inr)):=qe (Aw _) (fun x hx=>by
  obtain⟨n,hn,rfl⟩:=bB.mp (rC.mp hx);exact fh ((mem n).mpr hn)) (by rw[ai];omega)
 have nd:(ms.map (gv:Str->Key)).Nodup:=p.nodup_iff.mpr (Aw _);exact⟨o,es,ep,t,ms,ho,hx.1,hd,hf,by omega,hT,hL,r,(i5.mp nd).imp fun h z=>h (congrArg _ z),mem⟩
end
end Q
namespace L2
open PySem PySem.Spec PyProof.Rows Q
section
variable {X:Cx}
noncomputable def i7(ks:List Str):List V:=sortBy .non ks (ks.map V.str)
noncomputable def lW(K:aa)(ta:TA):TE:=fun σ H Q=>ta σ H fun vs H1=>∃(p:Addr)(ns:List Str),vs=[V.ref p]/\SqL K H1 p (ns.map V.str)/\ns.length<1000/\(∃ms:List Str,ms.length<1000/\∀x∈ns,x∈ms)/\
 ∀(ms:List Str) l,ms.Nodup->(∀x,x∈ms↔x∈ns)->H1 l=none->Q (.ref l) (upd H1 l (.lst (i7 ms)))
theorem ou{α:Type}[DecidableEq α]:∀{l m:List α},l.Nodup->(∀x∈l,x∈m)->l.length<=m.length
 | [],_,_,_=>aX _
 |a::l,m,nd,h=>by
  rw[dG]at nd;have ha:=h a au;have p:=(yN ha).length_eq;have :=ou (m:=m.erase a) nd.2 fun x hx=>(yO fun z:x=a=>nd.1 (z▸hx)).mpr (h x (aI _ hx));rw[aS]at p⊢;omega
theorem tL{a:Expr}{ta:TA}{p p' pos pos':Pos}(hc:X.calm=true)(hg:Gl X "sorted")(hm:X.mg "sorted"=none)(hg':Gl X "set")(hm':X.mg "set"=none)(ha:PA X [a] ta)(hs:bp [a] X.env=[(false,eval a X.env)]:=by rfl):
  PE X (.Call (.Name "sorted" p) [.Call (.Name "set" p') [a] [] pos'] [] pos) (lW X.K ta):=by
 intro pins s σ H Q I h;refine Call_ (iV I hg hm rW (kR (iz ?_) rfl rfl));refine Call_ (iV I hg' hm' yp (cz (thn (ha pos' pins s σ H _ I h) fun us s1 ⟨vs,H1,I1,r1,q1⟩=>?_) hs rfl));obtain⟨pl,ns,e,hq,h1k,⟨mm,h64,hmm⟩,q⟩:=q1;subst e;obtain⟨u,rfl,rx⟩:=vals1 r1;cases rx;obtain⟨its,r',plist,_⟩:=I1.list hq;have hlen:=r'.length;rw[ai]at hlen;have r2:bJ ((ns.map (gv:Str->Key)).map kV) its:=by
  rw[ee];exact r'
 refine xA (ks:=ns.map .inr) (I1.ok.hd hc) plist.isList (by rw[aq,ai];exact hlen) (fun i v e=>wN r2 i v (by simpa using e)) (by rw[aq,<-hlen];unfold eR;omega) fun h' tk hS kp=>?_;obtain⟨o,es,ep,t,ms,ho,hx,hd,hf,hsz,hT,hL,r,nd,mem⟩:=xC hS;have hmz:ms.length=es.size:=by
  have :=iI r
  simp at this;omega
 have hle64:=ou nd fun x hx=>hmm x ((mem x).mp hx);refine ah ?_;refine ti (s:={s1 with heap:=h',toks:=tk}) (I1.ok.hd hc) ho hx hd hf (by omega) hT (fun z=>by rw[hL,z];rfl) r nd fun ms' vs s' l c hp hv kp' k2 k3 k4 k5=>?_;have nd':ms'.Nodup:=hp.nodup_iff.mpr nd;have hlm:=hp.length_eq;have kk:∀b o,s1.heap.get? b=some o->s'.heap.get? b=some o:=fun b o e=>kp' b o (kp b o (ay e) e);have hlt:s1.heap.objs.size<h'.objs.size:=ay ho;have hle:s1.heap.objs.size<=l:=aQ (fU hlt) k4;have hz2:(i7 ms').length<=sizeLine:=by
  unfold i7 sortBy;rw[ai,wI _ nd'];exact aQ (by omega:ms'.length<=1000) (by decide)
 exact⟨.ref l,_,(I1.laid (h':=s'.heap) (t':=s1.toks) kk hle (show cZ X.prog X.w _ _ _ (.lst (i7 ms'))from⟨hz2,_,c,tR nd' (by rw[ai]) (pX hv),k5⟩)).same rfl k2 k3,rfl,q _ _ nd' (fun x=>(hp.mem_iff).trans (mem x)) (I1.hok.fresh hle)⟩
end
end L2
set_option maxHeartbeats 1000000
namespace L2
open PySem PySem.Spec PyProof.Rows
theorem is_kV{P:Program}{w:World}{k:Key}{u:Value}(h:(bH P w).is k u=true):RelV (kV k) u:=by
 rw[oA]at h;cases k with
 |inl i=>exact Value.isInt_shape h
 |inr x=>exact lL h
theorem oE:∀{kvs:List (Key×V)}{vs:List (Key×Value)}{P:Program}{w:World},KV kvs vs->∀{l:List Value},l.length=vs.length->(∀(i:Nat) v,l[i]? =some v->∃k x,vs[i]? =some (k,x)/\(bH P w).is k v=true)->bJ (kvs.map fun kv=>kV kv.1) l
 |_,_,_,_,.nil,l,h,_=>by
  rw[cN]at h;rw[pW h];exact .nil
 | (k0,v0)::kvs,(k1,v1)::vs,P,w,.cons r t,l,h,hq=>by
  cases l with
  |nil=>cases h
  |cons u l=>
   obtain⟨k,x,e,hk⟩:=hq 0 u rfl;cases e;obtain⟨e,_⟩:=r;cases e;exact .cons (is_kV hk) (oE t (gw h) fun i v e=>hq (i+1) v e)
section
variable {X:Cx}
theorem yn:eU X (.builtin "len") (fun xs H Q=>∃a kvs,xs=[V.ref a]/\Rd H a (.dK kvs)/\Q (.int kvs.length) H):=by
 intro pins s σ H xs us Q I r h;obtain⟨a,kvs,rfl,ha,q⟩:=h;obtain⟨u,rfl,ru⟩:=vals1 r;cases ru;exact d_len I ha fun t s' I'=>⟨.int kvs.length,H,I',⟨t,rfl⟩,q⟩
theorem vX(hc:X.calm=true):eU X (.type "list") (fun xs H Q=>∃a kvs,xs=[V.ref a]/\Rd H a (.dK kvs)/\∀l,H l=none->Q (.ref l) (upd H l (.lst (kvs.map fun kv=>kV kv.1)))):=by
 intro pins s σ H xs us Q I r h;obtain⟨a,kvs,rfl,ha,q⟩:=h;obtain⟨u,rfl,ru⟩:=vals1 r;cases ru;obtain⟨hz,lo,vs,rv,dd⟩:=jB I.hok ha;obtain⟨ep,hm⟩:=dd.dictAt;refine PySem.W.kdl_call (PySem.W.kdl_dict lo) (I.ok.hd hc) hm (by rw[<-rv.length];exact hz) fun h' tk acc' c' hk hS hacc=>?_;refine⟨.ref _,_,I.laid (t':=tk) (o:=.lst (kvs.map fun kv=>kV kv.1)) hk (aw _) ⟨by rw[ai];exact hz,acc'.toList,c',oE rv (by rw[ax];exact hacc.1) fun i v e=>hacc.2 i v (by rw[<-cR];exact e),hS⟩,rfl,q _ (I.hok.fresh (aw _))⟩
end
end L2
namespace L2
open PySem PySem.Spec PyProof.Rows Q
section
variable {X:Cx}
theorem kv_keys{kvs:List (Key×V)}{vs:List (Key×Value)}(r:KV kvs vs):vs.map (·.1)=kvs.map (·.1):=r.keys.symm
noncomputable def rNeK:R2:=fun x y H Q=>∃a b kvs,x=.ref a/\y=.ref b/\Rd H a (.dK kvs)/\Rd H b (.dK kvs)/\(∀p∈kvs,∃i,p.2=V.int i)/\Q (.bl false) H
theorem sO{k:Key}{v:V}:∀{l:List (Key×V)},(l.map (·.1)).Nodup->(k,v)∈l->iH l k=some v
 | [],_,h=>nomatch h
 |p::l,nd,h=>by
  rw[bw,dG]at nd;rcases aD.mp h with z|z
  ·rw[kY (by rw[<-z]),<-z]
  ·rw[kZ fun y=>nd.1 (y▸fh (f:=(·.1)) z)]
   exact sO nd.2 z
theorem wR{A:Around}{s:Shared}{kvs0:List (Key×V)}{kb:List (Key×Value)}(r0:KV kvs0 kb)(nd:(kvs0.map (·.1)).Nodup):∀{kvs:List (Key×V)}{ka:List (Key×Value)},KV kvs ka->(∀p∈kvs,p∈kvs0/\∃i,p.2=V.int i)->PySem.W.KeqHits A s kb ka true
 |_,_,.nil,_=>.nil
 | (k,v)::kvs,(k',u)::ka,.cons r t,h=>by
  obtain⟨e,ru⟩:=r;cases e;obtain⟨h1,i,h2⟩:=h _ au;cases h2;obtain⟨t1,rfl⟩:=ru;have hv:iH kvs0 k=some (.int i):=by
   exact sO nd h1
  have rk:=r0.val k;rw[hv]at rk;obtain⟨w',hw,t2,rfl⟩:=kN.some_of rk;have :=PySem.W.KeqHits.hit hw (uV (A:=A) (s:=s) i t1 i t2) (wR r0 nd t fun p hp=>h p (aI _ hp));simpa using this
theorem Ai(hu:X.A.units+1<cLine):OpR X (cc .NotEq) rNeK:=by
 intro pins s σ H x y v u Q I rx ry h;obtain⟨a,b,kvs,rfl,rfl,ha,hb,hi,q⟩:=h;cases rx;cases ry;obtain⟨hz,lo,vs,rv,dd⟩:=jB I.hok ha;obtain⟨_,lo',vs',rv',dd'⟩:=jB I.hok hb;have nd:(kvs.map (·.1)).Nodup:=by
  obtain⟨o,es,ep,ho,hc,hd,he,his,hn⟩:=dd;rw[<-kv_keys rv];exact hn
 refine PySem.W.keq_ne lo lo' dd dd' (by omega) (fun _=>wR rv' nd rv fun p hp=>⟨hp,hi p hp⟩) ?_;rw[<-rv.length,<-rv'.length,beq_self_eq_true];exact mh I q rfl
end
noncomputable def zJ(K:aa):List V->Hp->VK->Prop:=fun xs H Q=>∃p ks,xs=[V.ref p]/\SqL K H p (ks.map V.str)/\ks.length<1000/\ks.Nodup/\∀l,H l=none->Q (.ref l) (upd H l (.lst (i7 ks)))
theorem vW{X:Cx}:eU X (.builtin "sorted") (zJ X.K):=by
 intro pins s σ H xs us Q I r h;obtain⟨p,ks,rfl,hq,hk,nd,q⟩:=h;obtain⟨u,rfl,rx⟩:=vals1 r;cases rx;obtain⟨its,r',pl,hz⟩:=I.list hq;have st:=wq r';have hv:its.length=ks.length:=iI st;refine vh (lt:=lh ks) (vs:=its) (by rw[hv];exact lV nd) (sY st nd) pl.isList (aQ (by omega:its.length<=1000) (by decide)) (fun h2=>qG st h2) ?_;obtain⟨c,hc⟩:=sortedAll_at s.heap its (gA (lh ks) its).toArray;have hz2:(i7 ks).length<=sizeLine:=by
  unfold i7 sortBy;rw[ai,wI ks nd];exact aQ (by omega:ks.length<=1000) (by decide)
 exact⟨.ref (s.heap.objs.size+1),_,I.laid (t':=s.toks) (fun b o e=>sortedAll_old e) (gH _) (show cZ X.prog X.w _ _ _ (.lst (i7 ks))from⟨hz2,_,c,tR nd (by rw[ai]) r',hc⟩),rfl,q _ (I.hok.fresh (gH _))⟩
end L2
set_option genInjectivity false
set_option genSizeOf false
namespace R
open PySem PySem.Spec PyProof.Rows L2
inductive Bf where
 |len|isinstance|all|list|tuple|min|max|int|lenk|listk|sorta
 deriving DecidableEq
noncomputable def Bf.name:Bf->Str
 |.len=>"len" |.isinstance=>"isinstance" |.all=>"all" |.list=>"list" |.tuple=>"tuple" |.min=>"min" |.max=>"max" |.int=>"int" |.lenk=>"len" |.listk=>"list" |.sorta=>"sorted"
noncomputable def Bf.val:Bf->Value
 |.len=>.builtin "len" |.isinstance=>.builtin "isinstance" |.all=>.builtin "all" |.list=>.type "list" |.tuple=>.type "tuple" |.min=>.builtin "min" |.max=>.builtin "max" |.int=>.type "int" |.lenk=>.builtin "len" |.listk=>.type "list" |.sorta=>.builtin "sorted"
theorem Bf.boot:∀b:Bf,dD b.name=some b.val
 |.len=>PySem.boot_len|.isinstance=>boot_isinstance|.all=>boot_all|.list=>ff|.tuple=>ph
 |.min=>by decide+kernel|.max=>by decide+kernel|.int=>pS|.lenk=>PySem.boot_len|.listk=>ff|.sorta=>by decide+kernel
theorem Bf.plain:∀b:Bf,b.name≠"__name__"/\(b.name==("__debug__":Str))=false:=by
 intro b;cases b<;>exact⟨by decide+kernel,by decide+kernel⟩
inductive Ty where
 |int|bool|str|list|tuple|dict|valueError
 deriving DecidableEq
noncomputable def Ty.name:Ty->Str
 |.int=>"int" |.bool=>"bool" |.str=>"str" |.list=>"list" |.tuple=>"tuple" |.dict=>"dict" |.valueError=>"ValueError"
noncomputable def Ty.t:Ty->String
 |.int=>"int" |.bool=>"bool" |.str=>"str" |.list=>"list" |.tuple=>"tuple" |.dict=>"dict" |.valueError=>"ValueError"
theorem Ty.boot:∀b:Ty,dD b.name=some (.type b.t)
 |.int=>pS|.bool=>PyProof.Rows.boot_bool|.str=>PyProof.Rows.boot_str|.list=>ff|.tuple=>ph|.dict=>PyProof.Rows.boot_dict|.valueError=>by decide+kernel
theorem Ty.plain:∀b:Ty,b.name≠"__name__"/\(b.name==("__debug__":Str))=false:=by
 intro b;cases b<;>exact⟨by decide+kernel,by decide+kernel⟩
noncomputable def j4(K:aa):Operator->R2
 |.Add=>fun x y H Q=>(rI0 fun i j=>.int (i+j)) x y H Q\/(∃i j,x=.str i/\y=.str j/\i.length+j.length<=sizeLine/\Q (.str (i++j)) H)\/rCat x y H Q\/False
 |.Sub=>rI0 fun i j=>.int (i-j)
 |.Mult=>fun x y H Q=>(rI v9 fun i j=>.int (i*j)) x y H Q
 |.Mod=>rI (fun _ j=>0<j) fun i j=>.int (i%j)
 |.FloorDiv=>rI CDiv fun i j=>.int (i/j)
 |.Pow=>rI A8 fun i j=>.int (i^j.toNat)
 |.RShift=>rI (fun _ j=>0<=j) fun i j=>.int (i/2^j.toNat)
 |.LShift=>rI A8 fun i j=>.int (i*2^j.toNat)
 |.BitAnd=>rI0 fun i j=>.int (Builtin.bitAnd i j)
 |.BitXor=>rI0 fun i j=>.int (Builtin.bitXor i j)
 |_=>fun _ _ _ _=>False
noncomputable def gi(K:aa):CmpOp->R2
 |.Eq=>rEqD K
 |.NotEq=>rNeD K
 |.Lt=>rI0 fun i j=>.bl (decide (i<j))
 |.LtE=>rI0 fun i j=>.bl (decide (i<=j))
 |.Gt=>rI0 fun i j=>.bl (decide (j<i))
 |.GtE=>rI0 fun i j=>.bl (decide (j<=i))
 |.Is=>fun x y H Q=>y=.non/\Q (.bl (decide (x=.non))) H
 |.IsNot=>fun x y H Q=>y=.non/\Q (.bl (!decide (x=.non))) H
 |.In=>fun x y H Q=>((∃i j,x=.str i/\y=.str j/\Q (.bl (!(eX j i 0 j.length 1).isEmpty)) H))\/rIn K false x y H Q
 |.NotIn=>fun x y H Q=>((∃i j,x=.str i/\y=.str j/\Q (.bl (!(!(eX j i 0 j.length 1).isEmpty))) H))\/rIn K true x y H Q
noncomputable def rUn(K:aa):UnaryOp->V->Hp->VK->Prop
 |.USub=>rU fun i=>.int (-i)
 |_=>fun _ _ _=>False
noncomputable def rSlc(K:aa):V->Option Int->Option Int->Hp->VK->Prop:=fun x lo hi H Q=>rSlL K x lo hi H Q\/rSlS x lo hi H Q
noncomputable def rBf(K:aa):Bf->List V->Hp->VK->Prop
 |.len=>fun xs H Q=>(∃p ys,xs=[.ref p]/\(SqL K H p ys\/SqT K H p ys)/\Q (.int ys.length) H)\/(∃z:Str,xs=[.str z]/\z.length<=sizeLine/\Q (.int z.length) H)
 |.isinstance=>fun xs H Q=>(∃x T t b,xs=[x,.ty T]/\ji K H x t/\fG K t (.type T)=some b/\Q (.bl b) H)\/(∃x C t b,xs=[x,.ref C]/\ji K H x t/\fG K t (.ref C)=some b/\Q (.bl b) H)
 |.all=>fun xs H Q=>∃(p:Addr)(bs:List Bool),xs=[.ref p]/\SqL K H p (bs.map V.bl)/\Q (.bl (bs.all id)) H
 |.list=>fun xs H Q=>∃p ys,xs=[.ref p]/\(SqL K H p ys\/SqT K H p ys)/\∀l,H l=none->Q (.ref l) (upd H l (.lst ys))
 |.tuple=>fun xs H Q=>∃p ys,xs=[.ref p]/\((SqL K H p ys/\∀l,H l=none->Q (.ref l) (upd H l (.tup ys)))\/(SqT K H p ys/\Q (.ref p) H))
 |.min=>fun xs H Q=>∃i j,xs=[.int i,.int j]/\Q (.int (if j<i then j else i)) H
 |.max=>fun xs H Q=>∃i j,xs=[.int i,.int j]/\Q (.int (if j>i then j else i)) H
 |.int=>fun xs H Q=>(∃i,xs=[.int i]/\Q (.int i) H)\/∃k,xs=[.bl k]/\Q (.int (if k then 1 else 0)) H
 |.lenk=>fun xs H Q=>∃a kvs,xs=[V.ref a]/\Rd H a (.dK kvs)/\Q (.int kvs.length) H
 |.listk=>fun xs H Q=>∃a kvs,xs=[V.ref a]/\Rd H a (.dK kvs)/\∀l,H l=none->Q (.ref l) (upd H l (.lst (kvs.map fun kv=>kV kv.1)))
 |.sorta=>zJ K
inductive Mm where
 |append|clear|reverse|pop|index|extend
 deriving DecidableEq
noncomputable def Mm.name:Mm->Str
 |.append=>"append" |.clear=>"clear" |.reverse=>"reverse" |.pop=>"pop" |.index=>"index" |.extend=>"extend"
noncomputable def Mm.id:Mm->String
 |.append=>"list.append" |.clear=>"list.clear" |.reverse=>"list.reverse" |.pop=>"list.pop" |.index=>"list.index" |.extend=>"list.extend"
noncomputable def rMm:Mm->V->List V->Hp->VK->Prop
 |.append=>wB
 |.clear=>zM
 |.reverse=>tF
 |.pop=>fun x xs H Q=>rPop x xs H Q\/zK x xs H Q
 |.index=>fun _ _ _ _=>False
 |.extend=>wA
noncomputable def baseOk:Expr->Bool
 |.Name .. =>true|.Subscript .. =>true
 |.Call f _ _ _=>match f with
  |.Attribute .. =>true
  |_=>false
 |_=>false
inductive X2 where
 |idxk|ink|nink|getk|nek
 deriving DecidableEq
noncomputable def X2.t:X2->TE->TE->TE
 |.idxk=>zf
 |.ink=>tDIn
 |.nink=>nF
 |.getk=>vc
 |.nek=>tOp rNeK
noncomputable def X2.tt:X2->TE->TE->TT
 |.ink=>fun a b=>mE (tDIn a b)
 |.nink=>fun a b=>mE (nF a b)
 |.nek=>fun a b=>mE (tOp rNeK a b)
 |_=>fun _ _ _ _ _=>False
mutual
inductive CE where
 |var (i:Nat)
 |con (c:Const)
 |glo (x:Str)
 |ty (t:Ty)
 |bin (op:Operator) (a b:CE)
 |un (op:UnaryOp) (a:CE)
 |cmp (op:CmpOp) (a b:CE)
 |chain (op op':CmpOp) (a b c:CE)
 |not (a:CE)
 |and (a b:CE)
 |or (a b:CE)
 |ite (c a b:CE)
 |idx (a i:CE)
 |cut (a:CE) (lo hi:CO)
 |tup (es:CL)
 |lst (es:CL)
 |dic (ps:CP)
 |call (f:Str) (es:CL)
 |bfn (b:Bf) (es:CL)
 |meth0 (m:Mm) (o:CE)
 |meth1 (m:Mm) (o a:CE)
 |rev (a:CE)
 |lzip (a b:CE)
 |sset (a:CE)
 |x2 (k:X2) (a b:CE)
 |comp (own:List Str) (fr:List Nat) (tg:CG) (it:CI) (cond:CO) (elt:CE)
inductive CL where
 |nil
 |cons (e:CE) (es:CL)
inductive CP where
 |nil
 |cons (k v:CE) (r:CP)
inductive CO where
 |no
 |yes (e:CE)
inductive CG where
 |name (i:Nat)
 |tup (gs:CGs)
inductive CGs where
 |nil
 |cons (g:CG) (gs:CGs)
inductive CI where
 |seq (e:CE)
 |lseq (e:CE)
 |range1 (e:CE)
 |range2 (a b:CE)
end
noncomputable def CL.len:CL->Nat
 |.nil=>0
 |.cons _ r=>r.len+1
noncomputable def CGs.len:CGs->Nat
 |.nil=>0
 |.cons _ r=>r.len+1
mutual
inductive CS where
 |asg (g:CG) (e:CE)
 |asgc (i:Nat) (e:CE)
 |expr (e:CE)
 |iff (c:CE) (a b:CB)
 |whl (c:CE) (b:CB)
 |forr (g:CG) (it:CI) (b:CB)
 |ret (e:CE)
 |retN
 |pass|brk|cont
 |rais (x:Str) (es:CL)
 |putk (o i e:CE)
inductive CB where
 |nil
 |hole
 |cons (s:CS) (r:CB)
end
noncomputable def AF(sc:Scope)(x:Str):Bool:=sc.names.lookup x==some .local||sc.names.lookup x==some .cell||sc.names.lookup x==some .free
noncomputable def kH(sc:Scope)(x:Str):Bool:=sc.names.lookup x==some .globalImplicit
noncomputable def qg(x:Str):Bool:=(x==("__debug__":Str))==false&&(x==("__classdict__":Str))==false
noncomputable def okCon:Const->Bool
 |.none=>true|.bool _=>true|.int _=>true|.str _=>true|_=>false
noncomputable def cv:Const->V
 |.none=>.non|.bool b=>.bl b|.int i=>.int i|.str x=>.str x|_=>.non
noncomputable def namesOf(N own:List Str)(fr:List Nat):List Str:=own++fr.map fun j=>N.getD j ""
noncomputable def iT(own:List Str)(fr:List Nat)(σ:L2.St):L2.St:=own.map (fun _=>none)++fr.map fun j=>(σ[j]?).getD none
noncomputable def jN:Expr->Bool
 |.Slice .. =>true
 |_=>false
noncomputable def isSet:Expr->Bool
 |.Set .. =>true
 |_=>false
noncomputable def oI:Expr->Bool
 |.ListComp .. =>true|.SetComp .. =>true|.DictComp .. =>true
 |_=>false
noncomputable def oG:Expr->Bool
 |.Tuple .. =>true
 |_=>false
noncomputable def rp(sc sc':Scope)(N own:List Str)(fr:List Nat):Bool:=
 decide (sc'.kind=.function)&&sc'.names.all (fun y=>decide (y.2=.cell->sc'.names.lookup y.1=some .cell))&&sc'.names.all (fun y=>decide (y.2=.local->sc'.names.lookup y.1=some .local))&&
 sc'.names.all (fun y=>decide (y.2=.free->sc.names.lookup y.1=some .cell\/sc.names.lookup y.1=some .free))&&decide ((namesOf N own fr).Nodup)&&
 fr.all (fun j=>decide (j<N.length)&&sc'.names.lookup (N.getD j "")==some .free)&&own.all (fun x=>sc'.names.lookup x==some .local||sc'.names.lookup x==some .cell)
theorem cT{P:Prop}(h:false=true):P:=(bF h).elim
theorem an{a b:Bool}(h:(a&&b)=true):a=true/\b=true:=by rwa [aK]at h
theorem l9{a:Bool}(h:(!a)=true):a=false:=by simpa using h
theorem gG{a b c:Bool}(h:(a&&b&&c)=true):a=true/\b=true/\c=true:=let⟨h,z⟩:=an h;let⟨x,y⟩:=an h;⟨x,y,z⟩
theorem kM{a b c d:Bool}(h:(a&&b&&c&&d)=true):a=true/\b=true/\c=true/\d=true:=let⟨h,z⟩:=an h;let⟨x,y,w⟩:=gG h;⟨x,y,w,z⟩
theorem and5{a b c d e:Bool}(h:(a&&b&&c&&d&&e)=true):a=true/\b=true/\c=true/\d=true/\e=true:=let⟨h,z⟩:=an h;let⟨x,y,w,v⟩:=kM h;⟨x,y,w,v,z⟩
section
variable {e:Expr}{s:Stmt}
noncomputable def l1{α:Type}(l:List α)(f:α->Bool):Bool:=match l with
 |a::r=>r.isEmpty&&f a
 | []=>false
theorem gT{α:Type}{l:List α}{f:α->Bool}(h:l1 l f=true):∃a,l=[a]/\f a=true:=by
 cases l with
 |nil=>exact cT h
 |cons a r=>
  obtain⟨h1,h⟩:=an h;cases r with
  |nil=>exact⟨a,rfl,h⟩
  |cons=>exact cT h1
noncomputable def l2{α:Type}(l:List α)(f:α->α->Bool):Bool:=match l with
 |a::r=>l1 r (f a)
 | []=>false
theorem qo{α:Type}{l:List α}{f:α->α->Bool}(h:l2 l f=true):∃a b,l=[a,b]/\f a b=true:=by
 cases l with
 |nil=>exact cT h
 |cons a r=>
  obtain⟨b,rfl,h⟩:=gT h;exact⟨a,b,rfl,h⟩
noncomputable def dNm(e:Expr)(f:Str->Pos->Bool):Bool:=match e with
 |.Name x p=>f x p
 |_=>false
theorem iX{f}(h:dNm e f=true):∃x p,e=.Name x p/\f x p=true:=by cases e<;>first |exact⟨_,_,rfl,h⟩ |exact cT h
noncomputable def dCn(e:Expr)(f:Const->Bool):Bool:=match e with
 |.Constant c _ _=>f c
 |_=>false
theorem vQ{f}(h:dCn e f=true):∃c j p,e=.Constant c j p/\f c=true:=by cases e<;>first |exact⟨_,_,_,rfl,h⟩ |exact cT h
noncomputable def dBi(e:Expr)(f:Expr->Operator->Expr->Bool):Bool:=match e with
 |.BinOp a op b _=>f a op b
 |_=>false
theorem dBi_of{f}(h:dBi e f=true):∃a op b p,e=.BinOp a op b p/\f a op b=true:=by cases e<;>first |exact⟨_,_,_,_,rfl,h⟩ |exact cT h
noncomputable def dUn(e:Expr)(f:UnaryOp->Expr->Bool):Bool:=match e with
 |.UnaryOp op a _=>f op a
 |_=>false
theorem rN{f}(h:dUn e f=true):∃op a p,e=.UnaryOp op a p/\f op a=true:=by cases e<;>first |exact⟨_,_,_,rfl,h⟩ |exact cT h
noncomputable def dCm(e:Expr)(f:Expr->List CmpOp->List Expr->Bool):Bool:=match e with
 |.Compare a os es _=>f a os es
 |_=>false
theorem vR{f}(h:dCm e f=true):∃a os es p,e=.Compare a os es p/\f a os es=true:=by cases e<;>first |exact⟨_,_,_,_,rfl,h⟩ |exact cT h
noncomputable def dC1(e:Expr)(f:Expr->CmpOp->Expr->Bool):Bool:=dCm e fun a os es=>l1 os fun op=>l1 es fun b=> !isSet b&&f a op b
theorem jC{f}(h:dC1 e f=true):∃a op b p,e=.Compare a [op] [b] p/\isSet b=false/\f a op b=true:=by
 obtain⟨a,os,es,p,rfl,k⟩:=vR h;obtain⟨op,rfl,l⟩:=gT k;obtain⟨b,rfl,m⟩:=gT l;obtain⟨h1,n⟩:=an m;exact⟨a,op,b,p,rfl,l9 h1,n⟩
noncomputable def dBo(e:Expr)(f:BoolOp->Expr->Expr->Bool):Bool:=match e with
 |.BoolOp op es p=>match es with
  |a::r=>match r with
   |b::r=>match r with
    | []=>f op a b
    |c::r=>f op a (.BoolOp op (b::c::r) p)
   | []=>false
  | []=>false
 |_=>false
theorem mw{f}(h:dBo e f=true):∃op a x p,f op a x=true/\(e=.BoolOp op [a,x] p\/∃b c r,x=.BoolOp op (b::c::r) p/\e=.BoolOp op (a::b::c::r) p):=by
 cases e<;>first |exact cT h|skip
 rename_i op es p;cases es with
 |nil=>exact cT h
 |cons a r=>cases r with
  |nil=>exact cT h
  |cons b r=>cases r with
   |nil=>exact⟨op,a,b,p,h,.inl rfl⟩
   |cons c r=>exact⟨op,a,_,p,h,.inr ⟨b,c,r,rfl,rfl⟩⟩
noncomputable def dIf(e:Expr)(f:Expr->Expr->Expr->Bool):Bool:=match e with
 |.IfExp c a b _=>f c a b
 |_=>false
theorem dIf_of{f}(h:dIf e f=true):∃c a b p,e=.IfExp c a b p/\f c a b=true:=by cases e<;>first |exact⟨_,_,_,_,rfl,h⟩ |exact cT h
noncomputable def dSu(e:Expr)(f:Expr->Expr->Bool):Bool:=match e with
 |.Subscript a i _=>f a i
 |_=>false
theorem mq{f}(h:dSu e f=true):∃a i p,e=.Subscript a i p/\f a i=true:=by cases e<;>first |exact⟨_,_,_,rfl,h⟩ |exact cT h
noncomputable def dSl(e:Expr)(f:Option Expr->Option Expr->Option Expr->Bool):Bool:=match e with
 |.Slice a b c _=>f a b c
 |_=>false
theorem AS{f}(h:dSl e f=true):∃a b c p,e=.Slice a b c p/\f a b c=true:=by cases e<;>first |exact⟨_,_,_,_,rfl,h⟩ |exact cT h
noncomputable def dTu(e:Expr)(f:List Expr->Bool):Bool:=match e with
 |.Tuple es _ _=>f es
 |_=>false
theorem AR{f}(h:dTu e f=true):∃es k p,e=.Tuple es k p/\f es=true:=by cases e<;>first |exact⟨_,_,_,rfl,h⟩ |exact cT h
noncomputable def dLi(e:Expr)(f:List Expr->Bool):Bool:=match e with
 |.List es _=>f es
 |_=>false
theorem dLi_of{f}(h:dLi e f=true):∃es p,e=.List es p/\f es=true:=by cases e<;>first |exact⟨_,_,rfl,h⟩ |exact cT h
noncomputable def dDi(e:Expr)(f:List (Option Expr)->List Expr->Bool):Bool:=match e with
 |.Dict ks vs _=>f ks vs
 |_=>false
theorem dDi_of{f}(h:dDi e f=true):∃ks vs p,e=.Dict ks vs p/\f ks vs=true:=by cases e<;>first |exact⟨_,_,_,rfl,h⟩ |exact cT h
noncomputable def dCa(e:Expr)(f:Expr->List Expr->Pos->Bool):Bool:=match e with
 |.Call g es ks p=>ks.isEmpty&&f g es p
 |_=>false
theorem AV{f}(h:dCa e f=true):∃g es p,e=.Call g es [] p/\f g es p=true:=by
 cases e<;>first |exact cT h|skip
 rename_i g es ks p;obtain⟨h1,h⟩:=an h;cases ks with
 |nil=>exact⟨g,es,p,rfl,h⟩
 |cons=>exact cT h1
noncomputable def dFn(e:Expr)(f:Str->List Expr->Bool):Bool:=dCa e fun g es _=>dNm g fun x _=>f x es
theorem gF{f}(h:dFn e f=true):∃x np es p,e=.Call (.Name x np) es [] p/\f x es=true:=by
 obtain⟨g,es,p,rfl,k⟩:=AV h;obtain⟨x,np,rfl,l⟩:=iX k;exact⟨x,np,es,p,rfl,l⟩
noncomputable def dAt(e:Expr)(f:Expr->Str->Pos->Bool):Bool:=match e with
 |.Attribute a x p=>f a x p
 |_=>false
theorem dAt_of{f}(h:dAt e f=true):∃a x p,e=.Attribute a x p/\f a x p=true:=by cases e<;>first |exact⟨_,_,_,rfl,h⟩ |exact cT h
noncomputable def dMt(m:Str)(e:Expr)(f:Expr->List Expr->Bool):Bool:=dCa e fun g es cp=>dAt g fun o m' ap=>decide (m=m')&&(ap.endLine==cp.line)&&f o es
theorem vO{m:Str}{f}(h:dMt m e f=true):∃o ap es cp,e=.Call (.Attribute o m ap) es [] cp/\(ap.endLine==cp.line)=true/\f o es=true:=by
 obtain⟨g,es,cp,rfl,k⟩:=AV h;obtain⟨o,m',ap,rfl,l⟩:=dAt_of k;obtain⟨h1,h2,n⟩:=gG l;cases of_decide_eq_true h1;exact⟨o,ap,es,cp,rfl,h2,n⟩
noncomputable def dLc(e:Expr)(f:Expr->List Comprehension->Scope->Pos->Bool):Bool:=match e with
 |.ListComp a gs sc p=>f a gs sc p
 |_=>false
theorem vP{f}(h:dLc e f=true):∃a gs sc p,e=.ListComp a gs sc p/\f a gs sc p=true:=by cases e<;>first |exact⟨_,_,_,_,rfl,h⟩ |exact cT h
noncomputable def dJs(e:Expr)(f:List Expr->Bool):Bool:=match e with
 |.JoinedStr es _=>f es
 |_=>false
noncomputable def dFv(e:Expr)(f:Expr->Int->Option Expr->Bool):Bool:=match e with
 |.FormattedValue a c s _=>f a c s
 |_=>false
noncomputable def dAs(s:Stmt)(f:Expr->Expr->Pos->Bool):Bool:=match s with
 |.Assign ts e p=>l1 ts fun g=>f g e p
 |_=>false
theorem vS{f}(h:dAs s f=true):∃g e p,s=.Assign [g] e p/\f g e p=true:=by
 cases s<;>first |exact cT h|skip
 obtain⟨g,rfl,h⟩:=gT h;exact⟨g,_,_,rfl,h⟩
noncomputable def dEx(s:Stmt)(f:Expr->Bool):Bool:=match s with
 |.Expr e _=>f e
 |_=>false
theorem dEx_of{f}(h:dEx s f=true):∃e p,s=.Expr e p/\f e=true:=by cases s<;>first |exact⟨_,_,rfl,h⟩ |exact cT h
noncomputable def dIs(s:Stmt)(f:Expr->List Stmt->List Stmt->Bool):Bool:=match s with
 |.If c a b _=>f c a b
 |_=>false
theorem dIs_of{f}(h:dIs s f=true):∃c a b p,s=.If c a b p/\f c a b=true:=by cases s<;>first |exact⟨_,_,_,_,rfl,h⟩ |exact cT h
noncomputable def dWh(s:Stmt)(f:Expr->List Stmt->Bool):Bool:=match s with
 |.While c a b _=>b.isEmpty&&f c a
 |_=>false
theorem dWh_of{f}(h:dWh s f=true):∃c a p,s=.While c a [] p/\f c a=true:=by
 cases s<;>first |exact cT h|skip
 rename_i c a b p;obtain⟨h1,h⟩:=an h;cases b with
 |nil=>exact⟨c,a,p,rfl,h⟩
 |cons=>exact cT h1
noncomputable def dFo(s:Stmt)(f:Expr->Expr->List Stmt->Bool):Bool:=match s with
 |.For g i a b _=>b.isEmpty&&f g i a
 |_=>false
theorem dFo_of{f}(h:dFo s f=true):∃g i a p,s=.For g i a [] p/\f g i a=true:=by
 cases s<;>first |exact cT h|skip
 rename_i g i a b p;obtain⟨h1,h⟩:=an h;cases b with
 |nil=>exact⟨g,i,a,p,rfl,h⟩
 |cons=>exact cT h1
noncomputable def dRt(s:Stmt)(f:Option Expr->Bool):Bool:=match s with
 |.Return e _=>f e
 |_=>false
theorem AU{f}(h:dRt s f=true):∃e p,s=.Return e p/\f e=true:=by cases s<;>first |exact⟨_,_,rfl,h⟩ |exact cT h
noncomputable def dRa(s:Stmt)(f:Str->List Expr->Bool):Bool:=match s with
 |.Raise e c _=>match e with
  |some e=>c.isNone&&dFn e f
  |none=>false
 |_=>false
theorem dRa_of{f}(h:dRa s f=true):∃x np es cp p,s=.Raise (some (.Call (.Name x np) es [] cp)) none p/\f x es=true:=by
 cases s<;>first |exact cT h|skip
 rename_i e c p;cases e with
 |none=>exact cT h
 |some e=>
  obtain⟨h1,k⟩:=an h;obtain⟨x,np,es,cp,rfl,l⟩:=gF k;cases c with
  |none=>exact⟨x,np,es,cp,p,rfl,l⟩
  |some=>exact cT h1
noncomputable def dTr(s:Stmt)(f:List Stmt->Str->Str->List Stmt->Bool):Bool:=match s with
 |.Try b hs o r _=>o.isEmpty&&r.isEmpty&&l1 hs fun h=>match h with
  |.ExceptHandler t n ss _=>match t with
   |some t=>match n with
    |some n=>dNm t fun x _=>f b x n ss
    |none=>false
   |none=>false
 |_=>false
theorem dTr_of{f}(h:dTr s f=true):∃b x np n ss hp p,s=.Try b [.ExceptHandler (some (.Name x np)) (some n) ss hp] [] [] p/\f b x n ss=true:=by
 cases s<;>first |exact cT h|skip
 rename_i b hs o r p;obtain⟨h1,h2,k⟩:=gG h;obtain⟨⟨t,n,ss,hp⟩,rfl,l⟩:=gT k;cases o with
 |cons=>exact cT h1
 |nil=>cases r with
  |cons=>exact cT h2
  |nil=>cases t with
   |none=>exact cT l
   |some t=>cases n with
    |none=>exact cT l
    |some n=>
     obtain⟨x,np,rfl,m⟩:=iX l;exact⟨b,x,np,n,ss,hp,p,rfl,m⟩
end
noncomputable def u1{α:Type}(l:List α)(f:α->List α->Bool):Bool:=match l with
 |a::r=>f a r
 | []=>false
theorem sR{α:Type}{l:List α}{f:α->List α->Bool}(h:u1 l f=true):∃a r,l=a::r/\f a r=true:=by
 cases l with
 |nil=>exact cT h
 |cons a r=>exact⟨a,r,rfl,h⟩
noncomputable def om{α:Type}(o:Option α)(f:α->Bool):Bool:=match o with
 |some x=>f x
 |none=>false
theorem wJ{α:Type}{o:Option α}{f:α->Bool}(h:om o f=true):∃x,o=some x/\f x=true:=by
 cases o with
 |none=>exact cT h
 |some x=>exact⟨x,rfl,h⟩
theorem nil_of{α:Type}{l:List α}(h:l.isEmpty=true):l=[]:=List.isEmpty_iff.mp h
noncomputable def dFF(f g:Str)(sc:Scope)(e:Expr)(k:Expr->Bool):Bool:=dFn e fun f' es=>l1 es fun x=>dFn x fun g' es=>l1 es fun a=>decide (f'=f)&&decide (g'=g)&&kH sc f&&kH sc g&&k a
theorem dFF_of{f g:Str}{sc:Scope}{e:Expr}{k}(h:dFF f g sc e k=true):∃p a q r t,e=.Call (.Name f p) [.Call (.Name g q) [a] [] r] [] t/\kH sc f=true/\kH sc g=true/\k a=true:=by
 obtain⟨_,p,_,t,rfl,i⟩:=gF h;obtain⟨x,rfl,j⟩:=gT i;obtain⟨_,q,_,r,rfl,l⟩:=gF j;obtain⟨a,rfl,m⟩:=gT l;obtain⟨h1,h2,h3,h4,n⟩:=and5 m;cases of_decide_eq_true h1;cases of_decide_eq_true h2;exact⟨p,a,q,r,t,rfl,h3,h4,n⟩
noncomputable def isX:Expr->Bool
 |.Subscript .. =>true|.Compare .. =>true|.Call .. =>true
 |_=>false
noncomputable def X2.d(k:X2)(e:Expr)(f:Expr->Expr->Bool):Bool:=isX e&&match k with
 |.idxk=>dSu e fun a i=> !jN i&&f a i
 |.ink=>dC1 e fun a op b=>decide (op=.In)&&f a b
 |.nink=>dC1 e fun a op b=>decide (op=.NotIn)&&f a b
 |.getk=>dMt (eY "get") e fun o es=>l1 es fun a=>baseOk o&&f o a
 |.nek=>dC1 e fun a op b=>decide (op=.NotEq)&&f a b
noncomputable def isM1(e:Expr):Bool:=dUn e fun op c=>decide (op=.USub)&&dCn c fun k=>decide (k=.int 1)
noncomputable def mBase(e:Expr):Bool:=(dNm e fun _ _=>true)||(dFn e fun _ es=> !es.isEmpty)
mutual
noncomputable def cO(sc:Scope)(N:List Str):CE->Expr->Bool
 |.var i,e=>dNm e fun x _=>N[i]? ==some x&&AF sc x&&qg x
 |.con c,e=>dCn e fun c'=>okCon c&&decide (c=c')
 |.glo x,e=>dNm e fun y _=>decide (x=y)&&kH sc x&&qg x
 |.ty t,e=>dNm e fun y _=>decide (t.name=y)&&kH sc y
 |.bin op a b,e=>dBi e fun a' op' b'=>decide (op=op')&&cO sc N a a'&&cO sc N b b'
 |.un op a,e=>dUn e fun op' a'=>decide (op=op')&&cO sc N a a'
 |.cmp op a b,e=>dC1 e fun a' op' b'=>decide (op=op')&&cO sc N a a'&&cO sc N b b'
 |.chain o1 o2 a b c,e=>dCm e fun a' os es=>l2 os fun p q=>l2 es fun b' c'=>decide (o1=p)&&decide (o2=q)&& !isSet c'&&(cO sc N a a'&&cO sc N b b'&&cO sc N c c')
 |.not a,e=>dUn e fun op a'=>decide (op=.Not)&&cO sc N a a'
 |.and a b,e=>dBo e fun op a' x=>decide (op=.And)&&cO sc N a a'&&cO sc N b x
 |.or a b,e=>dBo e fun op a' x=>decide (op=.Or)&&cO sc N a a'&&cO sc N b x
 |.ite c a b,e=>dIf e fun c' a' b'=>cO sc N c c'&&cO sc N a a'&&cO sc N b b'
 |.idx a i,e=>dSu e fun a' i'=> !jN i'&&cO sc N a a'&&cO sc N i i'
 |.cut a lo hi,e=>dSu e fun a' s=>dSl s fun l u t=>t.isNone&&cO sc N a a'&&(chkO sc N lo l&&chkO sc N hi u)
 |.tup es,e=>dTu e fun es'=>mB sc N es es'
 |.lst es,e=>dLi e fun es'=>mB sc N es es'
 |.dic ps,e=>dDi e fun ks vs=>decide (ks.length<=15)&&chkP sc N ps ks vs
 |.call f es,e=>dFn e fun f' es'=>decide (f=f')&&kH sc f&&qg f&&mB sc N es es'
 |.bfn b es,e=>dFn e fun f' es'=>decide (b.name=f')&&kH sc f'&& !es'.isEmpty&&mB sc N es es'
 |.meth0 m o,e=>dMt m.name e fun o' es=>es.isEmpty&&baseOk o'&&cO sc N o o'
 |.meth1 m o a,e=>dMt m.name e fun o' es=>l1 es fun a'=>baseOk o'&&cO sc N o o'&&cO sc N a a'
 |.rev a,e=>dSu e fun a' s=>dSl s fun x y z=>x.isNone&&y.isNone&&(om z isM1&&cO sc N a a')
 |.lzip a b,e=>dFn e fun f es=>l1 es fun x=>dFn x fun g es=>l2 es fun a' b'=>decide (f="list")&&decide (g="zip")&&kH sc f&&kH sc g&&(cO sc N a a'&&cO sc N b b')
 |.sset a,e=>dFF "sorted" "set" sc e (cO sc N a)
 |.x2 k a b,e=>k.d e fun a' b'=>cO sc N a a'&&cO sc N b b'
 |.comp own fr tg it cond elt,e=>dLc e fun elt' gs sc' _=>l1 gs fun g=>decide (g.is_async=0)&&rp sc sc' N own fr&& !isSet g.iter&&(chkI sc N it g.iter g.target&&ur sc' (namesOf N own fr) false tg g.target&&chkC sc' (namesOf N own fr) cond g.ifs&&cO sc' (namesOf N own fr) elt elt')
noncomputable def mB(sc:Scope)(N:List Str):CL->List Expr->Bool
 |.nil,es=>es.isEmpty
 |.cons e r,es=>u1 es fun e' r'=>cO sc N e e'&&mB sc N r r'
noncomputable def chkP(sc:Scope)(N:List Str):CP->List (Option Expr)->List Expr->Bool
 |.nil,ks,vs=>ks.isEmpty&&vs.isEmpty
 |.cons k v r,ks,vs=>u1 ks fun k' ks'=>u1 vs fun v' vs'=>om k' fun k'=>cO sc N k k'&&cO sc N v v'&&chkP sc N r ks' vs'
noncomputable def chkO(sc:Scope)(N:List Str):CO->Option Expr->Bool
 |.no,o=>o.isNone
 |.yes e,o=>om o (cO sc N e)
noncomputable def chkC(sc:Scope)(N:List Str):CO->List Expr->Bool
 |.no,o=>o.isEmpty
 |.yes e,o=>l1 o (cO sc N e)
noncomputable def ur(sc:Scope)(N:List Str)(all:Bool):CG->Expr->Bool
 |.name i,e=>dNm e fun x _=>N[i]? ==some x&&(sc.names.lookup x==some .local||sc.names.lookup x==some .cell)
 |.tup gs,e=>dTu e fun es=>oY sc N all gs es
noncomputable def oY(sc:Scope)(N:List Str)(all:Bool):CGs->List Expr->Bool
 |.nil,es=>es.isEmpty
 |.cons g gs,es=>u1 es fun e' es'=>ur sc N all g e'&&oY sc N all gs es'
noncomputable def chkI(sc:Scope)(N:List Str):CI->Expr->Expr->Bool
 |.seq e,e',_=>cO sc N e e'
 |.lseq e,e',_=>cO sc N e e'
 |.range1 e,x,_=>dFn x fun f es=>l1 es fun e'=>decide (f="range")&&kH sc f&&cO sc N e e'
 |.range2 a b,x,_=>dFn x fun f es=>l2 es fun a' b'=>decide (f="range")&&kH sc f&&cO sc N a a'&&cO sc N b b'
end
noncomputable def isCe:CE->Bool
 |.comp .. =>true
 |_=>false
mutual
noncomputable def chkS(sc:Scope)(N:List Str):CS->Stmt->Bool
 |.asg g e,s=>dAs s fun g' e' _=>ur sc N true g g'&&cO sc N e e'&& !oI e'&& !(oG g'&&oG e')
 |.asgc i e,s=>isCe e&&dAs s fun g e' _=>dNm g fun x p=>dLc e' fun a b c d=>N[i]? ==some x&&(sc.names.lookup x==some .local||sc.names.lookup x==some .cell)&&cO sc N e (.ListComp a b c d)&&
   (sc.names.lookup x==some .cell||(decide (p.line=d.line)&& !(c.names.any fun y=>decide (y.1=x)&&(decide (y.2=.local)||decide (y.2=.cell)))))
 |.expr e,s=>dEx s fun e'=>cO sc N e e'&& !oI e'
 |.iff c a b,s=>dIs s fun c' a' b'=>cO sc N c c'&&nu sc N a a'&&nu sc N b b'
 |.whl c b,s=>dWh s fun c' b'=>cO sc N c c'&&nu sc N b b'
 |.forr g it b,s=>dFo s fun g' it' b'=>ur sc N true g g'&&chkI sc N it it' g'&& !isSet it'&&nu sc N b b'
 |.ret e,s=>dRt s fun o=>om o (cO sc N e)
 |.retN,s=>dRt s fun o=>o.isNone
 |.rais x es,s=>dRa s fun x' es'=>decide (x=x')&&kH sc x&&qg x&&(!es'.isEmpty&&mB sc N es es')
 |.putk o i e,s=>dAs s fun g e' _=>dSu g fun o' i'=>cO sc N o o'&&cO sc N i i'&&cO sc N e e'&& !oI e'
 |.pass,s=>match s with
  |.Pass _=>true
  |_=>false
 |.brk,s=>match s with
  |.Break _=>true
  |_=>false
 |.cont,s=>match s with
  |.Continue _=>true
  |_=>false
noncomputable def nu(sc:Scope)(N:List Str):CB->List Stmt->Bool
 |.hole,_=>true
 |.nil,ss=>ss.isEmpty
 |.cons s r,ss=>u1 ss fun s' r'=>chkS sc N s s'&&nu sc N r r'
end
structure Gam where
 val:Str->Option V
 fn:Str->Nat->Option (Sp×List V)
 ini:Str->Nat->Option (Addr×Sp×List V)
 dic:Addr->Option (List (Key×V))
 mak:Str->Nat->Option (Addr×Sp×List V)
 mth:Str->Nat->Option (Addr×Sp×List V)
noncomputable def ye(K:aa)(tl:TE):TI:=fun σ H R=>tl σ H fun x H1=>(∃a,x=.ref a/\(∃xs,SqL K H1 a xs)/\R (Itl K a) H1)\/(∃a,x=.ref a/\(∃xs,SqT K H1 a xs)/\R (Itt K a) H1)\/(∃z,x=.str z/\R (Its z) H1)
noncomputable def vb(K:aa)(t:TE):TT:=fun σ H Q=>t σ H fun x H1=>∃k,TruV K x H1 k/\Q k H1
mutual
noncomputable def wpE(G:Gam)(K:aa)(E:XS):CE->TE
 |.var i=>nW i
 |.con c=>tC (cv c)
 |.glo x=>fun σ H Q=>∃v,G.val x=some v/\Q v H
 |.ty t=>tC (.ty t.t)
 |.bin op a b=>tOp (j4 K op) (wpE G K E a) (wpE G K E b)
 |.un op a=>tUn (rUn K op) (wpE G K E a)
 |.cmp op a b=>tOp (gi K op) (wpE G K E a) (wpE G K E b)
 |.chain o1 o2 a b c=>nY (gi K o1) (gi K o2) (wpE G K E a) (wpE G K E b) (wpE G K E c)
 |.not a=>zb (wpE G K E a)
 |.and a b=>zh (wpE G K E a) (wpE G K E b)
 |.or a b=>tOrV (wpE G K E a) (wpE G K E b)
 |.ite c a b=>tIf (wpT G K E c) (wpE G K E a) (wpE G K E b)
 |.idx a i=>tOp (rIx K) (wpE G K E a) (wpE G K E i)
 |.cut a lo hi=>tSl (rSlc K) (wpE G K E a) (wpO G K E lo) (wpO G K E hi)
 |.tup es=>tTup (wpL G K E es)
 |.lst es=>tLst (wpL G K E es)
 |.dic ps=>fun σ H Q=>(ps=.nil/\ze σ H Q)\/(ps≠.nil/\tDisp (wpP G K E ps) σ H Q)
 |.call f es=>fun σ H Q=>∃sp dvs,G.fn f es.len=some (sp,dvs)/\sW sp dvs (E σ) (wpL G K E es) σ H Q
 |.bfn b es=>tCB (rBf K b) (wpL G K E es)
 |.meth0 m o=>tBM0 K "list" (rMm m) (wpE G K E o)
 |.meth1 m o a=>tBM K "list" (rMm m) (wpE G K E o) (kj (wpE G K E a) qP)
 |.rev a=>tRev K (wpE G K E a)
 |.lzip a b=>zc K (kj (wpE G K E a) (kj (wpE G K E b) qP))
 |.sset a=>lW K (kj (wpE G K E a) qP)
 |.x2 k a b=>k.t (wpE G K E a) (wpE G K E b)
 |.comp own fr tg it cond elt=>nX (wpI G K E it) (wpG G K N0 tg) (wpC G K N0 cond) (wpE G K N0 elt) (iT own fr)
noncomputable def wpT(G:Gam)(K:aa)(E:XS):CE->TT
 |.cmp op a b=>mE (tOp (gi K op) (wpE G K E a) (wpE G K E b))
 |.chain o1 o2 a b c=>mE (nY (gi K o1) (gi K o2) (wpE G K E a) (wpE G K E b) (wpE G K E c))
 |.not a=>tNot (wpT G K E a)
 |.and a b=>tAnd (wpT G K E a) (wpT G K E b)
 |.or a b=>tOr (wpT G K E a) (wpT G K E b)
 |.ite _ _ _=>fun _ _ _=>False
 |.var i=>vb K (nW i)
 |.con c=>vb K (tC (cv c))
 |.glo x=>vb K (fun σ H Q=>∃v,G.val x=some v/\Q v H)
 |.idx a i=>vb K (tOp (rIx K) (wpE G K E a) (wpE G K E i))
 |.call f es=>vb K (fun σ H Q=>∃sp dvs,G.fn f es.len=some (sp,dvs)/\sW sp dvs (E σ) (wpL G K E es) σ H Q)
 |.bfn b es=>vb K (tCB (rBf K b) (wpL G K E es))
 |.x2 k a b=>k.tt (wpE G K E a) (wpE G K E b)
 |_=>fun _ _ _=>False
noncomputable def wpL(G:Gam)(K:aa)(E:XS):CL->TA
 |.nil=>qP
 |.cons e es=>kj (wpE G K E e) (wpL G K E es)
noncomputable def wpP(G:Gam)(K:aa)(E:XS):CP->List (TE×TE)
 |.nil=>[]
 |.cons k v r=>(wpE G K E k,wpE G K E v)::wpP G K E r
noncomputable def wpO(G:Gam)(K:aa)(E:XS):CO->TO
 |.no=>qO
 |.yes e=>za (wpE G K E e)
noncomputable def wpC(G:Gam)(K:aa)(E:XS):CO->TT
 |.no=>yZ
 |.yes e=>wpT G K E e
noncomputable def wpG(G:Gam)(K:aa)(E:XS):CG->TG
 |.name i=>lp i
 |.tup gs=>gTup K gs.len (wpGs G K E gs)
noncomputable def wpGs(G:Gam)(K:aa)(E:XS):CGs->TGs
 |.nil=>gNil
 |.cons g gs=>ui (wpG G K E g) (wpGs G K E gs)
noncomputable def wpI(G:Gam)(K:aa)(E:XS):CI->TI
 |.seq e=>ye K (wpE G K E e)
 |.lseq e=>AJ K (wpE G K E e)
 |.range1 e=>AI (kj (wpE G K E e) qP)
 |.range2 a b=>AH (kj (wpE G K E a) (kj (wpE G K E b) qP))
end
mutual
noncomputable def wpS(G:Gam)(K:aa)(E:XS):CS->TS
 |.asg g e=>xu (wpE G K E e) (wpG G K E g)
 |.asgc i e=>xu (wpE G K E e) (lp i)
 |.expr e=>zd (wpE G K E e)
 |.iff c a b=>tIfS (wpT G K E c) (wpB G K E a) (wpB G K E b)
 |.whl c b=>y8 (wpT G K E c) (wpB G K E b)
 |.forr g it b=>tFor (wpI G K E it) (wpG G K E g) (wpB G K E b)
 |.ret e=>tRet (wpE G K E e)
 |.retN=>y9
 |.rais x es=>fun D σ H=>∃C,G.val x=some (.ref C)/\bZ K (.ref C)=true/\PySem.W.excIn K C bmV "ValueError.__new__"=true/\wpL G K E es σ H fun vs H1=>vs.length<=sizeLine/\E σ (.ref C) none H1
 |.putk o i e=>zG (wpE G K E o) (wpE G K E i) (wpE G K E e)
 |.pass=>sV
 |.brk=>zg
 |.cont=>tCont
noncomputable def wpB(G:Gam)(K:aa)(E:XS):CB->TS
 |.nil=>sV
 |.hole=>fun _ _ _=>False
 |.cons s r=>tSeq (wpS G K E s) (wpB G K E r)
end
noncomputable abbrev Sat(G:Gam)(K:aa)(sp:Sp)(c:CB)(N:List Str):Prop:=∀vs H Q E,sp vs H Q E->wpB G K (fun _=>E) c {nx:=fun _ H'=>Q .non H',rt:=Q} (L2.start N vs) H
noncomputable def fR:List Str:=["len","isinstance","all","any","list","tuple","int","bool","str","dict","range","enumerate","sorted","set","min","max","ValueError","sum","zip","reversed"]
structure Ok(CX:CXT)(G:Gam)(E:XS)(sc:Scope)(N:List Str)(all:Bool)(X:Cx):Prop where
 names:X.N=N
 top:all=true->X.stack=X.env::X.outer/\X.env.frame=some X.env.locals/\X.ex=[]
 nd:N.Nodup
 loc:∀x,sc.names.lookup x=some .local->X.env.scope.names.lookup x=some .local
 cel:∀x,sc.names.lookup x=some .cell->X.env.scope.names.lookup x=some .cell
 fre:∀x,sc.names.lookup x=some .free->X.env.scope.names.lookup x=some .cell\/X.env.scope.names.lookup x=some .free
 glo:∀x,sc.names.lookup x=some .globalImplicit->X.env.scope.names.lookup x=some .globalImplicit
 all:all=true->∀x,X.fn x=true
 own:∀x,sc.names.lookup x=some .cell->X.fn x=true
 calm:X.calm=true
 hu:X.A.units+50<cLine
 val:∀x v,G.val x=some v->∃u,X.mg x=some u/\RelV v u
 fn:∀x n sp dvs,G.fn x n=some (sp,dvs)->∃f fd ps ds k,gM X.prog X.w X.K X.mg X.base CX k f fd ps sp/\ij k X.A/\X.mg x=some (.ref f)/\bZ X.K (.ref f)=true/\Binds X.K fd ps ds/\bJ dvs ds
 ini:∀x n C sp dvs,G.ini x n=some (C,sp,dvs)->∃f fd ps ds k,MkX X.K C f/\gM X.prog X.w X.K X.mg X.base CX k f fd ps sp/\ij (k+1) X.A/\X.mg x=some (.ref C)/\Binds X.K fd ps ds/\bJ dvs ds
 dic:∀a kvs,G.dic a=some kvs->DkIn X.prog X.w X.K a kvs
 mak:∀x n C sp dvs,G.mak x n=some (C,sp,dvs)->∃f fd ps ds k,Mk X.K C f/\gM X.prog X.w X.K X.mg X.base CX k f fd ps sp/\ij (k+1) X.A/\X.mg x=some (.ref C)/\Binds X.K fd ps ds/\bJ dvs ds
 mth:∀m n C sp dvs,G.mth m n=some (C,sp,dvs)->∃f fd ps ds k,Cls X.K C/\Meth X.K C m f/\gM X.prog X.w X.K X.mg X.base CX k f fd ps sp/\ij k X.A/\Binds X.K fd ps ds/\bJ dvs ds
 blt:∀x∈fR,X.mg x=none
 px:PassesOwn (model X.prog X.w) X.A X.env X.xe
 pass:uG CX X E
 made:MadeS X E
 madeX:A6 X E
 cx:CX=CXx X.prog X.w
theorem Bf.mem:∀b:Bf,b.name∈fR:=by intro b;cases b<;>decide+kernel
theorem Ty.mem:∀b:Ty,b.name∈fR:=by intro b;cases b<;>decide+kernel
section
variable {CX:CXT}{G:Gam}{E:XS}{sc:Scope}{N:List Str}{all:Bool}{X:Cx}
theorem Ok.vis(o:Ok CX G E sc N all X){x:Str}(h:AF sc x=true):Vis X.env.scope x:=by
 unfold AF at h;rw[dm,dm,beq_iff_eq,beq_iff_eq,beq_iff_eq]at h;rcases h with(h|h) |h
 ·exact .inl (o.loc x h)
 ·exact .inr (.inl (o.cel x h))
 ·rcases o.fre x h with q|q
  ·exact .inr (.inl q)
  ·exact .inr (.inr q)
theorem Ok.gl(o:Ok CX G E sc N all X){x:Str}(h:kH sc x=true):Gl X x:=by
 unfold kH at h;rw[beq_iff_eq]at h;exact o.glo x h
theorem ju{x:Str}(h:qg x=true):(x==("__debug__":Str))=false/\(x==("__classdict__":Str))=false:=by
 unfold qg at h;rw[aK,beq_iff_eq,beq_iff_eq]at h;exact h
theorem rBin_ok:∀op,OpR X (eN op) (j4 X.K op)
 |.Add=>op_add.or (vz.or (op_cat.or (r':=fun _ _ _ _=>False) fun _ _ _ _ _ _ _ _ _ _ _ _ h=>h.elim))
 |.Sub=>op_sub
 |.Mult=>op_mul
 |.Mod=>op_mod
 |.FloorDiv=>op_fdiv
 |.Pow=>op_pow
 |.RShift=>op_shr
 |.MatMult=>fun _ _ _ _ _ _ _ _ _ _ _ _ h=>h.elim
 |.Div=>fun _ _ _ _ _ _ _ _ _ _ _ _ h=>h.elim
 |.LShift=>op_shl
 |.BitOr=>fun _ _ _ _ _ _ _ _ _ _ _ _ h=>h.elim
 |.BitXor=>op_xor
 |.BitAnd=>op_and
theorem jK(hu:X.A.units+50<cLine):∀op,OpR X (cc op) (gi X.K op)
 |.Eq=>op_eqD (by omega)
 |.NotEq=>op_neD (by omega)
 |.Lt=>op_lt
 |.LtE=>op_le
 |.Gt=>op_gt
 |.GtE=>op_ge
 |.Is=>op_isN
 |.IsNot=>op_notN
 |.In=>xT.or xU
 |.NotIn=>rn.or ro
theorem rUn_ok:∀op,UnR X (unaryOp op) (rUn X.K op)
 |.USub=>yU
 |.Not=>fun _ _ _ _ _ _ _ _ _ h=>h.elim
 |.UAdd=>fun _ _ _ _ _ _ _ _ _ h=>h.elim
 |.Invert=>fun _ _ _ _ _ _ _ _ _ h=>h.elim
theorem rSlc_ok:SlR X (rSlc X.K):=sl_list.or sl_str
theorem rBf_ok(hc:X.calm=true)(hu:X.A.units+50<cLine):∀b,eU X (Bf.val b) (rBf X.K b)
 |.len=>rR.or rQ
 |.isinstance=>uv.or rS
 |.all=>AW hc
 |.list=>rP
 |.tuple=>pO
 |.min=>yl hc
 |.max=>ym hc
 |.int=>yo
 |.lenk=>yn
 |.listk=>vX hc
 |.sorta=>vW
theorem Mm.slot:∀m:Mm,Slot "list" m.name m.id
 |.append=>PySem.F.slot_list_append|.clear=>PySem.F.slot_list_clear|.reverse=>PySem.F.slot_list_reverse|.pop=>PySem.F.slot_list_pop|.index=>PySem.F.slot_list_index|.extend=>PySem.F.slot_list_extend
theorem Mm.ty:∀m:Mm,typeOf (.builtin m.id)=pure (.type "method_descriptor")
 |.append=>PySem.F.type_list_append|.clear=>PySem.F.type_list_clear|.reverse=>PySem.F.type_list_reverse|.pop=>PySem.F.type_list_pop|.index=>PySem.F.type_list_index|.extend=>PySem.F.type_list_extend
theorem zL:∀m:Mm,MtR X m.id (rMm m)
 |.append=>xY|.clear=>Au|.reverse=>vC|.pop=>MtR.or mt_pop As|.index=>fun _ _ _ _ _ _ _ _ _ _ _ _ h=>h.elim|.extend=>xX
theorem rX{o:Expr}(h:baseOk o=true)(nm:Str)(env:Env)(t:Sem Value):pB o nm env t=t:=by
 cases o<;>first
  |rfl
  |exact cT h
  | (rename_i f es ks p;cases f<;>first
   |rfl
   |exact cT h)
theorem cu{c:CE}{e:Expr}(h:cO sc N c e=true)(es:List Expr)(env:Env):bp (e::es) env=(false,eval e env)::bp es env:=by
 cases e<;>first
  |rfl
  | (cases c<;>exact cT h)
theorem mz{c:CE}{r:CL}{es:List Expr}(h:mB sc N (.cons c r) es=true):∃e' r',es=e'::r'/\cO sc N c e'=true/\mB sc N r r'=true:=
 let⟨e',r',a,k⟩:=sR h
 ⟨e',r',a,an k⟩
theorem oW{es:List Expr}(h:mB sc N .nil es=true):es=[]:=nil_of h
theorem oV:∀{l:CL}{es:List Expr},mB sc N l es=true->∀(env:Env)(pos:Pos),(backTo pos (bp es env)).any (·.1)=false
 |.nil,es,h,env,pos=>by rw[oW h];rfl
 |.cons c r,es,h,env,pos=>by
  obtain⟨e',r',rfl,h1,h2⟩:=mz h;rw[cu h1];show(false||(backTo pos (bp r' env)).any (·.1))=false;rw[oV h2];rfl
theorem zk{l:CL}{es:List Expr}(h:mB sc N l es=true)(hn:(!es.isEmpty)=true):∃e es',es=e::es'/\∀(env:Env)(pos:Pos),bp (e::es') env=(false,eval e env)::bp es' env/\(backTo pos (bp es' env)).any (·.1)=false:=by
 cases l with
 |nil=>
  obtain rfl:=oW h;exact cT hn
 |cons c r=>
  obtain⟨e',r',rfl,h1,h2⟩:=mz h;exact⟨e',r',rfl,fun env pos=>⟨cu h1 _ _,oV h2 _ _⟩⟩
theorem rq{e:Expr}(h:isSet e=false)(env:Env):∀x,gm e env x=pure x:=by
 intro x;cases e<;>first
  |rfl
  | (exact absurd h (by simp[isSet]))
theorem d9{e:Expr}(h:isSet e=false)(op:CmpOp):j8 op e=false:=by
 cases e<;>first
  |rfl
  | (exact absurd h (by simp[isSet]))
theorem zY{e:Expr}(h:jN e=false):xg e:=by
 intro o i;cases e<;>first
  |rfl
  | (exact absurd h (by simp[jN]))
theorem noSl{e:Expr}(h:jN e=false):NoSl e:=by
 intro o i;cases e<;>first
  |rfl
  | (exact absurd h (by simp[jN]))
theorem rA{e:Expr}(h:oI e=false)(t:Option Expr)(l:Nat)(env:Env):kO e t l env=pure false:=by
 cases e<;>first
  |rfl
  | (exact absurd h (by simp[oI]))
theorem pi_any{tg l:Expr}{tl:TE}(hl:PE X l tl):PI X tg l (ye X.K tl):=by
 intro pins s σ H R I h;refine thn (hl pins s σ H _ I h) fun v s1 ⟨x,H1,I1,r1,q1⟩=>?_;have key:∀{tl':TE}{wi:TI},True:=fun{_ _}=>trivial;rcases q1 with q1|q1|q1
 ·obtain⟨a,e,⟨xs,hq⟩,q⟩:=q1
  subst e;cases r1;obtain⟨its,rv,p,hz⟩:=I1.list hq;refine jU p.isList ?_;refine⟨s1.heap.objs.size,[s1.heap.objs.size],_,_,H1,rfl,I1.kept (t':=s1.toks) fun b o e=>af _ e,p0 a _,⟨_,aE _ rfl,rfl,rfl⟩,fun b hb=>?_,q⟩;have e:b=s1.heap.objs.size:=by simpa using hb
  subst e;exact I1.vK (aw _) (I1.hok.fresh (aw _))
 ·obtain⟨a,e,⟨xs,hq⟩,q⟩:=q1
  subst e;cases r1;obtain⟨its,rv,p,hz⟩:=I1.tuple hq;refine wpAny_pyIter_tuple (show s1.heap.IsTuple a its.toArray from p) ?_;refine⟨s1.heap.objs.size,[s1.heap.objs.size],_,_,H1,rfl,I1.kept (t':=s1.toks) fun b o e=>af _ e,u9 a _,⟨_,aE _ rfl,rfl,rfl⟩,fun b hb=>?_,q⟩;have e:b=s1.heap.objs.size:=by simpa using hb
  subst e;exact I1.vK (aw _) (I1.hok.fresh (aw _))
 ·obtain⟨z,e,q⟩:=q1
  subst e;obtain⟨t,rfl⟩:=r1;refine wpAny_pyIter_strU ?_;refine⟨s1.heap.objs.size,[s1.heap.objs.size],_,_,H1,rfl,I1.kept (t':=s1.toks) fun b o e=>af _ e,yX z _ t,⟨_,aE _ rfl,rfl,rfl⟩,fun b hb=>?_,q⟩;have e:b=s1.heap.objs.size:=by simpa using hb
  subst e;exact I1.vK (aw _) (I1.hok.fresh (aw _))
end
set_option maxHeartbeats 4000000
section
variable {CX:CXT}{G:Gam}
structure jS(sc sc':Scope)(N own:List Str)(fr:List Nat):Prop where
 kind:sc'.kind=.function
 cellk:∀y∈sc'.names,y.2=.cell->sc'.names.lookup y.1=some .cell
 own1:∀y∈sc'.names,y.2=.local->sc'.names.lookup y.1=some .local
 free:∀y∈sc'.names,y.2=.free->sc.names.lookup y.1=some .cell\/sc.names.lookup y.1=some .free
 nd:(namesOf N own fr).Nodup
 fr:∀j∈fr,j<N.length/\sc'.names.lookup (N.getD j "")=some .free
 own2:∀x∈own,sc'.names.lookup x=some .local\/sc'.names.lookup x=some .cell
theorem og{sc sc':Scope}{N own:List Str}{fr:List Nat}(h:rp sc sc' N own fr=true):jS sc sc' N own fr:=by
 unfold rp at h;simp only[aK,dY,decide_eq_true_eq,beq_iff_eq,dm]at h;obtain⟨⟨⟨⟨⟨⟨h1,h2⟩,h3⟩,h4⟩,h5⟩,h6⟩,h7⟩:=h;exact⟨h1,h2,h3,h4,h5,h6,h7⟩
theorem jS.comp{E:XS}{sc sc':Scope}{N own:List Str}{fr:List Nat}{all:Bool}{X:Cx}(S:jS sc sc' N own fr)(o:Ok CX G E sc N all X):jT X (namesOf N own fr) sc':=
 ⟨S.kind,S.cellk,S.own1,fun y hy hf=>by
  rcases S.free y hy hf with q|q
  ·exact .inl (o.cel _ q)
  ·exact o.fre _ q⟩
theorem jS.mkOk{E:XS}{sc sc':Scope}{N own:List Str}{fr:List Nat}{all:Bool}{X:Cx}(S:jS sc sc' N own fr)(o:Ok CX G E sc N all X):MkOk X (namesOf N own fr) sc' (iT own fr):=by
 intro σ hl;refine⟨by simp[iT,namesOf],fun i x v h1 h2=>?_⟩;unfold iT at h2;unfold namesOf at h1;by_cases hi:i<own.length
 ·rw[iR (by simpa using hi),aW]at h2
  cases q:own[i]? with
  |none=>rw[q]at h2;cases h2
  |some z=>rw[q]at h2;cases h2
 ·rw[dA (by simpa using hi),aW,ai]at h2
  rw[dA (by simpa using hi),aW]at h1;cases q:fr[i-own.length]? with
  |none=>rw[q]at h2;cases h2
  |some j=>
   rw[q]at h1 h2;have hx:N.getD j ""=x:=bz h1;have hv:(σ[j]?).getD none=some v:=bz h2;obtain⟨hj,hf⟩:=S.fr j (dJ q);refine⟨by rw[<-hx];exact hf,j,?_,?_⟩
   ·rw[o.names,<-hx,av,ag hj];rfl
   ·cases w:σ[j]? with
    |none=>rw[w]at hv;cases hv
    |some z=>rw[w]at hv;exact congrArg some hv
noncomputable abbrev HX(CX:CXT):Prop:=∀o H s e s',CX o H s E0 e s'->False
theorem Ok.comp{E:XS}{sc sc':Scope}{N own:List Str}{fr:List Nat}{all:Bool}{X:Cx}(hCX:HX CX)(S:jS sc sc' N own fr)(o:Ok CX G E sc N all X)(C:Addr)(s₀:Shared)(H₀:Hp)(fp:List Addr):
  Ok CX G N0 sc' (namesOf N own fr) false (cU X (namesOf N own fr) sc' C s₀ H₀ fp) where
 names:=rfl
 nd:=S.nd
 loc:=fun x h=>lookup_relabel_local (env:=X.env) h
 cel:=fun x h=>eA (env:=X.env) h (by decide)
 own:=fun x h=>jq.mpr ⟨(x,.cell),ba h,by simp⟩
 fre:=fun x h=>(eL (env:=X.env) h).symm
 glo:=fun x h=>eA (env:=X.env) h (by decide)
 all:=fun h=>absurd h (by decide)
 calm:=o.calm
 hu:=o.hu
 val:=o.val
 fn:=o.fn
 ini:=o.ini
 dic:=o.dic
 mak:=o.mak
 mth:=o.mth
 blt:=o.blt
 px:=PassesOwn.never
 pass:=fun _ _ _ _ _ _ _ h=>(hCX _ _ _ _ _ h).elim
 made:=fun _ _ _ _ _ _ _ _ _ _ h=>h.elim
 madeX:=fun _ _ _ _ _ _ _ _ _ h=>h.elim
 cx:=o.cx
 top:=fun h=>absurd h (by decide)
theorem ot{sc:Scope}{N:List Str}{all:Bool}{g:CG}{e:Expr}(h:ur sc N all g e=true)(es:List Expr)(env:Env):fk (e::es) env=(false,assign e env)::fk es env:=by
 cases e<;>first
  |rfl
  | (cases g<;>exact cT h)
theorem oX{sc:Scope}{N:List Str}{all:Bool}{g:CG}{r:CGs}{es:List Expr}(h:oY sc N all (.cons g r) es=true):∃e' r',es=e'::r'/\ur sc N all g e'=true/\oY sc N all r r'=true:=
 let⟨e',r',a,k⟩:=sR h
 ⟨e',r',a,an k⟩
theorem qy{sc:Scope}{N:List Str}{all:Bool}{es:List Expr}(h:oY sc N all .nil es=true):es=[]:=nil_of h
theorem mU{sc:Scope}{N:List Str}{all:Bool}:∀{gs:CGs}{es:List Expr},oY sc N all gs es=true->∀env,(fk es env).length=gs.len/\(fk es env).findIdx? (·.1)=none
 |.nil,es,h,env=>by rw[qy h];exact⟨rfl,rfl⟩
 |.cons g r,es,h,env=>by
  obtain⟨e',r',rfl,h1,h2⟩:=oX h;obtain⟨a,b⟩:=mU h2 env;rw[ot h1];refine⟨by rw[aS,a,CGs.len],?_⟩;rw[List.findIdx?_cons];simp[b]
end
section
variable {CX:CXT}{G:Gam}
noncomputable abbrev IHE(CX:CXT)(G:Gam)(c:CE):Prop:=∀(e:Expr){E:XS}{sc:Scope}{N:List Str}{all:Bool}{X:Cx},Ok CX G E sc N all X->cO sc N c e=true->PE X e (wpE G X.K E c)
noncomputable abbrev IHT(CX:CXT)(G:Gam)(c:CE):Prop:=∀(e:Expr){E:XS}{sc:Scope}{N:List Str}{all:Bool}{X:Cx},Ok CX G E sc N all X->cO sc N c e=true->PT X e (wpT G X.K E c)
noncomputable def isBo:Expr->Bool
 |.BoolOp .. =>true
 |_=>false
theorem isBo_of{e:Expr}(h:isBo e=true):∃op es p,e=.BoolOp op es p:=by
 cases e<;>first
  |exact⟨_,_,_,rfl⟩
  |exact cT h
noncomputable abbrev IHW(CX:CXT)(G:Gam)(c:CE):Prop:=∀(e:Expr){E:XS}{sc:Scope}{N:List Str}{all:Bool}{X:Cx},Ok CX G E sc N all X->cO sc N c e=true->isBo e=true->PW X e (wpT G X.K E c)
noncomputable abbrev IHL(CX:CXT)(G:Gam)(c:CL):Prop:=∀(es:List Expr){E:XS}{sc:Scope}{N:List Str}{all:Bool}{X:Cx},Ok CX G E sc N all X->mB sc N c es=true->PA X es (wpL G X.K E c)
noncomputable abbrev IHP(CX:CXT)(G:Gam)(c:CP):Prop:=∀(ks:List (Option Expr))(vs:List Expr){E:XS}{sc:Scope}{N:List Str}{all:Bool}{X:Cx},Ok CX G E sc N all X->chkP sc N c ks vs=true->∀pos,
  PPs X pos ks vs (wpP G X.K E c)/\ks.all (·.isSome)=true/\ks.length=vs.length/\(c≠.nil->ks≠[])
noncomputable abbrev IHO(CX:CXT)(G:Gam)(c:CO):Prop:=∀(e:Option Expr){E:XS}{sc:Scope}{N:List Str}{all:Bool}{X:Cx},Ok CX G E sc N all X->chkO sc N c e=true->PO X e (wpO G X.K E c)
noncomputable abbrev IHC(CX:CXT)(G:Gam)(c:CO):Prop:=∀(es:List Expr){E:XS}{sc:Scope}{N:List Str}{all:Bool}{X:Cx},Ok CX G E sc N all X->chkC sc N c es=true->PTs X es (wpC G X.K E c)
noncomputable abbrev IHG(CX:CXT)(G:Gam)(c:CG):Prop:=∀(e:Expr){E:XS}{sc:Scope}{N:List Str}{all:Bool}{X:Cx},Ok CX G E sc N all X->ur sc N all c e=true->PG X e (wpG G X.K E c)
noncomputable abbrev A7(CX:CXT)(G:Gam)(c:CGs):Prop:=∀(es:List Expr){E:XS}{sc:Scope}{N:List Str}{all:Bool}{X:Cx},Ok CX G E sc N all X->oY sc N all c es=true->PGs X es (wpGs G X.K E c)
noncomputable abbrev IHI(CX:CXT)(G:Gam)(c:CI):Prop:=∀(e tg:Expr){E:XS}{sc:Scope}{N:List Str}{all:Bool}{X:Cx},Ok CX G E sc N all X->chkI sc N c e tg=true->PI X tg e (wpI G X.K E c)
theorem zy{i:Nat}:IHE CX G (.var i):=by
  intro e E sc N all X o h;obtain⟨x,p,rfl,k⟩:=iX h;obtain⟨h1,h2,h3⟩:=gG k;obtain⟨d1,d2⟩:=ju h3;exact pe_var (by rw[o.names];exact beq_iff_eq.mp h1) (o.vis h2) d1 d2
theorem zD{c:Const}:IHE CX G (.con c):=by
  intro e E sc N all X o h;obtain⟨c',j,p,rfl,k⟩:=vQ h;obtain⟨h1,h2⟩:=an k;cases of_decide_eq_true h2;cases c with
  |none=>exact pe_non
  |bool b=>exact pe_bl
  |int i=>exact z8
  |str x=>exact pe_str
  |_=>exact cT h1
theorem zC{x:Str}:IHE CX G (.glo x):=by
  intro e E sc N all X o h;obtain⟨y,p,rfl,k⟩:=iX h;obtain⟨h1,h2,h3⟩:=gG k;cases of_decide_eq_true h1;intro pins s σ H Q I hw;obtain⟨v,hv,q⟩:=hw;obtain⟨u,hu,r⟩:=o.val _ _ hv;exact pe_glob (o.gl h2) hu r (ju h3).1 pins s σ H Q I q
theorem sE_ty{t:Ty}:IHE CX G (.ty t):=by
  intro e E sc N all X o h;obtain⟨y,p,rfl,k⟩:=iX h;obtain⟨h1,h2⟩:=an k;cases of_decide_eq_true h1;exact pe_bltn (o.gl h2) (o.blt _ t.mem) t.boot rfl t.plain.1 t.plain.2
theorem sE_bin{op:Operator}{a b:CE}(ia:IHE CX G a)(ib:IHE CX G b):IHE CX G (.bin op a b):=by
  intro e E sc N all X o h;obtain⟨a',op',b',p,rfl,k⟩:=dBi_of h;obtain⟨h1,h2,h3⟩:=gG k;cases of_decide_eq_true h1;exact pe_op (rBin_ok op) (ia _ o h2) (ib _ o h3)
theorem sE_un{op:UnaryOp}{a:CE}(ia:IHE CX G a):IHE CX G (.un op a):=by
  intro e E sc N all X o h;obtain⟨op',a',p,rfl,k⟩:=rN h;obtain⟨h1,h2⟩:=an k;cases of_decide_eq_true h1;exact pe_un (rUn_ok op) (ia _ o h2)
theorem sE_cmp{op:CmpOp}{a b:CE}(ia:IHE CX G a)(ib:IHE CX G b):IHE CX G (.cmp op a b):=by
  intro e E sc N all X o h;obtain⟨a',op',b',p,rfl,h0,k⟩:=jC h;obtain⟨h1,h2,h3⟩:=gG k;cases of_decide_eq_true h1;exact wH (jK o.hu op) (ia _ o h2) (ib _ o h3) (d9 h0 op)
theorem zE{o1 o2:CmpOp}{a b c:CE}(ia:IHE CX G a)(ib:IHE CX G b)(ic:IHE CX G c):IHE CX G (.chain o1 o2 a b c):=by
  intro e E sc N all X o h;obtain⟨a',os,es,p,rfl,k⟩:=vR h;obtain⟨p',q',rfl,l⟩:=qo k;obtain⟨b',c',rfl,m⟩:=qo l;obtain⟨h1,h2,h3,n⟩:=kM m;obtain⟨h4,h5,h6⟩:=gG n;cases of_decide_eq_true h1;cases of_decide_eq_true h2;exact Ad (jK o.hu o1) (jK o.hu o2) (ia _ o h4) (ib _ o h5) (ic _ o h6) (d9 (l9 h3) o2)
theorem sE_not{a:CE}(ia:IHE CX G a):IHE CX G (.not a):=by
  intro e E sc N all X o h;obtain⟨op',a',p,rfl,k⟩:=rN h;obtain⟨h1,h2⟩:=an k;cases of_decide_eq_true h1;exact pe_not (ia _ o h2)
theorem sE_and{a b:CE}(ia:IHE CX G a)(ib:IHE CX G b):IHE CX G (.and a b):=by
  intro e E sc N all X o h;obtain⟨op,a',x,p,k,m⟩:=mw h;obtain⟨h1,h2,h3⟩:=gG k;cases of_decide_eq_true h1;rcases m with rfl|⟨b',c',r,rfl,rfl⟩
  ·exact Ag (ia _ o h2) (z7 (ib _ o h3))
  ·exact Ag (ia _ o h2) (ib _ o h3)
theorem sE_or{a b:CE}(ia:IHE CX G a)(ib:IHE CX G b):IHE CX G (.or a b):=by
  intro e E sc N all X o h;obtain⟨op,a',x,p,k,m⟩:=mw h;obtain⟨h1,h2,h3⟩:=gG k;cases of_decide_eq_true h1;rcases m with rfl|⟨b',c',r,rfl,rfl⟩
  ·exact pe_or (ia _ o h2) (z7 (ib _ o h3))
  ·exact pe_or (ia _ o h2) (ib _ o h3)
theorem sE_ite{c a b:CE}(ic:IHT CX G c)(ia:IHE CX G a)(ib:IHE CX G b):IHE CX G (.ite c a b):=by
  intro e E sc N all X o h;obtain⟨c',a',b',p,rfl,k⟩:=dIf_of h;obtain⟨h1,h2,h3⟩:=gG k;exact z9 (ic _ o h1) (ia _ o h2) (ib _ o h3)
theorem zB{a i:CE}(ia:IHE CX G a)(ii:IHE CX G i):IHE CX G (.idx a i):=by
  intro e E sc N all X o h;obtain⟨a',i',p,rfl,k⟩:=mq h;obtain⟨h1,h2,h3⟩:=gG k;exact pe_ix ix_seq (ia _ o h2) (ii _ o h3) (zY (l9 h1))
theorem sE_cut{a:CE}{lo hi:CO}(ia:IHE CX G a)(il:IHO CX G lo)(ih:IHO CX G hi):IHE CX G (.cut a lo hi):=by
  intro e E sc N all X o h;obtain⟨a',s,p,rfl,k⟩:=mq h;obtain⟨l,u,t,p',rfl,m⟩:=AS k;obtain⟨h1,h2,n⟩:=gG m;obtain⟨h3,h4⟩:=an n;cases dE.mp h1;exact z0 rSlc_ok (ia _ o h2) (il _ o h3) (ih _ o h4)
theorem sE_tup{es:CL}(ie:IHL CX G es):IHE CX G (.tup es):=by
  intro e E sc N all X o h;obtain⟨es',j,p,rfl,k⟩:=AR h;exact pe_tup (ie _ o k)
theorem sE_lst{es:CL}(ie:IHL CX G es):IHE CX G (.lst es):=by
  intro e E sc N all X o h;obtain⟨es',p,rfl,k⟩:=dLi_of h;exact pe_lst (ie _ o k)
theorem sE_dic{ps:CP}(ip:IHP CX G ps):IHE CX G (.dic ps):=by
  intro e E sc N all X o h;obtain⟨ks,vs,p,rfl,k⟩:=dDi_of h;obtain⟨h1,h2⟩:=an k;intro pins s σ H Q I hw;rcases hw with⟨e1,hw⟩ |⟨e1,hw⟩
  ·subst e1
   obtain⟨h3,h4⟩:=an h2;obtain rfl:=nil_of h3;obtain rfl:=nil_of h4;exact Aa pins s σ H Q I hw
  ·obtain⟨p1,p2,p3,p4⟩:=ip ks vs o h2 p
   exact pe_disp p1 p2 p3 (p4 e1) (of_decide_eq_true h1) pins s σ H Q I hw
theorem wu{f:Str}{es:CL}(ie:IHL CX G es):IHE CX G (.call f es):=by
  intro e E sc N all X o h;obtain⟨f',np,es',p,rfl,k⟩:=gF h;obtain⟨h1,h2,h3,h4⟩:=kM k;cases of_decide_eq_true h1;intro pins s σ H Q I hw;obtain⟨sp,dvs,hf,hw⟩:=hw;obtain⟨fa,fd,ps,ds,k,F,hr,hm,hk,hb,hd⟩:=o.fn _ _ _ _ hf;cases es' with
  |nil=>
   cases es with
   |nil=>exact xP F hr (o.gl h2) hm hk hb hd o.pass (ju h3).1 pins s σ H Q I hw
   |cons=>exact cT h4
  |cons e1 r1=>
   have hL:=ie _ o h4;obtain⟨_,_,e,hs⟩:=zk h4 rfl;cases e;exact Ae F hr (o.gl h2) hm hk hb hd o.pass hL (ju h3).1 (hs _ p).1 (hs _ _).2 pins s σ H Q I hw
theorem Bf.kind:∀b:Bf,(∃n,b.val=.builtin n)\/∃n,b.val=.type n:=by intro b;cases b<;>first |exact .inl ⟨_,rfl⟩ |exact .inr ⟨_,rfl⟩
theorem pe_bf{X:Cx}{b:Bf}{np pos:Pos}{es:List Expr}{t:TA}{l:CL}{sc:Scope}{N:List Str}(hB:eU X b.val (rBf X.K b))(hg:Gl X b.name)(hm:X.mg b.name=none)(hL:PA X es t)(hn:(!es.isEmpty)=true)(h:mB sc N l es=true):PE X (.Call (.Name b.name np) es [] pos) (tCB (rBf X.K b) t):=by
 obtain⟨e,es',rfl,hs⟩:=zk h hn;have hv:=b.boot;rcases b.kind with⟨n,q⟩ |⟨n,q⟩
 ·rw[q]at hB hv
  exact Af hB hg hm hv hL b.plain.1 b.plain.2 (hs _ pos).1 (hs _ _).2
 ·rw[q]at hB hv
  exact xO hB hg hm hv hL b.plain.1 b.plain.2 (hs _ pos).1 (hs _ _).2
theorem zF{b:Bf}{es:CL}(ie:IHL CX G es):IHE CX G (.bfn b es):=by
  intro e E sc N all X o h;obtain⟨f',np,es',p,rfl,k⟩:=gF h;obtain⟨h1,h2,h3,h4⟩:=kM k;cases of_decide_eq_true h1;exact pe_bf (rBf_ok o.calm o.hu b) (o.gl h2) (o.blt _ b.mem) (ie _ o h4) h3 h4
theorem zA{m:Mm}{b:CE}(ib:IHE CX G b):IHE CX G (.meth0 m b):=by
  intro e E sc N all X o h;obtain⟨o',ap,es,cp,rfl,h0,k⟩:=vO h;obtain⟨h1,h2,h3⟩:=gG k;obtain rfl:=nil_of h1;exact pe_bm0 sD m.slot m.ty (zL m) (ib _ o h3) (rX h2 _ _ _) h0
theorem zz{m:Mm}{b a:CE}(ib:IHE CX G b)(ia:IHE CX G a):IHE CX G (.meth1 m b a):=by
  intro e E sc N all X o h;obtain⟨o',ap,es,cp,rfl,h0,k⟩:=vO h;obtain⟨a',rfl,l⟩:=gT k;obtain⟨h1,h2,h3⟩:=gG l;exact pe_bm sD m.slot m.ty (zL m) (ib _ o h2) (gR (ia _ o h3) l6 (cu h3 _ _)) (rX h1 _ _ _) (by rw[cu h3];rfl) h0 (cu h3 _ _) rfl
theorem sE_rev{a:CE}(ia:IHE CX G a):IHE CX G (.rev a):=by
  intro e E sc N all X o h;obtain⟨a',s,p,rfl,h1⟩:=mq h;obtain⟨x,y,z,p1,rfl,h2⟩:=AS h1;obtain⟨g1,g2,h3⟩:=gG h2;obtain⟨g3,g4⟩:=an h3;obtain⟨z',rfl,g5⟩:=wJ g3;obtain⟨op,c,p2,rfl,g6⟩:=rN g5;obtain⟨g7,g8⟩:=an g6;obtain⟨c',j,p3,rfl,g9⟩:=vQ g8;cases of_decide_eq_true g7;cases of_decide_eq_true g9;cases dE.mp g1;cases dE.mp g2;exact pe_rev (ia _ o g4) xN
theorem sE_lzip{a b:CE}(ia:IHE CX G a)(ib:IHE CX G b):IHE CX G (.lzip a b):=by
  intro e E sc N all X o h;obtain⟨_,p,_,t,rfl,i⟩:=gF h;obtain⟨x,rfl,j⟩:=gT i;obtain⟨_,q,_,r,rfl,l⟩:=gF j;obtain⟨a',b',rfl,m⟩:=qo l;obtain⟨h1,h2,h3,h4,n⟩:=and5 m;obtain⟨h5,h6⟩:=an n;cases of_decide_eq_true h1;cases of_decide_eq_true h2;exact pe_lzip o.calm (o.gl h4) (o.blt _ (by decide+kernel)) (o.gl h3) (o.blt _ (by decide+kernel)) (gR (ia _ o h5) (gR (ib _ o h6) l6 (cu h6 _ _)) (cu h5 _ _)) (cu h5 _ _) (by rw[cu h6];rfl)
theorem sE_sset{a:CE}(ia:IHE CX G a):IHE CX G (.sset a):=by
  intro e E sc N all X o h;obtain⟨p,a',q,r,t,rfl,h1,h2,h3⟩:=dFF_of h;exact tL o.calm (o.gl h1) (o.blt _ (by decide+kernel)) (o.gl h2) (o.blt _ (by decide+kernel)) (gR (ia _ o h3) l6 (cu h3 _ _)) (cu h3 _ _)
theorem m1_of{X:Cx}{o e:Expr}{m:Str}{ap cp:Pos}{c:CE}{sc:Scope}{N:List Str}(hb:baseOk o=true)(h0:(ap.endLine==cp.line)=true)(h:cO sc N c e=true):M1 X o m ap e cp:=⟨rX hb _ _ _,by rw[cu h];rfl,h0,by rw[cu h];rfl⟩
theorem sE_x2{k:X2}{a b:CE}(ia:IHE CX G a)(ib:IHE CX G b):IHE CX G (.x2 k a b):=by
  intro e E sc N all X o h0;obtain⟨_,h⟩:=an h0;have hu:X.A.units+1<cLine:=by have :=o.hu;omega
  cases k with
  |idxk=>
   obtain⟨a',i',p,rfl,k⟩:=mq h;obtain⟨h1,k⟩:=an k;obtain⟨h2,h3⟩:=an k;exact pe_dget hu (ia _ o h2) (ib _ o h3) (noSl (l9 h1))
  |ink=>
   obtain⟨a',op,b',p,rfl,h4,k⟩:=jC h;obtain⟨h1,k⟩:=an k;obtain⟨h2,h3⟩:=an k;cases of_decide_eq_true h1;exact Ac (Ah hu (ia _ o h2) (ib _ o h3)) (d9 h4 _)
  |nink=>
   obtain⟨a',op,b',p,rfl,h4,k⟩:=jC h;obtain⟨h1,k⟩:=an k;obtain⟨h2,h3⟩:=an k;cases of_decide_eq_true h1;exact Ac (qf hu (ia _ o h2) (ib _ o h3)) (d9 h4 _)
  |getk=>
   obtain⟨o',ap,es,cp,rfl,h4,k⟩:=vO h;obtain⟨a',rfl,k⟩:=gT k;obtain⟨h1,k⟩:=an k;obtain⟨h2,h3⟩:=an k;exact Ab hu (ia _ o h2) (ib _ o h3) (m1_of h1 h4 h3)
  |nek=>
   obtain⟨a',op,b',p,rfl,h4,k⟩:=jC h;obtain⟨h1,k⟩:=an k;obtain⟨h2,h3⟩:=an k;cases of_decide_eq_true h1;exact wH (Ai hu) (ia _ o h2) (ib _ o h3) (d9 h4 _)
theorem sT_x2{k:X2}{a b:CE}(ia:IHE CX G a)(ib:IHE CX G b):IHT CX G (.x2 k a b):=by
  intro e E sc N all X o h0;obtain⟨_,h⟩:=an h0;have hu:X.A.units+1<cLine:=by have :=o.hu;omega
  cases k with
  |ink=>
   obtain⟨a',op,b',p,rfl,h4,k⟩:=jC h;obtain⟨h1,k⟩:=an k;obtain⟨h2,h3⟩:=an k;cases of_decide_eq_true h1;exact zR (Ah hu (ia _ o h2) (ib _ o h3)) (d9 h4 _)
  |nink=>
   obtain⟨a',op,b',p,rfl,h4,k⟩:=jC h;obtain⟨h1,k⟩:=an k;obtain⟨h2,h3⟩:=an k;cases of_decide_eq_true h1;exact zR (qf hu (ia _ o h2) (ib _ o h3)) (d9 h4 _)
  |nek=>
   obtain⟨a',op,b',p,rfl,h4,k⟩:=jC h;obtain⟨h1,k⟩:=an k;obtain⟨h2,h3⟩:=an k;cases of_decide_eq_true h1;exact wC (Ai hu) (ia _ o h2) (ib _ o h3) (d9 h4 _)
  |_=>exact fun _ _ _ _ _ _ z=>z.elim
theorem sE_comp(hCX:HX CX){own:List Str}{fr:List Nat}{tg:CG}{it:CI}{cond:CO}{elt:CE}(ii:IHI CX G it)(ig:IHG CX G tg)(ic:IHC CX G cond)(ie:IHE CX G elt):IHE CX G (.comp own fr tg it cond elt):=by
  intro e E sc N all X o h;obtain⟨elt',gs,sc',p,rfl,k⟩:=vP h;obtain⟨⟨tg',it',ifs',y⟩,rfl,l⟩:=gT k;obtain⟨h1,h2,h3,m⟩:=kM l;obtain⟨h4,h5,h6,h7⟩:=kM m;cases of_decide_eq_true h1;have S:=og h2;exact pe_comp (S.comp o) (S.mkOk o) o.calm (ii _ _ o h4)
   (fun C s₀ H₀ fp _=>⟨ig _ (o.comp hCX S C s₀ H₀ fp) h5,ic _ (o.comp hCX S C s₀ H₀ fp) h6,ie _ (o.comp hCX S C s₀ H₀ fp) h7⟩) (rq (l9 h3) _)
theorem sT_cmp{op:CmpOp}{a b:CE}(ia:IHE CX G a)(ib:IHE CX G b):IHT CX G (.cmp op a b):=by
  intro e E sc N all X o h;obtain⟨a',op',b',p,rfl,h0,k⟩:=jC h;obtain⟨h1,h2,h3⟩:=gG k;cases of_decide_eq_true h1;exact wC (jK o.hu op) (ia _ o h2) (ib _ o h3) (d9 h0 op)
theorem zv{o1 o2:CmpOp}{a b c:CE}(ia:IHE CX G a)(ib:IHE CX G b)(ic:IHE CX G c):IHT CX G (.chain o1 o2 a b c):=by
  intro e E sc N all X o h;obtain⟨a',os,es,p,rfl,k⟩:=vR h;obtain⟨p',q',rfl,l⟩:=qo k;obtain⟨b',c',rfl,m⟩:=qo l;obtain⟨h1,h2,h3,n⟩:=kM m;obtain⟨h4,h5,h6⟩:=gG n;cases of_decide_eq_true h1;cases of_decide_eq_true h2;exact zS (jK o.hu o1) (jK o.hu o2) (ia _ o h4) (ib _ o h5) (ic _ o h6) (d9 (l9 h3) o2)
theorem sT_not{a:CE}(ia:IHT CX G a):IHT CX G (.not a):=by
  intro e E sc N all X o h;obtain⟨op',a',p,rfl,k⟩:=rN h;obtain⟨h1,h2⟩:=an k;cases of_decide_eq_true h1;exact pt_not (ia _ o h2)
theorem sT_var{i:Nat}:IHT CX G (.var i):=by
  intro e E sc N all X o h;have q:=zy e o h;obtain⟨x,p,rfl,k⟩:=iX h;exact iK q fun _=>rfl
theorem sT_con{c:Const}:IHT CX G (.con c):=by
  intro e E sc N all X o h;have q:=zD e o h;obtain⟨x,j,p,rfl,k⟩:=vQ h;exact iK q fun _=>rfl
theorem sT_glo{x:Str}:IHT CX G (.glo x):=by
  intro e E sc N all X o h;have q:=zC e o h;obtain⟨x,p,rfl,k⟩:=iX h;exact iK q fun _=>rfl
theorem sT_idx{a i:CE}(ia:IHE CX G a)(ii:IHE CX G i):IHT CX G (.idx a i):=by
  intro e E sc N all X o h;have q:=zB ia ii e o h;obtain⟨x,y,p,rfl,k⟩:=mq h;exact iK q fun _=>rfl
theorem sT_call{f:Str}{es:CL}(ie:IHL CX G es):IHT CX G (.call f es):=by
  intro e E sc N all X o h;have q:=wu ie e o h;obtain⟨x,np,es,p,rfl,k⟩:=gF h;exact iK q fun _=>rfl
theorem sT_bfn{b:Bf}{es:CL}(ie:IHL CX G es):IHT CX G (.bfn b es):=by
  intro e E sc N all X o h;have q:=zF ie e o h;obtain⟨x,np,es,p,rfl,k⟩:=gF h;exact iK q fun _=>rfl
theorem zu{a b:CE}(ia:IHT CX G a)(ib:IHT CX G b)(iw:IHW CX G b):IHW CX G (.and a b):=by
  intro e E sc N all X o h;obtain⟨op,a',x,p,k,m⟩:=mw h;obtain⟨h1,h2,h3⟩:=gG k;cases of_decide_eq_true h1;rcases m with rfl|⟨b',c',r,rfl,rfl⟩
  ·exact fun _=>zO (ia _ o h2) (pw_and1 (ib _ o h3))
  ·exact fun _=>zO (ia _ o h2) (iw _ o h3 rfl)
theorem sT_and{a b:CE}(iw:IHW CX G (.and a b)):IHT CX G (.and a b):=by
  intro e E sc N all X o h;obtain⟨op,a',x,p,k,m⟩:=mw h;exact(iw _ o h (by rcases m with rfl|⟨b',c',r,rfl,rfl⟩<;>rfl)).pt
theorem sW_or{a b:CE}(ia:IHT CX G a)(ib:IHT CX G b)(iw:IHW CX G b):IHW CX G (.or a b):=by
  intro e E sc N all X o h;obtain⟨op,a',x,p,k,m⟩:=mw h;obtain⟨h1,h2,h3⟩:=gG k;cases of_decide_eq_true h1;rcases m with rfl|⟨b',c',r,rfl,rfl⟩
  ·exact fun _=>pw_or (ia _ o h2) (pw_or1 (ib _ o h3))
  ·exact fun _=>pw_or (ia _ o h2) (iw _ o h3 rfl)
theorem sT_or{a b:CE}(iw:IHW CX G (.or a b)):IHT CX G (.or a b):=by
  intro e E sc N all X o h;obtain⟨op,a',x,p,k,m⟩:=mw h;exact(iw _ o h (by rcases m with rfl|⟨b',c',r,rfl,rfl⟩<;>rfl)).pt
theorem sL_nil:IHL CX G .nil:=by
  intro es E sc N all X o h;obtain rfl:=oW h;exact l6
theorem sL_cons{c:CE}{r:CL}(ic:IHE CX G c)(ir:IHL CX G r):IHL CX G (.cons c r):=by
  intro es E sc N all X o h;obtain⟨e',r',rfl,h1,h2⟩:=mz h;exact gR (ic _ o h1) (ir _ o h2) (cu h1 _ _)
theorem sP_nil:IHP CX G .nil:=by
  intro ks vs E sc N all X o h pos;obtain⟨h1,h2⟩:=an h;obtain rfl:=nil_of h1;obtain rfl:=nil_of h2;exact⟨pps_nil,rfl,rfl,fun z=>absurd rfl z⟩
theorem sP_cons{k v:CE}{r:CP}(ir:IHP CX G r)(ik:IHE CX G k)(iv:IHE CX G v):IHP CX G (.cons k v r):=by
  intro ks vs E sc N all X o h pos;obtain⟨k',ks',rfl,l⟩:=sR h;obtain⟨v',vs',rfl,m⟩:=sR l;obtain⟨k',rfl,n⟩:=wJ m;obtain⟨h1,h2,h3⟩:=gG n;obtain⟨p1,p2,p3,_⟩:=ir _ _ o h3 pos;exact⟨zX (ik _ o h1) (iv _ o h2) p1,by simp[p2],by simp[p3],fun _=>by simp⟩
theorem sO_no:IHO CX G .no:=by
  intro e E sc N all X o h;obtain rfl:=dE.mp h;exact po_none
theorem sO_yes{c:CE}(ic:IHE CX G c):IHO CX G (.yes c):=by
  intro e E sc N all X o h;obtain⟨e',rfl,k⟩:=wJ h;exact po_some (ic _ o k)
theorem sC_no:IHC CX G .no:=by
  intro es E sc N all X o h;obtain rfl:=nil_of h;exact pts_nil
theorem sC_yes{c:CE}(ic:IHT CX G c):IHC CX G (.yes c):=by
  intro es E sc N all X o h;obtain⟨e',rfl,k⟩:=gT h;exact pts_one (ic _ o k)
theorem sG_name{i:Nat}:IHG CX G (.name i):=by
  intro e E sc N all X o h;obtain⟨x,p,rfl,k⟩:=iX h;rw[aK,dm,beq_iff_eq,beq_iff_eq,beq_iff_eq]at k;obtain⟨h1,h2⟩:=k;refine wG (by rw[o.names];exact o.nd) (by rw[o.names];exact h1) ?_ ?_
  ·rcases h2 with q|q
   ·exact .inl (o.loc x q)
   ·exact .inr (o.cel x q)
  ·rcases h2 with q|q
   ·exact .inr (o.loc x q)
   ·exact .inl (o.own x q)
theorem sG_tup{gs:CGs}(ig:A7 CX G gs):IHG CX G (.tup gs):=by
  intro e E sc N all X o h;obtain⟨es,j,p,rfl,k⟩:=AR h;obtain⟨a,b⟩:=mU k X.env;exact pg_tup o.calm (ig _ o k) a b
theorem sGs_nil:A7 CX G .nil:=by
  intro es E sc N all X o h;obtain rfl:=qy h;exact pgs_nil
theorem zx{c:CG}{r:CGs}(ic:IHG CX G c)(ir:A7 CX G r):A7 CX G (.cons c r):=by
  intro es E sc N all X o h;obtain⟨e',r',rfl,h1,h2⟩:=oX h;exact zZ (ic _ o h1) (ir _ o h2) (by rw[ot h1];rfl)
theorem sI_seq{c:CE}(ic:IHE CX G c):IHI CX G (.seq c):=by
  intro e tg E sc N all X o h;exact pi_any (ic _ o h)
theorem sI_lseq{c:CE}(ic:IHE CX G c):IHI CX G (.lseq c):=by
  intro e tg E sc N all X o h;exact pi_list (ic _ o h)
theorem xF{c:CE}(ic:IHE CX G c):IHI CX G (.range1 c):=by
  intro e tg E sc N all X o h;obtain⟨f,np,es,p,rfl,k⟩:=gF h;obtain⟨e',rfl,l⟩:=gT k;obtain⟨h1,h2,h3⟩:=gG l;cases of_decide_eq_true h1;exact xM (o.gl h2) (o.blt _ (by decide+kernel)) (gR (ic _ o h3) l6 (cu h3 _ _)) (cu h3 _ _)
theorem xE{a b:CE}(ia:IHE CX G a)(ib:IHE CX G b):IHI CX G (.range2 a b):=by
  intro e tg E sc N all X o h;obtain⟨f,np,es,p,rfl,k⟩:=gF h;obtain⟨a',b',rfl,l⟩:=qo k;obtain⟨h1,h2,h3,h4⟩:=kM l;cases of_decide_eq_true h1;exact xK (o.gl h2) (o.blt _ (by decide+kernel)) (gR (ia _ o h3) (gR (ib _ o h4) l6 (cu h4 _ _)) (cu h3 _ _)) (by rw[cu h3,cu h4];rfl) (cu h4 _ _)
mutual
theorem bg(hCX:HX CX):∀c:CE,IHE CX G c
 |.var i=>zy
 |.con c=>zD
 |.glo x=>zC
 |.ty t=>sE_ty
 |.bin op a b=>sE_bin (bg hCX a) (bg hCX b)
 |.un op a=>sE_un (bg hCX a)
 |.cmp op a b=>sE_cmp (bg hCX a) (bg hCX b)
 |.chain o1 o2 a b c=>zE (bg hCX a) (bg hCX b) (bg hCX c)
 |.not a=>sE_not (bg hCX a)
 |.and a b=>sE_and (bg hCX a) (bg hCX b)
 |.or a b=>sE_or (bg hCX a) (bg hCX b)
 |.ite c a b=>sE_ite (fJ hCX c) (bg hCX a) (bg hCX b)
 |.idx a i=>zB (bg hCX a) (bg hCX i)
 |.cut a lo hi=>sE_cut (bg hCX a) (zq hCX lo) (zq hCX hi)
 |.tup es=>sE_tup (js hCX es)
 |.lst es=>sE_lst (js hCX es)
 |.dic ps=>sE_dic (zp hCX ps)
 |.call f es=>wu (js hCX es)
 |.bfn b es=>zF (js hCX es)
 |.meth0 m b=>zA (bg hCX b)
 |.meth1 m b a=>zz (bg hCX b) (bg hCX a)
 |.rev a=>sE_rev (bg hCX a)
 |.lzip a b=>sE_lzip (bg hCX a) (bg hCX b)
 |.sset a=>sE_sset (bg hCX a)
 |.x2 k a b=>sE_x2 (bg hCX a) (bg hCX b)
 |.comp own fr tg it cond elt=>sE_comp hCX (vg hCX it) (nZ hCX tg) (zr hCX cond) (bg hCX elt)
theorem fJ(hCX:HX CX)(c:CE):IHT CX G c:=by
 cases c with
 |cmp op a b=>exact sT_cmp (bg hCX a) (bg hCX b)
 |chain p q a b c=>exact zv (bg hCX a) (bg hCX b) (bg hCX c)
 |not a=>exact sT_not (fJ hCX a)
 |and a b=>exact sT_and (zu (fJ hCX a) (fJ hCX b) (qT hCX b))
 |or a b=>exact sT_or (sW_or (fJ hCX a) (fJ hCX b) (qT hCX b))
 |var i=>exact sT_var
 |con c=>exact sT_con
 |glo x=>exact sT_glo
 |idx a i=>exact sT_idx (bg hCX a) (bg hCX i)
 |call f es=>exact sT_call (js hCX es)
 |bfn b es=>exact sT_bfn (js hCX es)
 |x2 k a b=>exact sT_x2 (bg hCX a) (bg hCX b)
 |_=>exact fun _ _ _ _ _ _ _ _ _ _ _ _ _ _ z=>z.elim
theorem qT(hCX:HX CX)(c:CE):IHW CX G c:=by
 cases c with
 |and a b=>exact zu (fJ hCX a) (fJ hCX b) (qT hCX b)
 |or a b=>exact sW_or (fJ hCX a) (fJ hCX b) (qT hCX b)
 |_=>
  intro e E sc N all X o h hb;obtain⟨op,es,p,rfl⟩:=isBo_of hb;exact cT h
theorem js(hCX:HX CX):∀c:CL,IHL CX G c
 |.nil=>sL_nil
 |.cons c r=>sL_cons (bg hCX c) (js hCX r)
theorem zp(hCX:HX CX):∀c:CP,IHP CX G c
 |.nil=>sP_nil
 |.cons k v r=>sP_cons (zp hCX r) (bg hCX k) (bg hCX v)
theorem zq(hCX:HX CX):∀c:CO,IHO CX G c
 |.no=>sO_no
 |.yes c=>sO_yes (bg hCX c)
theorem zr(hCX:HX CX):∀c:CO,IHC CX G c
 |.no=>sC_no
 |.yes c=>sC_yes (fJ hCX c)
theorem nZ(hCX:HX CX):∀c:CG,IHG CX G c
 |.name i=>sG_name
 |.tup gs=>sG_tup (wt hCX gs)
theorem wt(hCX:HX CX):∀c:CGs,A7 CX G c
 |.nil=>sGs_nil
 |.cons c r=>zx (nZ hCX c) (wt hCX r)
theorem vg(hCX:HX CX):∀c:CI,IHI CX G c
 |.seq c=>sI_seq (bg hCX c)
 |.lseq c=>sI_lseq (bg hCX c)
 |.range1 c=>xF (bg hCX c)
 |.range2 a b=>xE (bg hCX a) (bg hCX b)
end
end
section
variable {CX:CXT}{G:Gam}
theorem vA{sc:Scope}{N:List Str}{all:Bool}{g:CG}{tg e:Expr}(h:ur sc N all g tg=true)(hn:(oG tg&&oG e)=false)(env:Env):swappedStores [tg] e env=pure none:=by
 cases tg with
 |Tuple es k p=>
  cases e<;>first
   |rfl
   | (exact absurd hn (by simp[oG]))
 |List es p=>cases g<;>exact cT h
 |_=>rfl
theorem sX{a:Expr}{b:List Comprehension}{c:Scope}{d p:Pos}{x:Str}{l:Nat}{env:Env}(h:env.kindOf x≠some .local):kO (.ListComp a b c d) (some (.Name x p)) l env=pure false:=by
 show(pure (env.blockKind== .function&&env.kindOf x==some .local&&p.line==d.line&& !(c.names.any fun(n,k)=>n==x&&(k== .local||k== .cell))):Sem Bool)=pure false;have e:(env.kindOf x==some df.local)=false:=by simpa using h
 rw[e,iG,iF,iF]
theorem vd{a:Expr}{b:List Comprehension}{c:Scope}{d p:Pos}{x:Str}{l:Nat}{env:Env}(hk:env.scope.kind=.function)(h:env.kindOf x=some .local)(hl:p.line=d.line)
  (hn:(c.names.any fun y=>decide (y.1=x)&&(decide (y.2=.local)||decide (y.2=.cell)))=false):kO (.ListComp a b c d) (some (.Name x p)) l env=pure true:=by
 show(pure (env.blockKind== .function&&env.kindOf x==some .local&&p.line==d.line&& !(c.names.any fun(n,k)=>n==x&&(k== .local||k== .cell))):Sem Bool)=pure true;have e1:env.blockKind=.function:=by unfold Env.blockKind;rw[hk];rfl
 have e2:(c.names.any fun(n,k)=>n==x&&(k==df.local||k==cf))=false:=by
  rw[<-hn];congr 1
 rw[e1,h,hl,e2];simp
theorem vV{c:CE}(h:isCe c=true):∃own fr tg it cond elt,c=.comp own fr tg it cond elt:=by
 cases c with
 |comp own fr tg it cond elt=>exact⟨_,_,_,_,_,_,rfl⟩
 |_=>exact cT h
structure OkL(G:Gam)(sc:Scope)(N:List Str)(X:Cx):Prop where
 names:X.N=N
 nd:N.Nodup
 loc:∀x,sc.names.lookup x=some .local->X.env.scope.names.lookup x=some .local
 cel:∀x,sc.names.lookup x=some .cell->X.env.scope.names.lookup x=some .cell
 fre:∀x,sc.names.lookup x=some .free->X.env.scope.names.lookup x=some .cell\/X.env.scope.names.lookup x=some .free
 glo:∀x,sc.names.lookup x=some .globalImplicit->X.env.scope.names.lookup x=some .globalImplicit
 all:∀x,X.fn x=true
 val:∀x v,G.val x=some v->∃u,X.mg x=some u/\RelV v u
 blt:∀x∈fR,X.mg x=none
mutual
theorem soundS(hCX:HX CX):∀(c:CS)(st:Stmt){E:XS}{sc:Scope}{N:List Str}{X:Cx},Ok CX G E sc N true X->(∀pins σ H s,Inv X pins σ H s->X.env.scope.kind=.function)->chkS sc N c st=true->PS X st (wpS G X.K E c)
 |.asg g e,st,E,sc,N,X,o,hk,h=>by
  obtain⟨g',e',p,rfl,k⟩:=vS h;obtain⟨h1,h2,h3,h4⟩:=kM k;exact ps_asg (bg hCX e _ o h2) (nZ hCX g _ o h1) (rA (l9 h3) _ _ _) (vA h1 (l9 h4) _) (by rw[ot h1];rfl)
 |.asgc i e,st,E,sc,N,X,o,hk,h=>by
  obtain⟨h0,h⟩:=an h;obtain⟨g',e',sp,rfl,k⟩:=vS h;obtain⟨x,p,rfl,l⟩:=iX k;obtain⟨a,b,c,d,rfl,m⟩:=vP l;obtain⟨h1,h2,h3,h4⟩:=kM m;rw[beq_iff_eq]at h1;rw[dm,beq_iff_eq,beq_iff_eq]at h2;rw[dm,beq_iff_eq]at h4;obtain⟨own,fr,tg,it,cond,elt,rfl⟩:=vV h0;by_cases hl:X.env.scope.names.lookup x=some .local
  ·rcases h4 with q|q
   ·rw[o.cel x q]at hl;cases hl
   obtain⟨q1,q2⟩:=an q;obtain⟨elt',gs,sc',p',e1,r1⟩:=vP h3;cases e1;obtain⟨⟨tg',it',ifs',y⟩,rfl,r2⟩:=gT r1;obtain⟨g0,g1,g2,r3⟩:=kM r2;obtain⟨g3,g4,g5,g6⟩:=kM r3;cases of_decide_eq_true g0;have S:=og g1;intro pins s σ H D I hw;exact vn (S.comp o) (S.mkOk o) o.calm (vg hCX it _ _ o g3)
    (fun C s₀ H₀ fp _=>⟨nZ hCX tg _ (o.comp hCX S C s₀ H₀ fp) g4,zr hCX cond _ (o.comp hCX S C s₀ H₀ fp) g5,bg hCX elt _ (o.comp hCX S C s₀ H₀ fp) g6⟩)
    (by rw[o.names];exact o.nd) (by rw[o.names];exact h1) hl (vd (hk pins σ H s I) hl (of_decide_eq_true q1) (l9 q2)) (rq (l9 g2) _) pins s σ H D I hw
  ·have hc:sc.names.lookup x=some .cell:=by
    rcases h2 with q|q
    ·exact absurd (o.loc x q) hl
    ·exact q
   exact ps_set (by rw[o.names];exact o.nd) (by rw[o.names];exact h1) (.inr (o.cel x hc)) (bg hCX _ _ o h3) (sX (by rw[show X.env.kindOf x=_ from o.cel x hc];decide)) (.inl (o.all rfl x))
 |.expr e,st,E,sc,N,X,o,hk,h=>by
  obtain⟨e',p,rfl,k⟩:=dEx_of h;obtain⟨h1,h2⟩:=an k;exact ps_expr (bg hCX e _ o h1) (rA (l9 h2) _ _ _)
 |.iff c a b,st,E,sc,N,X,o,hk,h=>by
  obtain⟨c',a',b',p,rfl,k⟩:=dIs_of h;obtain⟨h1,h2,h3⟩:=gG k;exact ps_if (fJ hCX c _ o h1) (lY hCX a _ o hk h2) (lY hCX b _ o hk h3)
 |.whl c b,st,E,sc,N,X,o,hk,h=>by
  obtain⟨c',b',p,rfl,k⟩:=dWh_of h;obtain⟨h1,h2⟩:=an k;exact zU o.px (fJ hCX c _ o h1) (lY hCX b _ o hk h2)
 |.forr g it b,st,E,sc,N,X,o,hk,h=>by
  obtain⟨g',i',b',p,rfl,k⟩:=dFo_of h;obtain⟨h1,h2,h3,h4⟩:=kM k;exact ps_for o.px o.calm (vg hCX it _ _ o h2) (nZ hCX g _ o h1) (lY hCX b _ o hk h4) (rq (l9 h3) _)
 |.ret e,st,E,sc,N,X,o,hk,h=>by
  obtain⟨r,p,rfl,k⟩:=AU h;obtain⟨e',rfl,m⟩:=wJ k;exact ps_ret (bg hCX e _ o m)
 |.retN,st,E,sc,N,X,o,hk,h=>by
  obtain⟨r,p,rfl,k⟩:=AU h;obtain rfl:=dE.mp k;exact ps_retN
 |.rais x es,st,E,sc,N,X,o,hk,h=>by
  obtain⟨x',np,es',cp,p,rfl,k⟩:=dRa_of h;obtain⟨h1,h2,h3,m⟩:=kM k;obtain⟨h4,h5⟩:=an m;cases of_decide_eq_true h1;intro pins s σ H D I hw;obtain⟨C,hv,hkp,hq,hw⟩:=hw;obtain⟨u,hu,ru⟩:=o.val _ _ hv;obtain rfl:u=bo C:=ru;have hL:=js hCX es _ o h5;obtain⟨_,_,rfl,hs⟩:=zk h5 h4;exact zV (o.gl h2) hu hkp hq hL o.calm (ju h3).1 (hs _ cp).1 (hs _ _).2 o.made pins s σ H D I hw
 |.putk b i e,st,E,sc,N,X,o,hk,h=>by
  obtain⟨g',e',p,rfl,k⟩:=vS h;obtain⟨o',i',p',rfl,l⟩:=mq k;obtain⟨h1,h2,h3,h4⟩:=kM l;exact ps_dput (by have :=o.hu;omega) (bg hCX b _ o h1) (bg hCX i _ o h2) (bg hCX e _ o h3) (rA (l9 h4) _ _ _)
 |.pass,st,E,sc,N,X,o,hk,h=>by
  cases st<;>first
   |exact ps_pass
   |exact cT h
 |.brk,st,E,sc,N,X,o,hk,h=>by
  cases st<;>first
   |exact zW
   |exact cT h
 |.cont,st,E,sc,N,X,o,hk,h=>by
  cases st<;>first
   |exact tH
   |exact cT h
theorem lY(hCX:HX CX):∀(c:CB)(st:List Stmt){E:XS}{sc:Scope}{N:List Str}{X:Cx},Ok CX G E sc N true X->(∀pins σ H s,Inv X pins σ H s->X.env.scope.kind=.function)->nu sc N c st=true->PSs X st (wpB G X.K E c)
 |.hole,_,_,_,_,_,_,_,_=>fun _ _ _ _ _ _ z=>z.elim
 |.nil,st,E,sc,N,X,o,hk,h=>by
  obtain rfl:=nil_of h;exact pss_nil
 |.cons s r,st,E,sc,N,X,o,hk,h=>by
  obtain⟨s',r',rfl,k⟩:=sR h;obtain⟨h1,h2⟩:=an k;exact zT (soundS hCX s _ o hk h1) (lY hCX r _ o hk h2)
end
end
structure GOk(P:Program)(w:World)(K:aa)(mg:Str->Option Value)(base:Heap)(CX:CXT)(k:Nat)(G:Gam):Prop where
 val:∀x v,G.val x=some v->∃u,mg x=some u/\RelV v u
 fn:∀x n sp dvs,G.fn x n=some (sp,dvs)->∃f fd ps ds j,j<=k/\gM P w K mg base CX j f fd ps sp/\mg x=some (.ref f)/\bZ K (.ref f)=true/\Binds K fd ps ds/\bJ dvs ds
 ini:∀x n C sp dvs,G.ini x n=some (C,sp,dvs)->∃f fd ps ds j,j+1<=k/\MkX K C f/\gM P w K mg base CX j f fd ps sp/\mg x=some (.ref C)/\Binds K fd ps ds/\bJ dvs ds
 dic:∀a kvs,G.dic a=some kvs->DkIn P w K a kvs
 mak:∀x n C sp dvs,G.mak x n=some (C,sp,dvs)->∃f fd ps ds j,j+1<=k/\Mk K C f/\gM P w K mg base CX j f fd ps sp/\mg x=some (.ref C)/\Binds K fd ps ds/\bJ dvs ds
 mth:∀m n C sp dvs,G.mth m n=some (C,sp,dvs)->∃f fd ps ds j,j<=k/\Cls K C/\Meth K C m f/\gM P w K mg base CX j f fd ps sp/\Binds K fd ps ds/\bJ dvs ds
 blt:∀x∈fR,mg x=none
noncomputable def mH(N ps:List Str)(sc:Scope):Bool:=
 decide (sc.kind=.function)&&decide (sc.isCoroutine=false)&&decide (sc.isGenerator=false)&&decide N.Nodup&&decide (N.take ps.length=ps)&&
 ps.all (fun x=>sc.names.lookup x==some .local||sc.names.lookup x==some .cell)&&sc.names.all (fun y=>decide (y.2≠.free))
theorem Aj{N ps:List Str}{sc:Scope}(h:mH N ps sc=true):se N ps sc:=by
 unfold mH at h;simp only[aK,dY,decide_eq_true_eq,beq_iff_eq,dm]at h;obtain⟨⟨⟨⟨⟨⟨h1,h2⟩,h3⟩,h4⟩,h5⟩,h6⟩,h7⟩:=h;exact⟨h1,h2,h3,h4,h5,h6,h7⟩
section
variable {P:Program}{w:World}{K:aa}{mg:Str->Option Value}{base:Heap}
theorem oO{x qual:Str}{st:Stmt}{f:Addr}{oc dV kV doc pm cdv ct:Value}{od an:Option Addr}{osl:Array (Option Value)}{N ps:List Str}{k:Nat}{G:Gam}{sp:Sp}{code:CB}(lk:K.lookup f=some ⟨oc,od,.func (aL x qual (bX st) (bI st) (aU st) dV kV doc pm an cdv ct),osl⟩)(hcd:dO K cdv qual=true)(hd:mH N ps (aU st)=true)(hc:nu (aU st) N code (bI st)=true)
  (g:GOk P w K mg base (CXx P w) k G)(len:∀vs H Q E,sp vs H Q E->vs.length=ps.length)
  (h:∀vs H Q E,sp vs H Q E->wpB G K (fun _=>E) code {nx:=fun _ H'=>Q .non H',rt:=Q} (start N vs) H):gM P w K mg base (CXx P w) (k+1) f (aL x qual (bX st) (bI st) (aU st) dV kV doc pm an cdv ct) ps sp:=by
 have S:=Aj hd;refine fn_of lk hcd S len fun A outer s H vs Q E hr hsp=>?_;have o:Ok (CXx P w) G (fun _=>E) (aU st) N true (rO (CXx P w) P w K mg base N qual (aU st) f cdv A outer s H E):=
  {names:=rfl,top:=fun _=>⟨rfl,rfl,rfl⟩,nd:=S.nd,loc:=fun _ z=>z,cel:=fun _ z=>z,fre:=fun y z=>absurd rfl (S.nofree _ (ba z)),glo:=fun _ z=>z,all:=fun _ _=>rfl,own:=fun _ _=>rfl,calm:=rfl,
   hu:=by have :=hr.units;show _+50<cLine;exact nE (Nat.add_le_add_left (by decide) _) this
   val:=g.val
   fn:=fun y n sp' dvs e=>by
    obtain⟨f',fd',ps',ds',j,hj,F',hm,hk,hb,hv⟩:=g.fn y n sp' dvs e;exact⟨f',fd',ps',ds',j,F',hr.mono hj,hm,hk,hb,hv⟩
   ini:=fun y n C sp' dvs e=>by
    obtain⟨f',fd',ps',ds',j,hj,M,F',hm,hb,hv⟩:=g.ini y n C sp' dvs e;exact⟨f',fd',ps',ds',j,M,F',hr.mono hj,hm,hb,hv⟩
   dic:=g.dic
   mak:=fun y n C sp' dvs e=>by
    obtain⟨f',fd',ps',ds',j,hj,M,F',hm,hb,hv⟩:=g.mak y n C sp' dvs e;exact⟨f',fd',ps',ds',j,M,F',hr.mono hj,hm,hb,hv⟩
   mth:=fun y n C sp' dvs e=>by
    obtain⟨f',fd',ps',ds',j,hj,c,M,F',hb,hv⟩:=g.mth y n C sp' dvs e;exact⟨f',fd',ps',ds',j,c,M,F',hr.mono hj,hb,hv⟩
   blt:=g.blt,px:=PassesOwn.leaving,pass:=yq,made:=yr,madeX:=vY,cx:=rfl}
 exact⟨_,lY (fun _ _ _ _ _ z=>cxx0 z) code _ o (fun _ _ _ _ _=>S.kind) hc,h vs H Q E hsp⟩
theorem wW{x qual:Str}{st:Stmt}{f:Addr}{fd:ft}{N ps:List Str}{k:Nat}{G:Gam}{sp:Sp}{code:CB}(F:Fun K x qual st f fd)(hd:mH N ps (aU st)=true)(hc:nu (aU st) N code (bI st)=true)
  (g:GOk P w K mg base (CXx P w) k G)(len:∀vs H Q E,sp vs H Q E->vs.length=ps.length)
  (h:∀vs H Q E,sp vs H Q E->wpB G K (fun _=>E) code {nx:=fun _ H'=>Q .non H',rt:=Q} (start N vs) H):gM P w K mg base (CXx P w) (k+1) f fd ps sp:=by
 obtain⟨oc,od,kV,doc,pm,an,cdv,ct,osl,rfl,lk,hcd⟩:=F.ex;exact oO lk hcd hd hc g len h
end
end R
namespace R
open PySem PySem.Spec PyProof.Rows L2
noncomputable def gam(vals:List (Str×V))(fns:List ((Str×Nat)×(Sp×List V)))(inis:List ((Str×Nat)×(Addr×Sp×List V)):=[]) (dics:List (Addr×List (Key×V)):=[]) (maks mths:List ((Str×Nat)×(Addr×Sp×List V)):=[]):Gam:=⟨fun x=>vals.lookup x,fun x n=>fns.lookup (x,n),fun x n=>inis.lookup (x,n),fun a=>dics.lookup a,fun x n=>maks.lookup (x,n),fun m n=>mths.lookup (m,n)⟩
theorem tZ{β:Type}{a:Addr}{b:β}:∀{l:List (Addr×β)},l.lookup a=some b->(a,b)∈l
 | [],h=>nomatch h
 | (k,v)::l,h=>by
  rw[aY]at h;cases q:(a==k)with
  |true=>
   rw[q]at h;cases h;rw[beq_iff_eq.mp q];exact au
  |false=>
   rw[q]at h;exact aI _ (tZ h)
section
variable {P:Program}{w:World}{K:aa}{mg:Str->Option Value}{base:Heap}{CX:CXT}
theorem GOk.start{vals:List (Str×V)}(hv:∀x v,(x,v)∈vals->∃u,mg x=some u/\RelV v u)(hb:∀x∈fR,mg x=none){dics:List (Addr×List (Key×V))}(hd:∀a kvs,(a,kvs)∈dics->DkIn P w K a kvs:=by intro a kvs h;exact nomatch h):GOk P w K mg base CX 0 (gam vals [] [] dics):=
 ⟨fun x v e=>hv x v (ba e),fun x n sp dvs e=>(nomatch e),fun x n C sp dvs e=>(nomatch e),fun a kvs e=>hd a kvs (tZ (show gx a dics=some kvs from e)),fun x n C sp dvs e=>(nomatch e),fun x n C sp dvs e=>(nomatch e),hb⟩
theorem GOk.add{k n:Nat}{vals:List (Str×V)}{fns:List ((Str×Nat)×(Sp×List V))}{x:Str}{f:Addr}{fd:ft}{ps:List Str}{sp:Sp}{ds:List Value}{dvs:List V}{inis maks mths:List ((Str×Nat)×(Addr×Sp×List V))}{dics:List (Addr×List (Key×V))}(g:GOk P w K mg base CX k (gam vals fns inis dics maks mths))
  (F:gM P w K mg base CX (k+1) f fd ps sp)(hm:mg x=some (.ref f))(hk:bZ K (.ref f)=true)(hb:Binds K fd ps ds)(hd:bJ dvs ds):GOk P w K mg base CX (k+1) (gam vals (((x,n),(sp,dvs))::fns) inis dics maks mths):=by
 refine⟨g.val,fun y m sp' dvs' e=>?_,fun y m C sp' dvs' e=>?_,g.dic,fun y m C sp' dvs' e=>?_,fun y m C sp' dvs' e=>?_,g.blt⟩
 rotate_left
 rotate_left
 ·obtain⟨f',fd',ps',ds',j,hj,r⟩:=g.mak y m C sp' dvs' e
  exact⟨f',fd',ps',ds',j,eK hj,r⟩
 ·obtain⟨f',fd',ps',ds',j,hj,r⟩:=g.mth y m C sp' dvs' e
  exact⟨f',fd',ps',ds',j,eK hj,r⟩
 rotate_left
 ·obtain⟨f',fd',ps',ds',j,hj,r⟩:=g.ini y m C sp' dvs' e
  exact⟨f',fd',ps',ds',j,eK hj,r⟩
 have e':gx (y,m) (((x,n),(sp,dvs))::fns)=some (sp',dvs'):=e;rw[aY]at e';cases q:((y,m)==(x,n))with
 |true=>
  rw[q]at e';have e2:(y,m)=(x,n):=eq_of_beq q;cases e2;cases e';exact⟨f,fd,ps,ds,k+1,aw _,F,hm,hk,hb,hd⟩
 |false=>
  rw[q]at e';obtain⟨f',fd',ps',ds',j,hj,r⟩:=g.fn y m sp' dvs' e';exact⟨f',fd',ps',ds',j,eK hj,r⟩
end
section
variable {K:aa}{H:Hp}{Q:VK}{i j:Int}
theorem add_ii:j4 K .Add (.int i) (.int j) H Q↔Q (.int (i+j)) H:=by
 simp[j4,rI0,rCat]
theorem zi:j4 K .Sub (.int i) (.int j) H Q↔Q (.int (i-j)) H:=by simp[j4,rI0]
theorem mul_ii:j4 K .Mult (.int i) (.int j) H Q↔v9 i j/\Q (.int (i*j)) H:=by simp[j4,rI,rRep,rRepS]
theorem vD:j4 K .Mod (.int i) (.int j) H Q↔0<j/\Q (.int (i%j)) H:=by simp[j4,rI]
theorem div_ii:j4 K .FloorDiv (.int i) (.int j) H Q↔CDiv i j/\Q (.int (i/j)) H:=by simp[j4,rI]
theorem pow_ii:j4 K .Pow (.int i) (.int j) H Q↔A8 i j/\Q (.int (i^j.toNat)) H:=by simp[j4,rI]
theorem add_ss{x y:Str}:j4 K .Add (.str x) (.str y) H Q↔x.length+y.length<=sizeLine/\Q (.str (x++y)) H:=by simp[j4,rI0,rCat]
theorem lt_ii:gi K .Lt (.int i) (.int j) H Q↔Q (.bl (decide (i<j))) H:=by simp[gi,rI0]
theorem le_ii:gi K .LtE (.int i) (.int j) H Q↔Q (.bl (decide (i<=j))) H:=by simp[gi,rI0]
theorem wU:gi K .Gt (.int i) (.int j) H Q↔Q (.bl (decide (j<i))) H:=by simp[gi,rI0]
theorem wz{d:D}:Rep K H d (.int i)↔d=.int i:=by
 cases d<;>simp[Rep,eq_comm]
theorem qu:gi K .Eq (.int i) (.int j) H Q↔Q (.bl (decide (i=j))) H:=by
 simp only[gi,rEqD,wz];constructor
 ·rintro⟨_,_,rfl,rfl,_,q⟩;exact q
 ·intro q;exact⟨_,_,rfl,rfl,aX _,q⟩
theorem ne_ii:gi K .NotEq (.int i) (.int j) H Q↔Q (.bl (!decide (i=j))) H:=by
 simp only[gi,rNeD,wz];constructor
 ·rintro⟨_,_,rfl,rfl,_,q⟩;exact q
 ·intro q;exact⟨_,_,rfl,rfl,aX _,q⟩
theorem isnot_n{x:V}:gi K .IsNot x .non H Q↔Q (.bl (!decide (x=.non))) H:=by simp[gi]
theorem len_s{z:Str}:rBf K .len [.str z] H Q↔z.length<=sizeLine/\Q (.int z.length) H:=by simp[rBf]
theorem idx_s{z:Str}:rIx K (.str z) (.int i) H Q↔∃c,z.length<=sizeLine/\atI z.cps.toList i=some c/\Q (.str ⟨#[c]⟩) H:=by
 simp[rIx,rIxL,rIxT,rIxS]
theorem cut_s{z:Str}{lo hi:Option Int}:rSlc K (.str z) lo hi H Q↔z.length<=sizeLine/\Q (.str (vT z lo hi)) H:=by
 simp[rSlc,rSlL,rSlS]
end
structure yw(J:It)(n:Nat)(it:Nat->V->Hp->Prop)(Hc:Hp->Prop):Prop where
 go:∀i H,Hc H->i<n->J.go i H
 stop:∀i H,Hc H->n<=i->J.stop i H
 yld:∀i H x H',Hc H->i<n->J.yld i H x H'->it i x H'/\bP H H'
section
variable {K:aa}
theorem gy{a:Addr}{xs:List V}:yw (Itl K a) xs.length (fun i x _=>xs[i]? =some x) (fun H=>SqL K H a xs) where
 go:=fun i H h hi=>⟨xs,xs[i],h,by simp[hi]⟩
 stop:=fun i H h hi=>⟨xs,h,hi⟩
 yld:=fun i H x H' h hi y=>by
  obtain⟨e,y⟩:=y;subst e;exact⟨y xs h,bP.refl _⟩
theorem l0{lo:Int}{n:Nat}:yw (Itr lo n) n (fun i x _=>x=.int (lo+i)) (fun _=>True) where
 go:=fun i H _ hi=>hi
 stop:=fun i H _ hi=>hi
 yld:=fun i H x H' _ hi y=>by
  obtain⟨e,y⟩:=y;subst e;exact⟨y,bP.refl _⟩
theorem seq_str{z:Str}:yw (Its z) z.length (fun i x _=>∃c,z.cps[i]? =some c/\x=.str ⟨#[c]⟩) (fun _=>True) where
 go:=fun i H _ hi=>hi
 stop:=fun i H _ hi=>hi
 yld:=fun i H x H' _ hi y=>by
  obtain⟨e,y⟩:=y;subst e;exact⟨y,bP.refl _⟩
theorem bb{H:Hp}{p:Addr}{o:HO}(h:H p=none):bP H (upd H p o):=fun b u e=>by rw[bC (bR e h)];exact e
noncomputable def ForB(J:It)(g:TG)(tb:TS)(D:Ends)(σ:L2.St)(H:Hp):Prop:=∃W:Nat->Nat->L2.St->Hp->Prop,(∃m,W 0 m σ H)/\∀i m σ H,W i m σ H->
 (J.stop i H/\D.nx σ H)\/(J.go i H/\∃N:L2.St->Hp->Prop,(∀σ' H',N σ' H'->∃m',m'<m/\W (i+1) m' σ' H')/\∀x H',J.yld i H x H'->g x σ H' fun σ2 H2=>tb {D with nx:=N,ct:=N,bk:=D.nx} σ2 H2)
noncomputable def CompB(J:It)(g:TG)(tc:TT)(te:TE)(τ0:L2.St)(H1:Hp)(Q:VK):Prop:=∃W:Nat->Nat->L2.St->List V->Hp->Prop,(∃m,W 0 m τ0 [] H1)/\
 ∀i m τ acc H2,W i m τ acc H2->(J.stop i H2/\∀l,H2 l=none->Q (.ref l) (upd H2 l (.lst acc)))\/(J.go i H2/\∃N:L2.St->List V->Hp->Prop,(∀τ' acc' H',N τ' acc' H'->∃m',m'<m/\W (i+1) m' τ' acc' H')/\
  ∀x H3,J.yld i H2 x H3->g x τ H3 fun τ4 H4=>tc τ4 H4 fun b H5=>if b=true then te τ4 H5 fun v H6=>acc.length<sizeLine/\N τ4 (acc++[v]) H6 else N τ4 acc H5)
theorem for_seq{J:It}{n:Nat}{it:Nat->V->Hp->Prop}{Hc:Hp->Prop}{g:TG}{tb:TS}{D:Ends}{σ:L2.St}{H:Hp}(S:yw J n it Hc)(Pv:Nat->L2.St->Hp->Prop)(h0:Pv 0 σ H)(hl:∀i σ H,i<=n->Pv i σ H->Hc H)
  (hs:∀i x σ H H',i<n->Pv i σ H->it i x H'->bP H H'->g x σ H' fun σ2 H2=>tb {D with nx:=Pv (i+1),ct:=Pv (i+1),bk:=D.nx} σ2 H2) (hd:∀σ H,Pv n σ H->D.nx σ H):
  ForB J g tb D σ H:=by
 refine⟨fun i m σ H=>m=n-i/\i<=n/\Pv i σ H,⟨n,by simp,aX _,h0⟩,?_⟩;rintro i m σ H ⟨rfl,hi,p⟩;have q:=hl i σ H hi p;by_cases hlt:i<n
 ·refine .inr ⟨S.go i H q hlt,Pv (i+1),fun σ' H' p'=>⟨n-(i+1),by omega,rfl,hlt,p'⟩,fun x H' y=>?_⟩
  obtain⟨y1,y2⟩:=S.yld i H x H' q hlt y;exact hs i x σ H H' hlt p y1 y2
 ·have e:i=n:=by omega
  subst e;exact .inl ⟨S.stop i H q (aw _),hd σ H p⟩
theorem iN{J:It}{n:Nat}{it:Nat->V->Hp->Prop}{Hc:Hp->Prop}{g:TG}{te:TE}{Q:VK}{τ0:L2.St}{H1:Hp}(S:yw J n it Hc)(hn:n<=sizeLine)(hc:∀H,bP H1 H->Hc H)
  (F:Nat->V->Hp->Prop)(Fm:∀i v H H',bP H H'->F i v H->F i v H')(T:L2.St->Prop)(hT:T τ0)
  (step:∀i x τ H3 (R:L2.St->V->Hp->Prop),i<n->T τ->bP H1 H3->it i x H3->(∀τ' v H6,T τ'->bP H3 H6->F i v H6->R τ' v H6)->g x τ H3 fun τ4 H4=>te τ4 H4 (R τ4))
  (fin:∀vs H2 l,vs.length=n->(∀(i:Nat) v,vs[i]? =some v->F i v H2)->bP H1 H2->H2 l=none->Q (.ref l) (upd H2 l (.lst vs))):
  CompB J g yZ te τ0 H1 Q:=by
 refine⟨fun i m τ acc H2=>m=n-i/\i<=n/\T τ/\acc.length=i/\bP H1 H2/\∀(k:Nat) v,acc[k]? =some v->F k v H2,⟨n,by simp,aX _,hT,rfl,bP.refl _,fun k v e=>by simp at e⟩,?_⟩;rintro i m τ acc H2 ⟨rfl,hi,ht,hl,sm,hF⟩;have q:=hc H2 sm;by_cases hlt:i<n
 ·refine .inr ⟨S.go i H2 q hlt,fun τ' acc' H'=>T τ'/\acc'.length=i+1/\bP H1 H'/\∀(k:Nat) v,acc'[k]? =some v->F k v H',fun τ' acc' H' ⟨a,b,c,d⟩=>⟨n-(i+1),by omega,rfl,hlt,a,b,c,d⟩,fun x H3 y=>?_⟩
  obtain⟨y1,y2⟩:=S.yld i H2 x H3 q hlt y;refine step i x τ H3 (fun τ' v H6=>acc.length<sizeLine/\T τ'/\(acc++[v]).length=i+1/\bP H1 H6/\∀(k:Nat) v',(acc++[v])[k]? =some v'->F k v' H6) hlt ht (sm.trans y2) y1 fun τ' v H6 ht' s6 f6=>⟨by omega,ht',by simp[hl],(sm.trans y2).trans s6,fun k v' e=>?_⟩;by_cases hk:k<acc.length
  ·rw[iR hk]at e
   exact Fm k v' H2 H6 (y2.trans s6) (hF k v' e)
  ·rw[dA (by omega)]at e
   have hk0:k-acc.length=0:=by
    have :=(aR.mp e).1
    simp at this;omega
   rw[hk0]at e;have hk':k=i:=by omega
   simp at e;subst e;rw[hk'];exact f6
 ·have e:i=n:=by omega
  subst e;exact .inl ⟨S.stop i H2 q (aw _),fun l hl'=>fin acc H2 l hl hF sm hl'⟩
theorem jR{wi:TI}{g:TG}{tc:TT}{te:TE}{mk:L2.St->L2.St}{σ:L2.St}{H:Hp}{Q:VK}(h:wi σ H fun J H1=>CompB J g tc te (mk σ) H1 Q):nX wi g tc te mk σ H Q:=h
theorem oN{wi:TI}{g:TG}{tb:TS}{D:Ends}{σ:L2.St}{H:Hp}(h:wi σ H fun J H1=>ForB J g tb D σ H1):tFor wi g tb D σ H:=h
theorem uE{i:Nat}{z:Str}{σ:L2.St}{H:Hp}{R:It->Hp->Prop}(hv:σ[i]? =some (some (.str z)))(h:R (Its z) H):ye K (nW i) σ H R:=⟨_,hv,.inr (.inr ⟨z,rfl,h⟩)⟩
theorem fz{i:Nat}{a:Addr}{xs:List V}{σ:L2.St}{H:Hp}{R:It->Hp->Prop}(hv:σ[i]? =some (some (.ref a)))(hq:SqL K H a xs)(h:R (Itl K a) H):ye K (nW i) σ H R:=⟨_,hv,.inl ⟨a,rfl,⟨xs,hq⟩,h⟩⟩
theorem bool_list{vs:List V}{n:Nat}{b:Nat->Bool}(hl:vs.length=n)(h:∀(i:Nat) v,vs[i]? =some v->v=.bl (b i)):vs=((aA n).map b).map V.bl:=by
 apply cX
 ·simp[hl]
 ·intro i h1 h2
  have :=h i vs[i] (by simp[h1])
  simp[this]
theorem A1{α:Type}(l:List α)(d:α)(f:α->Bool):((aA l.length).map fun i=>f (l.getD i d)).all id=l.all f:=by
 rw[xo,ki];simp only[dY,cC,Function.comp,id];constructor
 ·intro h c hc
  obtain⟨i,hi,rfl⟩:=aJ.mp hc;have :=h i hi;rw[av,ag hi]at this;exact this
 ·intro h i hi
  have :=h _ (bL hi)
  rw[av,ag hi];exact this
end
noncomputable def HasFn(K:aa)(x:Str)(st:Stmt):Prop:=∃(f:Addr)(oc:Value)(od an:Option Addr)(osl:Array (Option Value))(kV doc pm cdv ct:Value),eQ K bK x=some (some (.ref f))/\
 K.lookup f=some ⟨oc,od,.func (aL x x (bX st) (bI st) (aU st) .none kV doc pm an cdv ct),osl⟩/\dO K cdv x=true/\bZ K (.ref f)=true
theorem dt{K:aa}{x:Str}{st:Stmt}{f:Addr}{oc:Value}{od an:Option Addr}{osl:Array (Option Value)}{kV doc pm cdv ct:Value}(a:eQ K bK x=some (some (.ref f)))
  (l:K.lookup f=some ⟨oc,od,.func (aL x x (bX st) (bI st) (aU st) .none kV doc pm an cdv ct),osl⟩)(c:dO K cdv x=true)(k:bZ K (.ref f)=true):HasFn K x st:=
 ⟨f,oc,od,an,osl,kV,doc,pm,cdv,ct,a,l,c,k⟩
structure Def(K:aa)(mg:Str->Option Value)(x:Str)(st:Stmt):Prop where
 ex:∃f fd,Fun K x x st f fd/\mg x=some (.ref f)
theorem HasFn.def{K:aa}{h:Heap}{mg:Str->Option Value}{x:Str}{st:Stmt}(X:K.In h)(Gm:h.Ns bK mg)(H:HasFn K x st):Def K mg x st:=by
 obtain⟨f,oc,od,an,osl,kV,doc,pm,cdv,ct,a,l,c,k⟩:=H;exact⟨f,_,AL l c k,eZ X Gm a⟩
section
variable {P:Program}{w:World}{K:aa}{mg:Str->Option Value}{base:Heap}
theorem fA{k:Nat}{vals:List (Str×V)}{fns:List ((Str×Nat)×(Sp×List V))}{x:Str}{st:Stmt}{N ps:List Str}{sp:Sp}{code:CB}{inis maks mths:List ((Str×Nat)×(Addr×Sp×List V))}{dics:List (Addr×List (Key×V))}(g:GOk P w K mg base (CXx P w) k (gam vals fns inis dics maks mths))(d:Def K mg x st)
  (hc:(mH N ps (aU st)&&nu (aU st) N code (bI st))=true)
  (hb:∀(kV doc pm:Value)(an:Option Addr)(cdv ct:Value)(us:List Value),us.length=ps.length->bindArgs (aL x x (bX st) (bI st) (aU st) .none kV doc pm an cdv ct) ⟨us,[]⟩=pure (ps.zip us))
  (len:∀vs H Q E,sp vs H Q E->vs.length=ps.length)
  (h:∀vs H Q E,sp vs H Q E->wpB (gam vals fns inis dics maks mths) K (fun _=>E) code {nx:=fun _ H'=>Q .non H',rt:=Q} (L2.start N vs) H):GOk P w K mg base (CXx P w) (k+1) (gam vals (((x,ps.length),(sp,[]))::fns) inis dics maks mths):=by
 rw[aK]at hc;obtain⟨f,fd,F,hm⟩:=d.ex;exact g.add (n:=ps.length) (wW F hc.1 hc.2 g len h) hm F.kp (F.binds hb) .nil
end
end R
set_option hygiene false in
local macro_rules | `(tactic| walk_at "wp") => `(tactic| simp only [_root_.R.wpB, _root_.R.wpS, _root_.R.wpE, _root_.R.wpT, _root_.R.wpL, _root_.R.wpO, _root_.R.wpC, _root_.R.wpG, _root_.R.wpGs, _root_.R.wpI, _root_.L2.tSeq, _root_.L2.tRet, _root_.L2.y9, _root_.L2.sV, _root_.L2.xu, _root_.L2.zd, _root_.L2.tIfS, _root_.L2.zh, _root_.L2.tOrV, _root_.L2.zb, _root_.L2.tNot, _root_.L2.tAnd, _root_.L2.tOr, _root_.L2.mE, _root_.R.vb, _root_.L2.tIf, _root_.L2.tCB, _root_.L2.kj, _root_.L2.qP, _root_.L2.nW, _root_.L2.tC, _root_.L2.tOp, _root_.L2.tUn, _root_.L2.nY, _root_.L2.tTup, _root_.L2.tLst, _root_.L2.sW, _root_.L2.tBM, _root_.L2.tBM0, _root_.L2.tSl, _root_.L2.za, _root_.L2.qO, _root_.R.cv, _root_.L2.lp, _root_.L2.zG, _root_.L2.zf, _root_.L2.tDIn, _root_.L2.nF, _root_.L2.vc, _root_.R.X2.t, _root_.R.X2.tt, _root_.L2.lW, _root_.L2.gTup, _root_.L2.ui, _root_.L2.gNil, _root_.R.CGs.len, _root_.L2.AI, _root_.L2.AH, _root_.L2.AJ, _root_.L2.iEnum, _root_.List.getElem?_cons_zero, _root_.List.getElem?_cons_succ, _root_.Option.some.injEq, _root_.exists_eq_left', _root_.exists_eq_left, _root_.L2.V.bl.injEq, _root_.L2.V.int.injEq, _root_.L2.V.str.injEq, _root_.List.set_cons_zero, _root_.List.set_cons_succ, _root_.R.CL.len, _root_.R.Ty.t, _root_.R.add_ii, _root_.R.zi, _root_.R.mul_ii, _root_.R.vD, _root_.R.div_ii, _root_.R.pow_ii, _root_.R.add_ss, _root_.R.lt_ii, _root_.R.le_ii, _root_.R.wU, _root_.R.qu, _root_.R.ne_ii, _root_.R.isnot_n, _root_.R.len_s, _root_.R.idx_s, _root_.R.cut_s, _root_.List.append_nil, _root_.R.iT, _root_.List.map_cons, _root_.List.map_nil, _root_.List.nil_append, _root_.List.cons_append])
namespace Cp
open PySem R
noncomputable def xS:List Str:=["thing"]
noncomputable def qj:List Str:=["thing"]
noncomputable def qB:CB:=
  (.cons (.iff (.not (.bfn .isinstance (.cons (.var 0) (.cons (.ty .str) .nil))))
  (.cons (.ret (.con (.bool false)))
  .nil)
  .nil)
  (.cons (.iff (.not (.chain .LtE .LtE (.con (.int 1)) (.bfn .len (.cons (.var 0) .nil)) (.glo "LONGEST_NAME")))
  (.cons (.ret (.con (.bool false)))
  .nil)
  .nil)
  (.cons (.ret (.bfn .all (.cons (.comp ["sign"] [] (.name 0) (.seq (.var 0)) .no (.cmp .In (.var 0) (.glo "LETTERS"))) .nil)))
  .nil)))
end Cp
set_option maxHeartbeats 1000000
namespace Cp
open PySem PySem.Spec PyProof.Rows L2 R
noncomputable def jy:Option HO->String
 |some (.lst _)=>"list"
 |some (.frz _ (.lst _))=>"list"
 |some (.tup _)=>"tuple"
 |some (.dK _)=>"dict"
 |some (.dT _)=>"dict"
 |_=>"?"
noncomputable def tyName(H:Hp):V->String
 |.non=>"NoneType"
 |.bl _=>"bool"
 |.int _=>"int"
 |.str _=>"str"
 |.ref a=>jy (H a)
 |_=>"?"
noncomputable def Known(H:Hp)(x:V):Prop:=tyName H x≠"?"
theorem Known.ty{K:aa}{H:Hp}{x:V}(h:Known H x):ji K H x (.type (tyName H x)):=by
 cases x with
 |non=>exact .non
 |bl b=>exact .bl b
 |int i=>exact .int i
 |str s=>exact .str s
 |ref a=>
  have h':jy (H a)≠"?":=h;show ji K H (.ref a) (.type (jy (H a)));cases e:H a with
  |none=>rw[e]at h';exact absurd rfl h'
  |some o=>
   rw[e]at h';cases o with
   |lst xs=>exact .lst e
   |tup xs=>exact .tup e
   |dK kvs=>exact .dK e
   |dT kvs=>exact .dT e
   |frz ob u=>
    cases u with
    |lst xs=>exact .frz e
    |_=>exact absurd rfl h'
   |_=>exact absurd rfl h'
 |_=>exact absurd rfl h
theorem Known.mem{H:Hp}{x:V}(h:Known H x):tyName H x∈["NoneType","bool","int","str","list","tuple","dict"]:=by
 cases x with
 |ref a=>
  have h':jy (H a)≠"?":=h;show jy (H a)∈_;cases e:H a with
  |none=>rw[e]at h';exact absurd rfl h'
  |some o=>
   rw[e]at h';cases o with
   |lst xs=>simp[jy]
   |tup xs=>simp[jy]
   |dK kvs=>simp[jy]
   |dT kvs=>simp[jy]
   |frz ob u=>
    cases u with
    |lst xs=>simp[jy]
    |_=>exact absurd rfl h'
   |_=>exact absurd rfl h'
 |_=>first
  |exact absurd rfl h
  |simp[tyName]
noncomputable def wo(a b:String):Bool:=a==b||(a=="bool"&&b=="int")
theorem kit_ty(K:aa):∀(a:String)(t:Ty),a∈["NoneType","bool","int","str","list","tuple","dict"]->fG K (.type a) (.type t.t)=some (wo a t.t):=by
 intro a t h;simp only[aD,bE,or_false]at h;rcases h with rfl|rfl|rfl|rfl|rfl|rfl|rfl<;>cases t<;>rfl
theorem isi{K:aa}{H:Hp}{x:V}{Q:VK}(h:Known H x)(t:Ty)(q:Q (.bl (wo (tyName H x) t.t)) H):rBf K .isinstance [x,.ty t.t] H Q:=
 .inl ⟨x,t.t,_,_,rfl,h.ty,kit_ty K _ t h.mem,q⟩
theorem rH{H:Hp}{x:Str}:Known H (.str x):=by show "str"≠"?";decide
theorem kn_tup{H:Hp}{a:Addr}{xs:List V}(h:H a=some (.tup xs)):Known H (.ref a):=by show jy (H a)≠"?";rw[h];show "tuple"≠"?";decide
theorem AB{H:Hp}{a:Addr}{xs:List V}(h:H a=some (.lst xs)):Known H (.ref a):=by show jy (H a)≠"?";rw[h];show "list"≠"?";decide
theorem eS{H H1:Hp}{l:Addr}{o:HO}(s:bP H H1)(h:H l=none):bP H (upd H1 l o):=fun b u e=>by rw[bC (bR e h)];exact s b u e
noncomputable def fw(c:Nat):Bool:=decide (97<=c/\c<=122)
noncomputable def gB(z:Str):Bool:=decide (1<=z.length/\z.length<=8)&&z.cps.toList.all fw
noncomputable def isName:V->Bool
 |.str z=>gB z
 |_=>false
noncomputable def LETTERS:Str:="abcdefghijklmnopqrstuvwxyz"
theorem t5(c:Nat):decide (c∈LETTERS.cps.toList)=fw c:=by
 unfold fw;rw[show LETTERS.cps.toList=List.range' 97 26 by decide+kernel,decide_eq_decide,List.mem_range'_1];exact⟨fun h=>⟨h.1,Nat.le_of_lt_succ h.2⟩,fun h=>⟨h.1,Nat.lt_succ_of_le h.2⟩⟩
theorem vI{K:aa}{H:Hp}{c:Nat}{Q:VK}(q:Q (.bl (fw c)) H):gi K .In (.str ⟨#[c]⟩) (.str LETTERS) H Q:=by
 refine .inl ⟨_,_,rfl,rfl,?_⟩;rw[StrLaws.found_one,t5];exact q
theorem line20:(20000:Nat)<=sizeLine:=by decide
noncomputable def spN:Sp:=fun vs H Q _=>∃x,vs=[x]/\Known H x/\(∀z,x=.str z->z.length<=20000)/\∀H',bP H H'->Q (.bl (isName x)) H'
theorem sub_str{H:Hp}{x:V}(h:Known H x):wo (tyName H x) "str"=(match x with |.str _=>true|_=>false):=by
 cases x with
 |ref a=>
  show wo (jy (H a)) "str"=false;unfold jy;split <;>rfl
 |_=>rfl
theorem u6{G:Gam}{K:aa}(v1:G.val "LETTERS"=some (.str LETTERS))(v2:G.val "LONGEST_NAME"=some (.int 8)):
  Sat G K spN qB qj:=by
 rintro vs H Q E ⟨x,rfl,hk,hz,q⟩;unfold qB;change wpB G K _ _ _ [some x] H;walk_at "wp";refine isi hk .str ⟨_,rfl,?_⟩;rw[show Ty.t .str="str" from rfl,sub_str hk];cases x with
 |str z=>
  have hz:=hz z rfl;have hl:z.length<=sizeLine:=aQ hz line20;have all:∀R:VK,(∀H',bP H H'->R (.bl (z.cps.toList.all fw)) H')->nX (ye K (nW 0)) (lp 0) yZ (tOp (gi K .In) (nW 0) fun σ H Q=>∃v,G.val "LETTERS"=some v/\Q v H) (iT ["sign"] []) [some (.str z)] H fun x H2=>rBf K .all [x] H2 R:=by
   intro R hR;refine jR (uE rfl (iN seq_str hl (fun _ _=>trivial) (fun i v _=>v=.bl (fw (z.cps.toList.getD i 0))) (fun _ _ _ _ _ h=>h) (fun τ=>∃t,τ=[t]) ⟨none,rfl⟩ ?_ ?_))
   ·rintro i x τ H3 R hi ⟨t,rfl⟩ s3 ⟨c,hc,rfl⟩ k
    refine⟨_,rfl,_,v1,vI (k _ _ _ ⟨_,rfl⟩ (bP.refl _) ?_)⟩;have :z.cps.toList[i]? =some c:=by simpa using hc
    rw[av,this];rfl
   ·intro vs H2 l hvl hF s2 hl2
    have e:=bool_list hvl hF;subst e;refine⟨l,_,rfl,SqL.of aM,?_⟩;have e2:((aA z.length).map fun i=>fw (z.cps.toList.getD i 0)).all id=z.cps.toList.all fw:=by
     have :=A1 z.cps.toList 0 fw
     rw[show z.cps.toList.length=z.length by simp[Str.length]]at this;exact this
    rw[e2];exact hR _ (s2.trans (bb hl2))
  simp only[Bool.not_true,bh,if_false,v2,fm,exists_eq_left',exists_eq_left,V.bl.injEq,V.int.injEq,le_ii,len_s,hl,true_and];have q':∀H',bP H H'->Q (.bl (gB z)) H':=q;unfold gB at q';by_cases h1:1<=z.length
  ·by_cases h2:z.length<=8
   ·have e1:decide ((1:Int)<=z.length)=true:=decide_eq_true (by omega)
    have e2:decide ((z.length:Int)<=8)=true:=decide_eq_true (by omega);rw[decide_eq_true (And.intro h1 h2),Bool.true_and]at q';simp only[e1,e2,if_true,Bool.not_true,bh,if_false];exact all Q q'
   ·have e1:decide ((1:Int)<=z.length)=true:=decide_eq_true (by omega)
    have e2:decide ((z.length:Int)<=8)=false:=decide_eq_false (by omega);rw[decide_eq_false (fun h=>h2 h.2),iF]at q';simp only[e1,e2,if_true,Bool.not_false];exact q' H (bP.refl H)
  ·have e1:decide ((1:Int)<=z.length)=false:=decide_eq_false (by omega)
   rw[decide_eq_false (fun h=>h1 h.1),iF]at q';simp only[e1,bh,if_false,Bool.not_false,if_true];exact q' H (bP.refl H)
 |_=>exact q H (bP.refl H)
end Cp
namespace Lt
open PySem R
noncomputable def pI:List Str:=["_law_script","_law_k"]
noncomputable def kn:List Str:=["_law_script","_law_k"]
noncomputable def kz:CB:=
  (.cons (.iff (.cmp .Lt (.var 1) (.bfn .len (.cons (.var 0) .nil)))
  (.cons (.ret (.idx (.var 0) (.var 1)))
  .nil)
  .nil)
  (.cons (.ret (.con (.int 0)))
  .nil))
end Lt
namespace Lt
open PySem PySem.Spec PyProof.Rows L2 R Cp
theorem cmulR{i j:Int}(h0:0<=j)(h1:j<18446744073709551616):v9 i j:=.inr ⟨by omega,by omega⟩
theorem cmulL{i j:Int}(h0:0<=i)(h1:i<18446744073709551616):v9 i j:=.inl ⟨by omega,by omega⟩
noncomputable def vf(K:aa):Sp:=fun vs H Q _=>∃(a:Addr)(ns:List Int)(k:Nat),vs=[.ref a,.int k]/\SqL K H a (ns.map V.int)/\Q (.int (ns.getD k 0)) H
theorem wp_cell{G:Gam}{K:aa}:Sat G K (vf K) kz kn:=by
 rintro vs H Q E ⟨a,ns,k,rfl,hs,q⟩;unfold kz;change wpB G K _ _ _ [some (.ref a),some (.int k)] H;walk_at "wp";refine Or.inl ⟨a,_,rfl,.inl hs,?_⟩;show gi K .Lt (.int (k:Int)) (.int ((ns.map V.int).length:Int)) H _;rw[lt_ii,ai];refine⟨_,rfl,?_⟩;by_cases hk:k<ns.length
 ·rw[decide_eq_true (by omega:(k:Int)<(ns.length:Int)),if_pos rfl]
  refine .inl ⟨a,_,k,_,rfl,rfl,hs,lF (j:=k) (v:=.int (ns.getD k 0)) ?_,q⟩;rw[aW,ag hk,av,ag hk];rfl
 ·rw[decide_eq_false (by omega:¬(k:Int)<(ns.length:Int)),if_neg bF]
  rw[av,kF (by omega)]at q;exact q
noncomputable def rF(x:Int):Nat:=97+(x%26).toNat
theorem lett_ok(x:Int):fw (rF x)=true:=by
 have h0:0<=x%26:=dM _ (by decide);have h1:x%26<26:=iQ _ (by decide);unfold fw rF;exact decide_eq_true (by omega)
theorem t7{x y:Int}(h:rF x=rF y):x%26=y%26:=by
 have h0:0<=x%26:=dM _ (by decide);have h1:0<=y%26:=dM _ (by decide);unfold rF at h;have e:=Nat.add_left_cancel h;rw[<-fq h0,<-fq h1,e]
noncomputable abbrev mkS(l:List Nat):Str:=⟨l.toArray⟩
theorem rB(a b:List Nat):mkS a++mkS b=mkS (a++b):=by
 show(⟨a.toArray++b.toArray⟩:Str)=⟨(a++b).toArray⟩;rw[List.append_toArray]
theorem jv(a:List Nat):(mkS a).length=a.length:=by show a.toArray.size=_;simp
theorem um(l:List Nat)(k:Nat):vT (mkS l) none (some (k:Int))=mkS (l.take k):=by
 unfold vT;rw[HT.qY,HT.oh,jv];show mkS _=_;congr 1;show((l.toArray.toList.drop 0).take (min k l.length-0))=l.take k;rw[sH,yE];show l.take (min k l.length)=l.take k;by_cases h:k<=l.length
 ·rw[fF h]
 ·rw[Nat.min_eq_right (by omega),eV,dw (by omega)]
theorem vE:∀j:Fin 26,LETTERS.cps.toList[j.val]? =some (97+j.val):=by decide+kernel
theorem o8(x:Int):atI LETTERS.cps.toList (x%26)=some (rF x):=by
 have h0:0<=x%26:=dM _ (by decide);have h1:x%26<26:=iQ _ (by decide);obtain⟨j,hj⟩:=xp h0;rw[hj];refine lF ?_;have :=vE ⟨j,by omega⟩;rw[this];unfold rF;rw[hj];rfl
theorem lj:LETTERS.length<=sizeLine:=by decide+kernel
theorem short{n:Nat}(h:n<=40):n<=sizeLine:=aQ h (by decide)
theorem mk1(x:Nat):(⟨#[x]⟩:Str)=mkS [x]:=rfl
end Lt
namespace Q
open PySem PySem.Spec PySem.W PyProof.Rows L2
theorem tS{ks:List Str}(nd:ks.Nodup):(ord ks).Perm (aA ks.length):=by
 unfold ord;split
 ·exact eD _
 ·have P:=(iJ (lV nd) (by omega)).1
  have :=cJ.mp P.perm
  simpa using this
theorem range_getD{α:Type}(d:α)(ys:List α):(aA ys.length).map (fun i=>ys.getD i d)=ys:=by
 apply cX
 ·simp
 ·intro i h1 h2
  simp[h2]
theorem mF{α:Type}(d:α){ks:List Str}{ys:List α}(nd:ks.Nodup)(hl:ks.length=ys.length):(sortBy d ks ys).Perm ys:=by
 unfold sortBy;have h:=(tS nd).map fun i=>ys.getD i d;rw[hl,range_getD]at h;exact h
theorem kl{ks:List Str}(nd:ks.Nodup):(sortBy ("":Str) ks ks).Pairwise fun a b=>tlt a b=true:=by
 unfold sortBy ord;split
 ·rename_i h
  rw[range_getD]
  match ks,h with
  | [],_=>exact .nil
  | [x],_=>simp
  |_::_::_,h=>simp at h;omega
 ·rename_i h
  obtain⟨P,U,_⟩:=iJ (lV nd) (by omega:1<=ks.length);rw[bx];intro i j hi hj hij;have hi':i<ks.length:=by simpa[P.size]using hi
  have hj':j<ks.length:=by simpa[P.size]using hj
  have u:=U i j hij hj';rw[dX,dX];have e:∀(k:Nat)(hk:k<(run (lh ks) (ck ks.length)).toList.length),(run (lh ks) (ck ks.length)).toList[k]=at' (run (lh ks) (ck ks.length)) k:=fun k hk=>by
   have hk':k<(run (lh ks) (ck ks.length)).size:=by simpa using hk
   simp[at',hk']
  rw[e,e];exact u
theorem xr{x y:Str}(a:tlt x y=true)(b:tlt y x=true):False:=by
 have c:=qb a b;unfold tlt at c;exact List.lt_irrefl _ (of_decide_eq_true c)
theorem km:∀{l m:List Str},l.Perm m->l.Pairwise (fun a b=>tlt a b=true)->m.Pairwise (fun a b=>tlt a b=true)->l=m
 | [],m,p,_,_=>by rw[List.nil_perm.mp p]
 |x::l,[],p,_,_=>by simpa using p.length_eq
 |x::l,y::m,p,h1,h2=>by
  rw[iB]at h1 h2;have e:x=y:=by
   by_cases e:x=y
   ·exact e
   ·have hx:x∈m:=by
     have :=p.mem_iff.mp (au (a:=x) (l:=l))
     rcases aD.mp this with z|z
     ·exact absurd z e
     ·exact z
    have hy:y∈l:=by
     have :=p.mem_iff.mpr (au (a:=y) (l:=m))
     rcases aD.mp this with z|z
     ·exact absurd z.symm e
     ·exact z
    exact(xr (h1.1 y hy) (h2.1 x hx)).elim
  subst e;rw[km (List.perm_cons x |>.mp p) h1.2 h2.2]
end Q
namespace Lt
open PySem PySem.Spec PyProof.Rows L2 R Cp
mutual
theorem oQ:∀d:D,eqD d d=true
 |.non=>rfl
 |.bl b=>by cases b<;>rfl
 |.int i=>by show(i==i)=true;simp
 |.str x=>by show(x==x)=true;simp
 |.tup ds=>mj ds
 |.lst ds=>mj ds
theorem mj:∀ds:List D,iW ds ds=true
 | []=>rfl
 |d::ds=>by show(eqD d d&&iW ds ds)=true;rw[oQ d,mj ds];rfl
end
end Lt
namespace Kc
open PySem PySem.Spec PyProof.Rows L2 R Cp Lt
theorem lq{J:It}{n:Nat}{it:Nat->V->Hp->Prop}{Hc:Hp->Prop}{g:TG}{tb:TS}{D:Ends}{σ:L2.St}{H:Hp}(S:yw J n it Hc)(Pv:Nat->L2.St->Hp->Prop)(h0:Pv 0 σ H)(hl:∀i σ H,i<=n->Pv i σ H->Hc H)
  (hs:∀i x σ H H' (D2:Ends),i<n->Pv i σ H->it i x H'->bP H H'->(∀σ2 H2,Pv (i+1) σ2 H2->D2.nx σ2 H2)->D2.rt=D.rt->g x σ H' fun σ2 H2=>tb D2 σ2 H2)(hd:∀σ H,Pv n σ H->D.nx σ H):ForB J g tb D σ H:=
 for_seq S Pv h0 hl (fun i x σ H H' a b c d=>hs i x σ H H' _ a b c d (fun _ _ h=>h) rfl) hd
theorem l7{us:List Value}(h:us.length=1):∃a,us=[a]:=by
 cases us with
 |nil=>exact nomatch h
 |cons a r=>exact⟨a,by rw[bQ.mp (gw h)]⟩
theorem iS{us:List Value}(h:us.length=2):∃a b,us=[a,b]:=by
 cases us with
 |nil=>exact nomatch h
 |cons a r=>
  obtain⟨b,e⟩:=l7 (gw h);exact⟨a,b,by rw[e]⟩
theorem nV{us:List Value}(h:us.length=3):∃a b c,us=[a,b,c]:=by
 cases us with
 |nil=>exact nomatch h
 |cons a r=>
  obtain⟨b,c,e⟩:=iS (gw h);exact⟨a,b,c,by rw[e]⟩
theorem cw{α:Type}{F:α->Prop}{vs:List V}{n:Nat}(h:∃a,F a)(k:∀a,F a->vs.length=n):vs.length=n:=let⟨a,f⟩:=h;k a f
theorem hO{P:Prop}{l vs:List V}{n:Nat}(h:vs=l/\P)(e:l.length=n):vs.length=n:=by rw[h.1];exact e
end Kc
namespace F5
open PySem
noncomputable abbrev Nm:=Str
noncomputable def ends(F:List (Nm×Nm)):List Nm:=F.map (·.1)++F.map (·.2)
noncomputable def adj(F:List (Nm×Nm))(v:Nm):List Nm:=F.flatMap fun e=>(if e.1=v then[e.2]else[])++(if e.2=v then[e.1]else[])
theorem rD{F:List (Nm×Nm)}{v x:Nm}:x∈adj F v↔(v,x)∈F\/(x,v)∈F:=by
 unfold adj;rw[List.mem_flatMap];constructor
 ·rintro⟨⟨a,b⟩,he,hx⟩
  rcases aG.mp hx with hx|hx
  ·by_cases c:a=v
   ·rw[if_pos c,aB]at hx
    rw[hx,<-c];exact .inl he
   ·rw[if_neg c]at hx;cases hx
  ·by_cases c:b=v
   ·rw[if_pos c,aB]at hx
    rw[hx,<-c];exact .inr he
   ·rw[if_neg c]at hx;cases hx
 ·rintro(h|h)
  ·exact⟨_,h,by simp⟩
  ·exact⟨_,h,by simp⟩
structure Tree(F:List (Nm×Nm))(vs:List Nm):Prop where
 nd:vs.Nodup
 sub:∀e∈F,e.1∈vs/\e.2∈vs
 len:vs.length=F.length+1
 conn:∀S:Nm->Prop,(∀e∈F,S e.1↔S e.2)->∀a∈vs,∀b∈vs,S a->S b
theorem Tree.ends{F:List (Nm×Nm)}{vs:List Nm}(t:Tree F vs)(hF:F≠[])(v:Nm):v∈ends F↔v∈vs:=by
 unfold F5.ends;constructor
 ·intro h
  rcases aG.mp h with h|h
  ·obtain⟨e,he,rfl⟩:=bB.mp h
   exact(t.sub e he).1
  ·obtain⟨e,he,rfl⟩:=bB.mp h
   exact(t.sub e he).2
 ·intro hv
  by_cases c:v∈F.map (·.1)++F.map (·.2)
  ·exact c
  ·exfalso
   have h1:∀e∈F,e.1≠v/\e.2≠v:=fun e he=>⟨fun z=>c (aG.mpr (.inl (bB.mpr ⟨e,he,z⟩))),fun z=>c (aG.mpr (.inr (bB.mpr ⟨e,he,z⟩)))⟩;obtain⟨e,r,rfl⟩:=sG hF;obtain⟨h2,h3⟩:=t.sub e au;have :=t.conn (fun x=>x=v) (fun e he=>⟨fun z=>absurd z (h1 e he).1,fun z=>absurd z (h1 e he).2⟩) v hv e.1 h2 rfl;exact(h1 e au).1 this
theorem Tree.perm{F F':List (Nm×Nm)}{vs:List Nm}(t:Tree F vs)(p:F'.Perm F):Tree F' vs:=
 ⟨t.nd,fun e he=>t.sub e (p.mem_iff.mp he),by rw[t.len,p.length_eq],fun S h=>t.conn S fun e he=>h e (p.mem_iff.mpr he)⟩
noncomputable def swap(e:Nm×Nm):Nm×Nm:=(e.2,e.1)
theorem Tree.swap{F:List (Nm×Nm)}{vs:List Nm}(t:Tree F vs):Tree (F.map F5.swap) vs:=
 ⟨t.nd,fun e he=>by obtain⟨e,h,rfl⟩:=bB.mp he;exact⟨(t.sub e h).2,(t.sub e h).1⟩,by rw[t.len,ai],fun S h=>t.conn S fun e he=>(h (F5.swap e) (fh he)).symm⟩
theorem Tree.names{F:List (Nm×Nm)}{vs ws:List Nm}(t:Tree F vs)(nd:ws.Nodup)(h:∀v,v∈ws↔v∈vs):Tree F ws:=by
 have p:ws.Perm vs:=(iA nd t.nd).mpr h;exact⟨nd,fun e he=>⟨(h _).mpr (t.sub e he).1,(h _).mpr (t.sub e he).2⟩,by rw[p.length_eq,t.len],fun S hS a ha b hb=>t.conn S hS a ((h a).mp ha) b ((h b).mp hb)⟩
inductive sd (F:List (Nm×Nm)):List (Nm×Option Nm)->Prop
 |one (s:Nm):sd F [(s,none)]
 |more {A:List (Nm×Option Nm)} {v q:Nm} (g:sd F A) (hq:q∈A.map (·.1)) (hv:v∉A.map (·.1)) (he:v∈adj F q):sd F (A++[(v,some q)])
theorem sd.nd{F:List (Nm×Nm)}{A:List (Nm×Option Nm)}(g:sd F A):(A.map (·.1)).Nodup:=by
 induction g with
 |one s=>simp
 |more g hq hv he ih=>
  rw[bj,dH];refine⟨ih,by simp,fun a ha b hb z=>?_⟩;have :b=_:=aB.mp hb;subst this z;exact hv ha
theorem Tree.all{F:List (Nm×Nm)}{vs:List Nm}{A:List (Nm×Option Nm)}(t:Tree F vs)(nd:(A.map (·.1)).Nodup)(sub:∀v∈A.map (·.1),v∈vs)(cl:∀v∈A.map (·.1),∀x∈adj F v,x∈A.map (·.1)){s:Nm}(hs:s∈A.map (·.1)):(∀v∈vs,v∈A.map (·.1))/\A.length=F.length+1:=by
 have h:∀v∈vs,v∈A.map (·.1):=fun v hv=>t.conn (fun x=>x∈A.map (·.1)) (fun e he=>⟨fun z=>cl _ z _ (rD.mpr (.inl he)),fun z=>cl _ z _ (rD.mpr (.inr he))⟩) s (sub s hs) v hv hs;have p:(A.map (·.1)).Perm vs:=(iA nd t.nd).mpr fun v=>⟨sub v,h v⟩;have :=p.length_eq;rw[ai,t.len]at this;exact⟨h,this⟩
end F5
namespace F5
open PySem R
noncomputable def rj:List Str:=["nodes","pairs"]
noncomputable def lg:List Str:=["nodes","pairs","beside","node","one","other"]
noncomputable def jD:CB:=
  (.cons (.ret (.var 2))
  .nil)
noncomputable def iO:CB:=
  (.cons (.expr (.meth1 .append (.x2 .idxk (.var 2) (.var 5)) (.var 4)))
  .nil)
noncomputable def jE:CB:=
  (.cons (.forr (.tup (.cons (.name 4) (.cons (.name 5) .nil))) (.seq (.var 1))
  (.cons (.expr (.meth1 .append (.x2 .idxk (.var 2) (.var 4)) (.var 5)))
  iO))
  jD)
noncomputable def jF:CB:=
  (.cons (.forr (.name 3) (.seq (.var 0))
  (.cons (.putk (.var 2) (.var 3) (.lst .nil))
  .nil))
  jE)
noncomputable def lr:CB:=
  (.cons (.asg (.name 2) (.dic .nil))
  jF)
noncomputable def xQ:List Str:=["beside"]
noncomputable def qh:List Str:=["beside","start","ahead","waiting","node","near"]
noncomputable def mV:CB:=
  (.cons (.ret (.var 2))
  .nil)
noncomputable def gU:CB:=
  (.cons (.expr (.meth1 .append (.var 3) (.var 5)))
  .nil)
noncomputable def kr:CB:=
  (.cons (.forr (.name 5) (.seq (.x2 .idxk (.var 0) (.var 4)))
  (.cons (.iff (.x2 .nink (.var 5) (.var 2))
  (.cons (.putk (.var 2) (.var 5) (.var 4))
  gU)
  .nil)
  .nil))
  .nil)
noncomputable def mW:CB:=
  (.cons (.whl (.cmp .Gt (.bfn .len (.cons (.var 3) .nil)) (.con (.int 0)))
  (.cons (.asg (.name 4) (.meth0 .pop (.var 3)))
  kr))
  mV)
noncomputable def mX:CB:=
  (.cons (.asg (.name 3) (.lst (.cons (.var 1) .nil)))
  mW)
noncomputable def mY:CB:=
  (.cons (.asg (.name 2) (.dic (.cons (.var 1) (.con .none) .nil)))
  mX)
noncomputable def qz:CB:=
  (.cons (.asg (.name 1) (.idx (.bfn .listk (.cons (.var 0) .nil)) (.con (.int 0))))
  mY)
noncomputable def nj:List Str:=["beside","pairs"]
noncomputable def i8:List Str:=["beside","pairs"]
noncomputable def gV:CB:=
  (.cons (.ret (.and (.cmp .Eq (.bfn .len (.cons (.var 1) .nil)) (.bin .Sub (.bfn .lenk (.cons (.var 0) .nil)) (.con (.int 1)))) (.cmp .Eq (.bfn .lenk (.cons (.call "reached" (.cons (.var 0) .nil)) .nil)) (.bfn .lenk (.cons (.var 0) .nil)))))
  .nil)
noncomputable def i9:CB:=
  (.cons (.iff (.cmp .Eq (.bfn .lenk (.cons (.var 0) .nil)) (.con (.int 0)))
  (.cons (.ret (.con (.bool true)))
  .nil)
  .nil)
  gV)
noncomputable def xR:List Str:=["thing"]
noncomputable def qi:List Str:=["thing"]
noncomputable def m9:CB:=
  (.cons (.ret (.and (.call "is_name" (.cons (.idx (.var 0) (.con (.int 0))) .nil)) (.call "is_name" (.cons (.idx (.var 0) (.con (.int 1))) .nil))))
  .nil)
noncomputable def qA:CB:=
  (.cons (.iff (.or (.not (.bfn .isinstance (.cons (.var 0) (.cons (.ty .tuple) .nil)))) (.cmp .NotEq (.bfn .len (.cons (.var 0) .nil)) (.con (.int 2))))
  (.cons (.ret (.con (.bool false)))
  .nil)
  .nil)
  m9)
noncomputable def vt:List Str:=["frame"]
noncomputable def ox:List Str:=["frame"]
noncomputable def o3:CB:=
  (.cons (.ret (.sset (.bin .Add (.comp ["one","other"] [] (.tup (.cons (.name 0) (.cons (.name 1) .nil))) (.seq (.var 0)) .no (.var 0)) (.comp ["one","other"] [] (.tup (.cons (.name 0) (.cons (.name 1) .nil))) (.seq (.var 0)) .no (.var 1)))))
  .nil)
noncomputable def vx:List Str:=["frame","alone"]
noncomputable def oz:List Str:=["frame","alone"]
noncomputable def lB:CB:=
  (.cons (.ret (.call "leads_one_way" (.cons (.call "neighbours" (.cons (.call "names_of" (.cons (.var 0) .nil)) (.cons (.var 0) .nil))) (.cons (.var 0) .nil))))
  .nil)
noncomputable def lC:CB:=
  (.cons (.iff (.or (.cmp .IsNot (.var 1) (.con .none)) (.not (.bfn .all (.cons (.comp ["branch"] [] (.name 0) (.seq (.var 0)) .no (.call "is_pair" (.cons (.var 0) .nil))) .nil))))
  (.cons (.ret (.con (.bool false)))
  .nil)
  .nil)
  lB)
noncomputable def lD:CB:=
  (.cons (.iff (.cmp .Eq (.bfn .len (.cons (.var 0) .nil)) (.con (.int 0)))
  (.cons (.ret (.call "is_name" (.cons (.var 1) .nil)))
  .nil)
  .nil)
  lC)
noncomputable def o7:CB:=
  (.cons (.iff (.or (.not (.bfn .isinstance (.cons (.var 0) (.cons (.ty .list) .nil)))) (.cmp .Gt (.bfn .len (.cons (.var 0) .nil)) (.glo "MOST_BRANCHES")))
  (.cons (.ret (.con (.bool false)))
  .nil)
  .nil)
  lD)
noncomputable def k9:List Str:=["frame","alone"]
noncomputable def iU:List Str:=["frame","alone"]
noncomputable def jG:CB:=
  (.cons (.ret (.ite (.cmp .Eq (.bfn .len (.cons (.var 0) .nil)) (.con (.int 0))) (.lst (.cons (.var 1) .nil)) (.call "names_of" (.cons (.var 0) .nil))))
  .nil)
noncomputable def lE:CB:=
  (.cons (.iff (.not (.call "is_frame" (.cons (.var 0) (.cons (.var 1) .nil))))
  (.cons (.rais "NoFrame" (.cons (.con (.str "this is no frame")) .nil))
  .nil)
  .nil)
  jG)
end F5
namespace F5
open PySem PySem.Spec PyProof.Rows L2 R Cp Kc
noncomputable def kvS(ls:List (Nm×V)):List (Key×V):=ls.map fun q=>(.inr q.1,q.2)
noncomputable def lk(ls:List (Nm×V))(v:Nm):Option V:=(ls.find? fun q=>decide (q.1=v)).map (·.2)
theorem inr_iff{a b:Nm}:(decide ((gv a:Key)=.inr b))=decide (a=b):=by
 by_cases h:a=b
 ·rw[h,decide_eq_true rfl,decide_eq_true rfl]
 ·rw[decide_eq_false h,decide_eq_false fun z=>h (wb z)]
theorem wg(v:Nm):∀ls:List (Nm×V),iH (kvS ls) (.inr v)=lk ls v
 | []=>rfl
 | (a,x)::ls=>by
  have ih:=wg v ls;unfold iH lk kvS at ih⊢;rw[bw,di,di,inr_iff];cases h:decide (a=v)with
  |true=>rfl
  |false=>exact ih
theorem any_kvS(v:Nm)(ls:List (Nm×V)):((kvS ls).any fun kv=>decide (kv.1=.inr v))=decide (v∈ls.map (·.1)):=by
 unfold kvS;rw[List.any_map,ki,jq,decide_eq_true_eq,bB];constructor
 ·rintro⟨q,hq,e⟩
  exact⟨q,hq,wb (of_decide_eq_true e)⟩
 ·rintro⟨q,hq,rfl⟩
  exact⟨q,hq,decide_eq_true rfl⟩
theorem put_new{ls:List (Nm×V)}{v:Nm}{x:V}(h:v∉ls.map (·.1)):putK (kvS ls) (.inr v) x=kvS (ls++[(v,x)]):=by
 unfold putK;rw[any_kvS,decide_eq_false h,if_neg bF];unfold kvS;rw[bj];rfl
theorem AA{ls:List (Nm×V)}{v:Nm}{x:V}(nd:(ls.map (·.1)).Nodup)(h:(v,x)∈ls):lk ls v=some x:=by
 induction ls with
 |nil=>cases h
 |cons q ls ih=>
  unfold lk;rw[di];rw[bw,dG]at nd;rcases aD.mp h with e|h
  ·rw[<-e]
   simp
  ·have :q.1≠v:=fun z=>nd.1 (by rw[z];exact bB.mpr ⟨_,h,rfl⟩)
   rw[decide_eq_false this];exact ih nd.2 h
theorem lk_none{ls:List (Nm×V)}{v:Nm}(h:v∉ls.map (·.1)):lk ls v=none:=by
 unfold lk;rw[List.find?_eq_none.mpr]
 ·rfl
 ·intro q hq z
  exact h (bB.mpr ⟨q,hq,of_decide_eq_true z⟩)
theorem dget{H:Hp}{d:Addr}{ls:List (Nm×V)}(v:Nm)(h:Rd H d (.dK (kvS ls))):o9 H d (.str v) (lk ls v):=.inl ⟨kvS ls,.inr v,h,rfl,(wg v ls).symm⟩
theorem dput{H:Hp}{d:Addr}{ls:List (Nm×V)}{v:Nm}{x:V}(h:H d=some (.dK (kvS ls)))(hl:ls.length<1000)(hv:v∉ls.map (·.1)):yx H d (.str v) x (upd H d (.dK (kvS (ls++[(v,x)])))):=by
 have :=yx.k (k:=.inr v) (v:=x) h (by unfold kvS;rw[ai];exact aO hl (by decide))
 rw[put_new hv]at this;exact this
noncomputable def SmF(H H':Hp):Prop:=∀b u,H b=some u->H' b=some u\/∃o kvs,u=.dK kvs/\H' b=some (.frz o (.dK kvs))
theorem SmF.of{H H':Hp}(s:bP H H'):SmF H H':=fun b u e=>.inl (s b u e)
theorem SmF.lst{H H':Hp}(s:SmF H H'){a:Addr}{xs:List V}(h:H a=some (.lst xs)):H' a=some (.lst xs):=by
 rcases s a _ h with h|⟨_,_,z,_⟩
 ·exact h
 ·cases z
theorem SmF.tup{H H':Hp}(s:SmF H H'){a:Addr}{xs:List V}(h:H a=some (.tup xs)):H' a=some (.tup xs):=by
 rcases s a _ h with h|⟨_,_,z,_⟩
 ·exact h
 ·cases z
theorem SmF.rd{H H':Hp}(s:SmF H H'){a:Addr}{kvs:List (Key×V)}(h:Rd H a (.dK kvs)):Rd H' a (.dK kvs):=by
 rcases h with h|⟨o,h⟩
 ·rcases s a _ h with h|⟨o,_,z,h⟩
  ·exact .inl h
  ·cases z;exact .inr ⟨o,h⟩
 ·rcases s a _ h with h|⟨_,_,z,_⟩
  ·exact .inr ⟨o,h⟩
  ·cases z
noncomputable def Br(H:Hp)(y:V)(e:Nm×Nm):Prop:=∃p,y=V.ref p/\H p=some (.tup [.str e.1,.str e.2])
structure Frm(H:Hp)(f:Addr)(ys:List V)(F:List (Nm×Nm)):Prop where
 hf:H f=some (.lst ys)
 br:Paired (Br H) ys F
theorem vp{α β:Type}{P:α->β->Prop}:∀{xs:List α}{ys:List β},Paired P xs ys->∀{i:Nat}{x:α},xs[i]? =some x->∃y,ys[i]? =some y/\P x y
 |_,_,.nil,_,_,h=>nomatch h
 |_,_,.cons r _,0,_,h=>by cases h;exact⟨_,rfl,r⟩
 |_,_,.cons _ t,i+1,_,h=>vp t (i:=i) h
theorem Frm.len{H:Hp}{f:Addr}{ys:List V}{F:List (Nm×Nm)}(d:Frm H f ys F):ys.length=F.length:=d.br.length
theorem Frm.at_{H:Hp}{f:Addr}{ys:List V}{F:List (Nm×Nm)}(d:Frm H f ys F){i:Nat}{y:V}(h:ys[i]? =some y):∃a b p,F[i]? =some (a,b)/\y=V.ref p/\H p=some (.tup [.str a,.str b]):=by
 obtain⟨⟨a,b⟩,h1,p,h2,h3⟩:=vp d.br h;exact⟨a,b,p,h1,h2,h3⟩
theorem Frm.grow{H H':Hp}{f:Addr}{ys:List V}{F:List (Nm×Nm)}(d:Frm H f ys F)(s:SmF H H'):Frm H' f ys F:=⟨s.lst d.hf,L2.Paired.xZ d.br fun _ _ ⟨p,e,h⟩=>⟨p,e,s.tup h⟩⟩
theorem Frm.same{H H':Hp}{f:Addr}{ys:List V}{F:List (Nm×Nm)}(d:Frm H f ys F)(s:bP H H'):Frm H' f ys F:=d.grow (.of s)
structure Bes(H:Hp)(d:Addr)(ls:List (Nm×Addr))(c:Nm->List V):Prop where
 hd:Rd H d (.dK (kvS (ls.map fun q=>(q.1,V.ref q.2))))
 nd:(ls.map (·.1)).Nodup
 na:(ls.map (·.2)).Nodup
 at_:∀q∈ls,H q.2=some (.lst (c q.1))
theorem qq(ls:List (Nm×Addr)):(ls.map fun q=>(q.1,V.ref q.2)).map (·.1)=ls.map (·.1):=by rw[ee];rfl
theorem Bes.get{H:Hp}{d:Addr}{ls:List (Nm×Addr)}{c:Nm->List V}(b:Bes H d ls c){v:Nm}(h:v∈ls.map (·.1)):∃a,(v,a)∈ls/\o9 H d (.str v) (some (.ref a))/\H a=some (.lst (c v)):=by
 obtain⟨⟨w,a⟩,hq,rfl⟩:=bB.mp h;refine⟨a,hq,?_,b.at_ _ hq⟩;have :=dget w b.hd;rw[AA (by rw[qq];exact b.nd) (bB.mpr ⟨_,hq,rfl⟩)]at this;exact this
theorem Bes.app{H:Hp}{d:Addr}{ls:List (Nm×Addr)}{c:Nm->List V}(b:Bes H d ls c){v:Nm}{a:Addr}{l:List V}(h:(v,a)∈ls):Bes (upd H a (.lst l)) d ls (fun w=>if w=v then l else c w):=by
 have ha:=b.at_ _ h;refine⟨?_,b.nd,b.na,fun q hq=>?_⟩
 ·rcases b.hd with z|⟨o,z⟩
  ·exact .inl (by rw[bC (mI z ha (fun z=>nomatch z))];exact z)
  ·exact .inr ⟨o,by rw[bC (mI z ha (fun z=>nomatch z))];exact z⟩
 ·by_cases e:q.2=a
  ·have :q=(v,a):=by
    obtain⟨i,hi,ei⟩:=aJ.mp hq;obtain⟨j,hj,ej⟩:=aJ.mp h;have :(ls.map (·.2))[i]'(by rw[ai];exact hi)=(ls.map (·.2))[j]'(by rw[ai];exact hj):=by rw[dX,dX,ei,ej];exact e
    have :=(cW b.na).mp this
    subst this;rw[<-ei,ej]
   rw[this];show upd H a _ a=_;rw[aM,if_pos rfl]
  ·rw[bC e,b.at_ q hq]
   have :q.1≠v:=fun z=>e (by
    obtain⟨i,hi,ei⟩:=aJ.mp hq;obtain⟨j,hj,ej⟩:=aJ.mp h;have :(ls.map (·.1))[i]'(by rw[ai];exact hi)=(ls.map (·.1))[j]'(by rw[ai];exact hj):=by rw[dX,dX,ei,ej];exact z
    have :=(cW b.nd).mp this
    subst this;rw[<-ei,ej])
   rw[if_neg this]
theorem Bes.same{H H':Hp}{d:Addr}{ls:List (Nm×Addr)}{c:Nm->List V}(b:Bes H d ls c)(s:SmF H H'):Bes H' d ls c:=⟨s.rd b.hd,b.nd,b.na,fun q hq=>s.lst (b.at_ q hq)⟩
theorem Bes.congr{H:Hp}{d:Addr}{ls:List (Nm×Addr)}{c c':Nm->List V}(b:Bes H d ls c)(h:∀q∈ls,c q.1=c' q.1):Bes H d ls c':=⟨b.hd,b.nd,b.na,fun q hq=>by rw[b.at_ q hq,h q hq]⟩
noncomputable def ni(F:List (Nm×Nm))(v:Nm):List V:=(adj F v).map V.str
noncomputable def spNb:Sp:=fun vs H Q _=>∃(n f:Addr)(ws:List Nm)(ys:List V)(F:List (Nm×Nm)),vs=[.ref n,.ref f]/\H n=some (.lst (ws.map V.str))/\Frm H f ys F/\ws.Nodup/\(∀e∈F,e.1∈ws/\e.2∈ws)/\ws.length<=200/\F.length<=200/\
 ∀H' d ls,bP H H'->H d=none->H' d=some (.dK (kvS (ls.map fun q=>(q.1,V.ref q.2))))->Bes H' d ls (ni F)->ls.map (·.1)=ws->Q (.ref d) H'
theorem mR{n:Nat}(h:n<=1000):n<=sizeLine:=aQ h (by decide)
theorem line2'{n:Nat}(h:n<=1000):n<sizeLine:=nE h (by decide)
theorem A2(F:List (Nm×Nm))(a b v:Nm):adj (F++[(a,b)]) v=adj F v++((if a=v then[b]else[])++(if b=v then[a]else[])):=by
 unfold adj;rw[List.flatMap_append];simp
theorem adj_len(F:List (Nm×Nm))(v:Nm):(adj F v).length<=2*F.length:=by
 unfold adj
 induction F with
 |nil=>simp
 |cons e F ih=>
  rw[List.flatMap_cons,aj,aS];have :((if e.1=v then[e.2]else[])++(if e.2=v then[e.1]else[])).length<=2:=by
   rw[aj];split <;>split <;>simp
  omega
theorem wp_nb{G:Gam}{K:aa}:Sat G K spNb lr lg:=by
 rintro vs H Q E ⟨n,f,ws,ys,F,rfl,hn,fr,nd,sub,l1,l2,q⟩;unfold lr;change wpB G K _ _ _ [some (.ref n),some (.ref f),none,none,none,none] H;walk_at "wp";refine .inl ⟨trivial,fun d hd=>?_⟩;unfold jF;walk_at "wp";have s0:bP H (upd H d (.dK [])):=bb hd;refine oN (fz rfl (SqL.of (s0 _ _ hn)) (lq gy (fun k σ H'=>bP H H'/\∃u ls,σ=[some (.ref n),some (.ref f),some (.ref d),u,none,none]/\H' d=some (.dK (kvS (ls.map fun q=>(q.1,V.ref q.2))))/\Bes H' d ls (fun _=>[])/\ls.map (·.1)=ws.take k/\∀q∈ls,H q.2=none)
  ⟨s0,none,[],rfl,aM,⟨.inl aM,kS,kS,fun q hq=>nomatch hq⟩,rfl,fun q hq=>nomatch hq⟩ (fun k σ H' _ s=>SqL.of (s.1 _ _ hn)) ?_ ?_))
 ·rintro k y σ H1 H2 D2 hk ⟨s1,u,ls,rfl,h1,b1,e1,f1⟩ hy s2 hD _
  rw[ai]at hk;rw[aW,ag hk]at hy;cases hy;walk_at "wp";refine⟨aX _,fun p hp=>?_⟩;have h1':=s2 _ _ h1;have hnew:ws[k]∉ls.map (·.1):=by
   rw[e1];intro z;obtain⟨j,hj,ej⟩:=aJ.mp z;rw[aF]at hj;rw[bS]at ej;have :=(cW nd).mp ej;omega
  have hll:ls.length=k:=by
   have :=congrArg pU e1
   rw[ai,aF]at this;omega
  have hdp:d≠p:=bR h1' hp;have h3:upd H2 p (.lst []) d=some (.dK (kvS (ls.map fun q=>(q.1,V.ref q.2)))):=by rw[bC hdp];exact h1'
  refine⟨d,_,rfl,dput h3 (by rw[ai];omega) (by rw[qq];exact hnew),?_⟩;have hpf:∀q∈ls,q.2≠p:=fun q hq=>bR (s2 _ _ (b1.at_ q hq)) hp;have hpd:∀q∈ls,q.2≠d:=fun q hq=>mI (s2 _ _ (b1.at_ q hq)) h1' (fun z=>nomatch z);have e4:(ls.map fun q=>(q.1,V.ref q.2))++[(ws[k],V.ref p)]=(ls++[(ws[k],p)]).map fun q=>(q.1,V.ref q.2):=by rw[bj];rfl
  rw[e4];refine hD _ _ ⟨eS (eS (s1.trans s2) ((s1.trans s2).free hp)) hd,_,ls++[(ws[k],p)],rfl,aM,⟨.inl aM,?_,?_,fun q hq=>?_⟩,?_,fun q hq=>?_⟩
  ·rw[bj,dH]
   refine⟨b1.nd,by simp,fun a ha b hb z=>?_⟩;have :b=ws[k]:=aB.mp hb;subst this z;exact hnew ha
  ·rw[bj,dH]
   refine⟨b1.na,by simp,fun a ha b hb z=>?_⟩;have :b=p:=aB.mp hb;subst this z;obtain⟨q,hq,e⟩:=bB.mp ha;exact hpf q hq e
  ·rcases aG.mp hq with hq|hq
   ·rw[bC (hpd q hq),bC (hpf q hq)]
    exact s2 _ _ (b1.at_ q hq)
   ·cases aB.mp hq
    show upd _ _ _ p=_;rw[bC hdp.symm,aM]
  ·rw[bj,e1,fO,ag hk]
   rfl
  ·rcases aG.mp hq with hq|hq
   ·exact f1 q hq
   ·cases aB.mp hq
    exact(s1.trans s2).free hp
 ·rintro σ H1 ⟨s1,u,ls,rfl,h1,b1,e1,f1⟩
  rw[ai,eV]at e1;unfold jE;walk_at "wp";refine oN (fz rfl (SqL.of (s1 _ _ fr.hf)) (lq gy (fun k σ H'=>bP H H'/\H' d=some (.dK (kvS (ls.map fun q=>(q.1,V.ref q.2))))/\Bes H' d ls (ni (F.take k))/\∃u v w,σ=[some (.ref n),some (.ref f),some (.ref d),u,v,w])
   ⟨s1,h1,b1,_,_,_,rfl⟩ (fun k σ H' _ s=>SqL.of (s.1 _ _ fr.hf)) ?_ ?_))
  ·rintro k y σ H2 H3 D2 hk ⟨s2,h2,b2,u',v',w',rfl⟩ hy s3 hD _
   obtain⟨a,b,p,hF,rfl,hp⟩:=fr.at_ hy;obtain⟨ha,hb⟩:=(show a∈ws/\b∈ws from sub _ (dJ hF));rw[<-e1]at ha hb;have s4:=s2.trans s3;have b3:=b2.same (.of s3);have h3:=s3 _ _ h2;refine⟨p,_,rfl,SqT.of (s4 _ _ hp),rfl,_,_,rfl,_,_,rfl,rfl,?_⟩;walk_at "wp";obtain⟨pa,ma,ga,ea⟩:=b3.get ha;have hO:∀v,(ni (F.take k) v).length<sizeLine-5:=fun v=>by
    unfold ni;rw[ai];have :=adj_len (F.take k) v;rw[aF]at this;exact nE (show(adj (F.take k) v).length<=1000 by omega) (by decide)
   refine⟨d,_,rfl,ga,.inl ⟨rfl,_,SqL.of ea⟩,_,_,_,rfl,rfl,ea,by have :=hO a;omega,?_⟩;unfold iO;walk_at "wp";have b4:=b3.app (l:=ni (F.take k) a++[V.str b]) ma;obtain⟨pb,mb,gb,eb⟩:=b4.get hb;refine⟨d,_,rfl,gb,.inl ⟨rfl,_,SqL.of eb⟩,_,_,_,rfl,rfl,eb,?_,?_⟩
   ·have h1:=hO a
    have h2:=hO b;by_cases c:b=a
    ·rw[if_pos c,aj,cS]
     omega
    ·rw[if_neg c]
     omega
   ·have hpa:d≠pa:=mI h3 ea (by intro z;cases z)
    have hd4:upd H3 pa (.lst (ni (F.take k) a++[V.str b])) d=some (.dK (kvS (ls.map fun q=>(q.1,V.ref q.2)))):=by rw[bC hpa];exact h3
    have hpb:d≠pb:=mI hd4 eb (by intro z;cases z);refine hD _ _ ⟨eS (eS s4 (f1 _ ma)) (f1 _ mb),by rw[bC hpb];exact hd4,(b4.app mb).congr fun q _=>?_,_,_,_,rfl⟩;have et:F.take (k+1)=F.take k++[(a,b)]:=by rw[fO,hF];rfl
    unfold ni;rw[et,A2,bj,bj];generalize q.1=w;by_cases c1:w=b
    ·subst c1
     by_cases c2:w=a
     ·subst c2
      simp
     ·simp[c2,dg c2]
    ·by_cases c2:w=a
     ·subst c2
      simp[c1,dg c1]
     ·simp[c1,c2,dg c1,dg c2]
  ·rintro σ H2 ⟨s2,h2,b2,u',v',w',rfl⟩
   unfold jD;walk_at "wp";rw[fr.len,eV]at b2;exact q H2 d ls s2 hd h2 b2 e1
noncomputable def pV:Option Nm->V
 |some q=>.str q
 |none=>.non
noncomputable def aV(A:List (Nm×Option Nm)):List (Nm×V):=A.map fun e=>(e.1,pV e.2)
theorem rJ(A:List (Nm×Option Nm)):(aV A).map (·.1)=A.map (·.1):=by unfold aV;rw[ee];rfl
theorem aV_len(A:List (Nm×Option Nm)):(aV A).length=A.length:=ai ..
structure Found(F:List (Nm×Nm))(vs:List Nm)(A:List (Nm×Option Nm)):Prop where
 g:sd F A
 sub:∀v∈A.map (·.1),v∈vs
 cl:∀v∈A.map (·.1),∀x∈adj F v,x∈A.map (·.1)
noncomputable def spRe:Sp:=fun vs H Q _=>∃(d:Addr)(ls:List (Nm×Addr))(F:List (Nm×Nm)),vs=[.ref d]/\Bes H d ls (ni F)/\ls≠[]/\(∀e∈F,e.1∈ls.map (·.1)/\e.2∈ls.map (·.1))/\ls.length<=200/\F.length<=200/\
 ∀H' a A,bP H H'->H a=none->H' a=some (.dK (kvS (aV A)))->Found F (ls.map (·.1)) A->Q (.ref a) H'
theorem xW{α:Type}[DecidableEq α]{l m:List α}(nd:l.Nodup)(h:∀x∈l,x∈m):l.length<=m.length:=L2.ou nd h
structure DF(F:List (Nm×Nm))(ks:List Nm)(ex:Nm->Prop)(H H':Hp)(a w:Addr)(A:List (Nm×Option Nm))(W:List Nm):Prop where
 sm:bP H H'
 ha:H' a=some (.dK (kvS (aV A)))
 hw:H' w=some (.lst (W.map V.str))
 g:sd F A
 gs:∀v∈A.map (·.1),v∈ks
 ws:∀v∈W,v∈A.map (·.1)
 cl:∀v∈A.map (·.1),v∉W->¬ex v->∀x∈adj F v,x∈A.map (·.1)
theorem DF.le{F:List (Nm×Nm)}{ks:List Nm}{ex:Nm->Prop}{H H':Hp}{a w:Addr}{A:List (Nm×Option Nm)}{W:List Nm}(D:DF F ks ex H H' a w A W):A.length<=ks.length:=by
 have :=xW D.g.nd D.gs
 rw[ai]at this;exact this
theorem DF.same{F:List (Nm×Nm)}{ks:List Nm}{ex:Nm->Prop}{H H1 H2:Hp}{a w:Addr}{A:List (Nm×Option Nm)}{W:List Nm}(D:DF F ks ex H H1 a w A W)(s:bP H1 H2):DF F ks ex H H2 a w A W:={D with sm:=D.sm.trans s,ha:=s _ _ D.ha,hw:=s _ _ D.hw}
theorem wp_re{G:Gam}{K:aa}:Sat G K spRe qz qh:=by
 rintro vs H Q E ⟨d,ls,F,rfl,b,hne,sub,l1,l2,q⟩;unfold qz;change wpB G K _ _ _ [some (.ref d),none,none,none,none,none] H;walk_at "wp";obtain⟨⟨s,sa⟩,r,e0⟩:=sG hne;refine⟨d,_,rfl,b.hd,fun l hl=>.inl ⟨l,_,0,.str s,rfl,rfl,SqL.of aM,lF (j:=0) (by rw[e0];rfl),?_⟩⟩;have s1:bP H (upd H l (.lst ((kvS (ls.map fun q=>(q.1,V.ref q.2))).map fun kv=>kV kv.1))):=bb hl;generalize upd H l (.lst ((kvS (ls.map fun q=>(q.1,V.ref q.2))).map fun kv=>kV kv.1))=H1 at s1;have hs:s∈ls.map (·.1):=by rw[e0];exact au
 have hll:(ls.map (·.1)).length=ls.length:=ai ..;unfold mY;walk_at "wp";refine .inr ⟨(by intro z;cases z),fun a ha=>?_⟩;simp only[wpP,qN,wpE,nW,tC,cv,jo,fH,fm,exists_eq_left'];refine⟨aM,[(.inr s,.non)],rfl,(by show 1<=15;decide),?_⟩;unfold mX;walk_at "wp";refine⟨(by show 1<=sizeLine;decide),fun w hw=>?_⟩;have haH:H a=none:=s1.free ha;have hwa:w≠a:=fun z=>by rw[z,aM]at hw;cases hw
 have hwH:H w=none:=s1.free (by rw[bC hwa,bC hwa]at hw;exact hw);unfold mW;walk_at "wp";refine⟨fun m σ H'=>∃(A:List (Nm×Option Nm))(W:List Nm)(u v:Option V),m=2*(ls.length-A.length)+W.length/\σ=[some (.ref d),some (.str s),some (.ref a),some (.ref w),u,v]/\W.length<=A.length/\DF F (ls.map (·.1)) (fun _=>False) H H' a w A W,
  ⟨_,[(s,none)],[s],none,none,rfl,rfl,aw _,eS (eS (eS s1 haH) haH) hwH,by rw[bC hwa.symm,aM];rfl,aM,.one s,fun v hv=>by rw[aB.mp hv];exact hs,fun v hv=>by rw[aB.mp hv];exact au,fun v hv hn=>absurd hv hn⟩,?_⟩
 rintro m σ H2 ⟨A,W,u,v,rfl,rfl,wl,D⟩;walk_at "wp";refine .inl ⟨w,_,rfl,.inl (SqL.of D.hw),?_⟩;rw[ai];refine wU.mpr ⟨_,rfl,?_⟩;have gl:=D.le;rw[hll]at gl;by_cases hW:W=[]
 ·subst hW
  rw[if_neg (by simp)];unfold mV;walk_at "wp";exact q H2 a A D.sm haH D.ha ⟨D.g,D.gs,fun v hv=>D.cl v hv (fun z=>nomatch z) id⟩
 ·have hl0:0<W.length:=dW.mpr hW
  rw[if_pos (decide_eq_true (by omega))];refine⟨fun σ' H'=>∃m',m'<2*(ls.length-A.length)+W.length/\∃(A':List (Nm×Option Nm))(W':List Nm)(u v:Option V),m'=2*(ls.length-A'.length)+W'.length/\σ'=[some (.ref d),some (.str s),some (.ref a),some (.ref w),u,v]/\W'.length<=A'.length/\DF F (ls.map (·.1)) (fun _=>False) H H' a w A' W',fun _ _ h=>h,?_⟩;obtain⟨W0,n,rfl⟩:∃W0 n,W=W0++[n]:=⟨W.dropLast,W.getLast hW,(List.dropLast_concat_getLast hW).symm⟩;refine⟨.inl ⟨rfl,_,SqL.of D.hw⟩,.inl ⟨w,_,.str n,rfl,rfl,D.hw,?_,?_⟩⟩
  ·rw[ai,aj,aW,dA (by simp)]
   simp
  have e0:((W0++[n]).map V.str).dropLast=W0.map V.str:=by rw[bj];simp
  rw[e0];have nA:n∈A.map (·.1):=D.ws n (by simp);rw[aj,cS]at wl⊢;have D3:DF F (ls.map (·.1)) (fun v=>v=n) H (upd H2 w (.lst (W0.map V.str))) a w A W0:=⟨eS D.sm hwH,by rw[bC hwa.symm];exact D.ha,aM,D.g,D.gs,fun v hv=>D.ws v (aG.mpr (.inl hv)),fun v hv hn hne x hx=>D.cl v hv (fun z=>by
   rcases aG.mp z with z|z
   ·exact hn z
   ·exact hne (aB.mp z)) id x hx⟩
  generalize upd H2 w (.lst (W0.map V.str))=H3 at D3;unfold kr;walk_at "wp";obtain⟨pn,mn,gn,en⟩:=(b.same (.of D3.sm)).get (D.gs n nA);have ln:(ni F n).length=(adj F n).length:=ai ..;refine oN ⟨_,rfl,_,rfl,d,_,rfl,gn,.inl ⟨pn,rfl,⟨_,SqL.of en⟩,?_⟩⟩;refine lq gy (fun k σ H'=>∃(A':List (Nm×Option Nm))(W':List Nm)(v':Option V),σ=[some (.ref d),some (.str s),some (.ref a),some (.ref w),some (.str n),v']/\(A'.length+W0.length=W'.length+A.length/\A.length<=A'.length)/\DF F (ls.map (·.1)) (fun v=>v=n) H H' a w A' W'/\n∈A'.map (·.1)/\∀x∈(adj F n).take k,x∈A'.map (·.1))
   ⟨A,W0,v,rfl,⟨by omega,aw _⟩,D3,nA,fun x hx=>by rw[List.take_zero]at hx;cases hx⟩ (fun k σ H' _ h=>by obtain⟨_,_,_,_,_,D',_⟩:=h;exact SqL.of (D'.sm _ _ (b.at_ _ mn))) ?_ ?_
  ·rintro k y σ H4 H5 D2 hk ⟨A',W',v',rfl,⟨hl1,hl2⟩,D4,nA',tk⟩ hy s5 hD _
   rw[ln]at hk;obtain⟨x,hx⟩:∃x,(adj F n)[k]? =some x:=⟨_,ag hk⟩;rw[show(ni F n)[k]? =some (V.str x) by unfold ni;rw[aW,hx];rfl]at hy;cases hy;have D5:=D4.same s5;have et:(adj F n).take (k+1)=(adj F n).take k++[x]:=by rw[fO,hx];rfl
   have xa:x∈adj F n:=dJ hx;have gl':=D5.le;rw[hll]at gl';walk_at "wp";refine⟨a,_,rfl,dget x (.inl D5.ha),?_⟩;by_cases c:x∈A'.map (·.1)
   ·obtain⟨⟨x',p⟩,hm,e⟩:=bB.mp c
    have e:x'=x:=e;subst e;have hlk:lk (aV A') x'=some (pV p):=AA (by rw[rJ];exact D5.g.nd) (bB.mpr ⟨_,hm,rfl⟩);rw[hlk,if_neg (by simp)];refine hD _ _ ⟨A',W',_,rfl,⟨hl1,hl2⟩,D5,nA',fun z hz=>?_⟩;rw[et]at hz;rcases aG.mp hz with hz|hz
    ·exact tk z hz
    ·rw[aB.mp hz];exact c
   ·rw[lk_none (by rw[rJ];exact c),if_pos (by rfl)]
    refine⟨a,_,rfl,dput D5.ha (by rw[aV_len];omega) (by rw[rJ];exact c),?_⟩;have hwa':w≠a:=hwa;unfold gU;walk_at "wp";have h8:upd H5 a (.dK (kvS (aV A'++[(x,.str n)]))) w=some (.lst (W'.map V.str)):=by rw[bC hwa];exact D5.hw
    refine⟨.inl ⟨rfl,_,SqL.of h8⟩,w,_,_,rfl,rfl,h8,?_,?_⟩
    ·rw[ai]
     exact line2' (by omega)
    have ks:∀v,v∈(A'++[(x,some n)]).map (·.1)↔v∈A'.map (·.1)\/v=x:=fun v=>by rw[bj,aG];simp
    refine hD _ _ ⟨A'++[(x,some n)],W'++[x],_,rfl,⟨by rw[aj,aj,cS,cS];omega,by rw[aj];omega⟩,⟨eS (eS D5.sm haH) hwH,?_,?_,.more D5.g nA' c xa,fun v hv=>?_,fun v hv=>?_,fun v hv hn hne z hz=>?_⟩,(ks _).mpr (.inl nA'),fun z hz=>(ks z).mpr ?_⟩
    ·rw[bC hwa.symm,aM]
     unfold aV;rw[bj];rfl
    ·rw[aM,bj]
     rfl
    ·rcases(ks v).mp hv with h|rfl
     ·exact D5.gs v h
     ·rcases rD.mp xa with h|h
      ·exact(sub _ h).2
      ·exact(sub _ h).1
    ·rcases aG.mp hv with h|h
     ·exact(ks v).mpr (.inl (D5.ws v h))
     ·exact(ks v).mpr (.inr (aB.mp h))
    ·rcases(ks v).mp hv with h|rfl
     ·exact(ks z).mpr (.inl (D5.cl v h (fun q=>hn (aG.mpr (.inl q))) hne z hz))
     ·exact absurd (aG.mpr (.inr (aB.mpr rfl))) hn
    ·rw[et]at hz
     rcases aG.mp hz with hz|hz
     ·exact .inl (tk z hz)
     ·exact .inr (aB.mp hz)
  ·rintro σ H4 ⟨A',W',v',rfl,⟨hl1,hl2⟩,D4,nA',tk⟩
   have gl':=D4.le;rw[hll]at gl';refine⟨_,?_,A',W',_,_,rfl,rfl,by omega,{D4 with cl:=fun v hv hn _ x hx=>?_}⟩
   ·omega
   ·by_cases c:v=n
    ·subst c
     rw[ln,eV]at tk;exact tk x hx
    ·exact D4.cl v hv hn c x hx
theorem sd.ne{F:List (Nm×Nm)}{A:List (Nm×Option Nm)}(g:sd F A):∃s,s∈A.map (·.1):=by
 cases g with
 |one s=>exact⟨s,au⟩
 |more g hq _ _=>exact⟨_,by rw[bj];exact aG.mpr (.inl hq)⟩
noncomputable def spLw:Sp:=fun vs H Q _=>∃(d f:Addr)(ls:List (Nm×Addr))(ys:List V)(F:List (Nm×Nm)),vs=[.ref d,.ref f]/\Bes H d ls (ni F)/\Frm H f ys F/\Tree F (ls.map (·.1))/\F.length<=100/\∀H',bP H H'->Q (.bl true) H'
theorem wp_lw{G:Gam}{K:aa}(g1:G.fn "reached" 1=some (spRe,[])):Sat G K spLw i9 i8:=by
 rintro vs H Q E ⟨d,f,ls,ys,F,rfl,b,fr,t,l1,q⟩;unfold i9;change wpB G K _ _ _ [some (.ref d),some (.ref f)] H;walk_at "wp";have hl:ls.length=F.length+1:=by rw[<-t.len,ai]
 have hk:(kvS (ls.map fun q=>(q.1,V.ref q.2))).length=ls.length:=by unfold kvS;rw[ai,ai]
 refine⟨d,_,rfl,b.hd,?_⟩;rw[hk];refine qu.mpr ⟨_,rfl,?_⟩;rw[if_neg (by rw[decide_eq_false (by omega)];decide)];unfold gV;walk_at "wp";refine .inl ⟨f,_,rfl,.inl (SqL.of fr.hf),d,_,rfl,b.hd,?_⟩;rw[hk];refine zi.mpr (qu.mpr ⟨_,rfl,?_⟩);rw[if_pos (decide_eq_true (by rw[fr.len];omega))];refine⟨_,_,g1,d,ls,F,rfl,b,(fun z=>by rw[z]at hl;cases hl),t.sub,by omega,by omega,fun H1 a A s1 ha h1 fo=>?_⟩;refine⟨a,_,rfl,.inl h1,d,_,rfl,(SmF.of s1).rd b.hd,?_⟩;obtain⟨s,hs⟩:=fo.g.ne;have all:=t.all fo.g.nd fo.sub fo.cl hs;rw[hk,show(kvS (aV A)).length=A.length by unfold kvS aV;rw[ai,ai]];refine qu.mpr ?_;rw[decide_eq_true (by omega)];exact q H1 s1
noncomputable def spPr:Sp:=fun vs H Q _=>∃(p:Addr)(a b:Nm),vs=[.ref p]/\H p=some (.tup [.str a,.str b])/\gB a=true/\gB b=true/\∀H',bP H H'->Q (.bl true) H'
theorem ow{a:Nm}(h:gB a=true):a.length<=8:=by
 unfold gB at h;exact(of_decide_eq_true (aK _ _▸h).1).2
theorem wp_pair{G:Gam}{K:aa}(g1:G.fn "is_name" 1=some (spN,[])):Sat G K spPr qA qi:=by
 rintro vs H Q E ⟨p,a,b,rfl,hp,na,nb,q⟩;unfold qA;change wpB G K _ _ _ [some (.ref p)] H;walk_at "wp";refine isi (kn_tup hp) .tuple ⟨_,rfl,?_⟩;rw[show tyName H (.ref p)="tuple" by show jy (H p)=_;rw[hp];rfl];rw[if_neg (by decide)];refine .inl ⟨p,_,rfl,.inr (SqT.of hp),?_⟩;refine ne_ii.mpr ⟨_,rfl,?_⟩;rw[if_neg (by show ¬(!decide ((2:Int)=2))=true;decide)];unfold m9;walk_at "wp";refine⟨_,_,g1,.inr (.inl ⟨p,_,0,_,rfl,rfl,SqT.of hp,rfl,?_⟩)⟩;refine⟨.str a,rfl,rH,(fun z e=>by cases e;exact aQ (ow na) (by decide)),fun H1 s1=>⟨_,rfl,?_⟩⟩;rw[show isName (.str a)=true from na,if_pos rfl];refine⟨_,_,g1,.inr (.inl ⟨p,_,1,_,rfl,rfl,SqT.of (s1 _ _ hp),rfl,?_⟩)⟩;refine⟨.str b,rfl,rH,(fun z e=>by cases e;exact aQ (ow nb) (by decide)),fun H2 s2=>?_⟩;rw[show isName (.str b)=true from nb];exact q H2 (s1.trans s2)
theorem tm{ks:List Str}(nd:ks.Nodup):i7 ks=(_root_.Q.sortBy ("":Str) ks ks).map V.str:=by
 unfold i7 _root_.Q.sortBy;rw[ee];apply lU;intro i hi;have hi':i<ks.length:=by
  have :=(_root_.Q.tS nd).mem_iff.mp hi
  simpa using this
 show(ks.map V.str).getD i V.non=V.str (ks.getD i "");rw[av,av,aW,ag hi'];rfl
structure iq(ns vs:List Nm):Prop where
 nd:ns.Nodup
 mem:∀v,v∈ns↔v∈vs
 up:ns.Pairwise fun a b=>_root_.Q.tlt a b=true
noncomputable def spNo:Sp:=fun vs H Q _=>∃(f:Addr)(ys:List V)(F:List (Nm×Nm))(ws:List Nm),vs=[.ref f]/\Frm H f ys F/\F.length<=100/\ws.length<200/\(∀v,v∈ends F↔v∈ws)/\
 ∀H' l ns,bP H H'->H l=none->H' l=some (.lst (ns.map V.str))->iq ns ws->Q (.ref l) H'
theorem lX{vs:List V}{l:List Nm}(h:vs.length=l.length)(hv:∀(i:Nat) v,vs[i]? =some v->v=V.str (l.getD i "")):vs=l.map V.str:=by
 apply cX
 ·rw[h,ai]
 ·intro i h1 h2
  rw[hv i _ (ag h1),dX,av,ag (by omega)];rfl
theorem wp_no{G:Gam}{K:aa}:Sat G K spNo o3 ox:=by
 rintro vs H Q E ⟨f,ys,F,ws,rfl,fr,l1,l2,he,q⟩;unfold o3;change wpB G K _ _ _ [some (.ref f)] H;walk_at "wp";have comp:∀(j:Nat)(g:Nm×Nm->Nm)(hj:∀(a b:Nm)(τ:L2.St),∃v,[some (V.str a),some (V.str b)][j]? =some (some v)/\v=V.str (g (a,b)))(H1:Hp)(s1:bP H H1)(R:VK),(∀H2 l,bP H1 H2->H1 l=none->H2 l=some (.lst ((F.map g).map V.str))->R (.ref l) H2)->
   nX (ye K (nW 0)) (gTup K 2 (ui (lp 0) (ui (lp 1) gNil))) yZ (nW j) (iT ["one","other"] []) [some (.ref f)] H1 R:=by
  intro j g hj H1 s1 R hR;refine jR (fz rfl (SqL.of (s1 _ _ fr.hf)) (iN gy (mR (by rw[fr.len];omega)) (fun H4 s6=>SqL.of (s6 _ _ (s1 _ _ fr.hf))) (fun i v _=>v=V.str ((F.map g).getD i "")) (fun _ _ _ _ _ h=>h) (fun τ=>∃t u,τ=[t,u]) ⟨none,none,rfl⟩ ?_ ?_))
  ·rintro i x τ H3 R hi ⟨t,u,rfl⟩ s3 hx k
   obtain⟨a,b,p,hF,rfl,hp⟩:=fr.at_ hx;obtain⟨v,hv,rfl⟩:=hj a b [];refine⟨p,_,rfl,SqT.of ((s1.trans s3) _ _ hp),rfl,_,_,rfl,_,_,rfl,rfl,?_⟩;refine⟨_,hv,k _ _ _ ⟨_,_,rfl⟩ (bP.refl _) ?_⟩;rw[av,aW,hF];rfl
  ·intro vs H2 l hvl hF s2 hl2
   rw[lX (by rw[hvl,ai,fr.len]) hF];exact hR _ l (s2.trans (bb hl2)) (s2.free hl2) aM
 refine comp 0 (·.1) (fun a b τ=>⟨_,rfl,rfl⟩) H (bP.refl H) _ fun H1 p1 s1 n1 h1=>?_;refine comp 1 (·.2) (fun a b τ=>⟨_,rfl,rfl⟩) H1 s1 _ fun H2 p2 s2 n2 h2=>?_;refine .inr (.inr (.inl ⟨p1,p2,_,_,rfl,rfl,s2 _ _ h1,h2,?_,fun p3 n3=>?_⟩))
 ·rw[ai,ai,ai,ai]
  exact mR (by omega)
 rw[<-bj];refine⟨p3,ends F,rfl,SqL.of aM,?_,⟨ws,by omega,fun x hx=>(he x).mp hx⟩,fun ms l nd mem hl=>?_⟩
 ·unfold ends
  rw[aj,ai,ai];omega
 rw[tm nd];have hp:=_root_.Q.mF ("":Str) nd rfl;exact q _ l _ (((s1.trans s2).trans (bb n3)).trans (bb hl)) (((s1.trans s2).trans (bb n3)).free hl) aM ⟨hp.nodup_iff.mpr nd,fun v=>hp.mem_iff.trans ((mem v).trans (he v)),_root_.Q.kl nd⟩
structure uH(m:Nat)(H:Hp)(f:Addr)(al:V)(ys:List V)(F:List (Nm×Nm))(ws:List Nm):Prop where
 fr:Frm H f ys F
 t:Tree F ws
 n63:ws.length<m
 nm:∀v∈ws,gB v=true
 al:(F=[]/\∃a,al=.str a/\ws=[a])\/(F≠[]/\al=.non)
theorem uH.lt{m:Nat}{H:Hp}{f:Addr}{al:V}{ys:List V}{F:List (Nm×Nm)}{ws:List Nm}(g:uH m H f al ys F ws):F.length+1<m:=by
 have :=g.t.len
 have :=g.n63
 omega
noncomputable def spIf:Sp:=fun vs H Q _=>∃(f:Addr)(al:V)(ys:List V)(F:List (Nm×Nm))(ws:List Nm),vs=[.ref f,al]/\uH 82 H f al ys F ws/\∀H',bP H H'->Q (.bl true) H'
theorem wp_if{G:Gam}{K:aa}(v1:G.val "MOST_BRANCHES"=some (.int 80))(g1:G.fn "is_name" 1=some (spN,[]))(g2:G.fn "is_pair" 1=some (spPr,[]))(g3:G.fn "names_of" 1=some (spNo,[]))(g4:G.fn "neighbours" 2=some (spNb,[]))(g5:G.fn "leads_one_way" 2=some (spLw,[])):
  Sat G K spIf o7 oz:=by
 rintro vs H Q E ⟨f,al,ys,F,ws,rfl,g,q⟩;unfold o7;change wpB G K _ _ _ [some (.ref f),some al] H;have hle:=g.lt;have hlen:=g.fr.len;walk_at "wp";refine isi (AB g.fr.hf) .list ⟨_,rfl,?_⟩;rw[show tyName H (.ref f)="list" by show jy (H f)=_;rw[g.fr.hf];rfl,if_neg (by decide)];refine .inl ⟨f,_,rfl,.inl (SqL.of g.fr.hf),?_⟩;refine⟨_,v1,wU.mpr ⟨_,rfl,?_⟩⟩;rw[if_neg (by rw[decide_eq_false (by omega)];decide)];unfold lD;walk_at "wp";refine .inl ⟨f,_,rfl,.inl (SqL.of g.fr.hf),?_⟩;refine qu.mpr ⟨_,rfl,?_⟩;rcases g.al with⟨hF,a,rfl,hw⟩ |⟨hF,rfl⟩
 ·rw[hF]at hlen
  rw[if_pos (decide_eq_true (by rw[hlen];rfl))];have na:=g.nm a (by rw[hw];exact au);refine⟨_,_,g1,.str a,rfl,rH,(fun z e=>by cases e;exact aQ (ow na) (by decide)),fun H1 s1=>?_⟩;rw[show isName (.str a)=true from na];exact q H1 s1
 ·have h0:0<F.length:=dW.mpr hF
  rw[if_neg (by rw[decide_eq_false (by omega)];decide)];unfold lC;walk_at "wp";rw[if_neg (by simp)];refine jR (fz rfl (SqL.of g.fr.hf) (iN gy (mR (by omega)) (fun H4 s6=>SqL.of (s6 _ _ g.fr.hf)) (fun i v _=>v=.bl true) (fun _ _ _ _ _ h=>h) (fun τ=>∃t,τ=[t]) ⟨none,rfl⟩ ?_ ?_))
  ·rintro i x τ H3 R hi ⟨t,rfl⟩ s3 hx k
   obtain⟨a,b,p,hF',rfl,hp⟩:=g.fr.at_ hx;obtain⟨ha,hb⟩:=(show a∈ws/\b∈ws from g.t.sub _ (dJ hF'));walk_at "wp";exact⟨_,_,g2,p,a,b,rfl,s3 _ _ hp,g.nm a ha,g.nm b hb,fun H4 s4=>k _ _ _ ⟨_,rfl⟩ s4 rfl⟩
  ·intro vs H2 l hvl hv s2 hl2
   have e:vs=((aA ys.length).map fun _=>true).map V.bl:=by rw[<-hvl];exact bool_list rfl hv
   subst e;refine⟨l,_,rfl,SqL.of aM,_,rfl,?_⟩;have e2:(((aA ys.length).map fun _=>true).all id)=true:=by rw[xo];simp
   rw[e2,if_neg (by decide)];have s3:=s2.trans (bb (o:=.lst (((aA ys.length).map fun _=>true).map V.bl)) hl2);generalize upd H2 l (.lst (((aA ys.length).map fun _=>true).map V.bl))=H3 at s3;unfold lB;walk_at "wp";refine⟨_,_,g5,_,_,g4,_,_,g3,f,ys,F,ws,rfl,g.fr.same s3,by omega,(by have :=g.n63;omega),fun v=>g.t.ends hF v,fun H4 n ns s4 n4 h4 rs=>?_⟩;have t':=g.t.names rs.nd rs.mem;refine⟨n,f,ns,ys,F,rfl,h4,g.fr.same (s3.trans s4),rs.nd,t'.sub,?_,by omega,fun H5 d ls s5 n5 h5 b e5=>?_⟩
   ·have :=t'.len
    omega
   ·refine⟨d,f,ls,ys,F,rfl,b,g.fr.same ((s3.trans s4).trans s5),?_,by omega,fun H6 s6=>q H6 (((s3.trans s4).trans s5).trans s6)⟩
    rw[e5];exact t'
noncomputable def zo:Sp:=fun vs H Q _=>∃(f:Addr)(al:V)(ys:List V)(F:List (Nm×Nm))(ws:List Nm),vs=[.ref f,al]/\uH 82 H f al ys F ws/\∀H' l ns,bP H H'->H l=none->H' l=some (.lst (ns.map V.str))->iq ns ws->Q (.ref l) H'
theorem wp_fl{G:Gam}{K:aa}(g1:G.fn "is_frame" 2=some (spIf,[]))(g2:G.fn "names_of" 1=some (spNo,[])):Sat G K zo lE iU:=by
 rintro vs H Q E ⟨f,al,ys,F,ws,rfl,g,q⟩;unfold lE;change wpB G K _ _ _ [some (.ref f),some al] H;have hle:=g.lt;have hlen:=g.fr.len;walk_at "wp";refine⟨_,_,g1,f,al,ys,F,ws,rfl,g,fun H1 s1=>⟨_,rfl,?_⟩⟩;rw[if_neg (by decide)];unfold jG;walk_at "wp";refine .inl ⟨f,_,rfl,.inl (SqL.of (s1 _ _ g.fr.hf)),qu.mpr ⟨_,rfl,?_⟩⟩;rcases g.al with⟨hF,a,rfl,hw⟩ |⟨hF,rfl⟩
 ·rw[hF]at hlen
  rw[if_pos (decide_eq_true (by rw[hlen];rfl))];refine⟨(by show 1<=sizeLine;decide),fun l hl=>q _ l [a] (s1.trans (bb hl)) (s1.free hl) aM ?_⟩;rw[hw];exact⟨by simp,fun v=>Iff.rfl,by simp⟩
 ·have h0:0<F.length:=dW.mpr hF
  rw[if_neg (by rw[decide_eq_false (by omega)];decide)];exact⟨_,_,g2,f,ys,F,ws,rfl,g.fr.same s1,by omega,(by have :=g.n63;omega),fun v=>g.t.ends hF v,fun H4 n ns s4 n4 h4 rs=>q H4 n ns (s1.trans s4) (s1.free n4) h4 rs⟩
theorem tJ{α β:Type}{F:α->β->Prop}{a:α}{b:β}(h:F a b):∀{l:List α}{m:List β},Paired F l m->Paired F (l++[a]) (m++[b])
 |_,_,.nil=>.cons h .nil
 |_,_,.cons r t=>.cons r (tJ h t)
end F5
namespace F5
open PySem R
noncomputable def tO:List Str:=["_law_script","_law_k"]
noncomputable def mM:List Str:=["_law_script","_law_k"]
noncomputable def hZ:CB:=
  (.cons (.ret (.bin .Mod (.bin .Mult (.bin .Add (.idx (.var 0) (.var 1)) (.con (.int 1))) (.bin .Add (.con (.int 48271)) (.bin .Mult (.bin .Mult (.con (.int 7919)) (.var 1)) (.var 1)))) (.con (.int 2147483629))))
  .nil)
noncomputable def m6:CB:=
  (.cons (.iff (.and (.cmp .Eq (.bin .Mod (.bin .FloorDiv (.idx (.var 0) (.con (.int 0))) (.con (.int 64))) (.con (.int 2))) (.con (.int 1))) (.cmp .Gt (.idx (.var 0) (.var 1)) (.bin .Pow (.con (.int 10)) (.con (.int 12)))))
  (.cons (.ret (.bin .Mod (.idx (.var 0) (.var 1)) (.bin .Pow (.con (.int 10)) (.con (.int 30)))))
  .nil)
  .nil)
  hZ)
noncomputable def vv:List Str:=["_law_number","_law_form"]
noncomputable def oy:List Str:=["_law_number","_law_form","_law_letters","_law_ahead","_law_word"]
noncomputable def lu:CB:=
  (.cons (.ret (.bin .Add (.var 4) (.cut (.con (.str "zzz")) .no (.yes (.bin .Mod (.bin .FloorDiv (.var 1) (.con (.int 4))) (.con (.int 4)))))))
  .nil)
noncomputable def ly:CB:=
  (.cons (.asg (.name 4) (.bin .Add (.bin .Add (.cut (.con (.str "qqq")) .no (.yes (.var 3))) (.idx (.var 2) (.bin .Mod (.var 0) (.con (.int 26))))) (.idx (.var 2) (.bin .Mod (.bin .FloorDiv (.var 0) (.con (.int 26))) (.con (.int 26))))))
  lu)
noncomputable def lz:CB:=
  (.cons (.asg (.name 3) (.bin .Mod (.var 1) (.con (.int 4))))
  ly)
noncomputable def o4:CB:=
  (.cons (.asg (.name 2) (.con (.str "abcdefghijklmnopqrstuvwxyz")))
  lz)
noncomputable def tQ:List Str:=["_law_number","_law_k","_law_form"]
noncomputable def mP:List Str:=["_law_number","_law_k","_law_form"]
noncomputable def kB:CB:=
  (.cons (.ret (.bin .Mod (.var 0) (.var 1)))
  .nil)
noncomputable def kC:CB:=
  (.cons (.iff (.cmp .Eq (.bin .Mod (.var 2) (.con (.int 5))) (.con (.int 2)))
  (.cons (.ret (.bin .Mod (.var 0) (.bfn .min (.cons (.var 1) (.cons (.con (.int 3)) .nil)))))
  .nil)
  .nil)
  kB)
noncomputable def m8:CB:=
  (.cons (.iff (.cmp .Eq (.bin .Mod (.var 2) (.con (.int 5))) (.con (.int 1)))
  (.cons (.ret (.bin .Sub (.var 1) (.con (.int 1))))
  .nil)
  .nil)
  kC)
noncomputable def tN:List Str:=["_law_script","_law_form","_law_most"]
noncomputable def mK:List Str:=["_law_script","_law_form","_law_most","_law_frame_here","_law_k","_law_number","_law_branch","_law_at"]
noncomputable def ku:CB:=
  (.cons (.ret (.var 3))
  .nil)
noncomputable def ja:CB:=
  (.cons (.asg (.name 3) (.bin .Add (.bin .Add (.cut (.var 3) .no (.yes (.var 7))) (.lst (.cons (.var 6) .nil))) (.cut (.var 3) (.yes (.var 7)) .no)))
  .nil)
noncomputable def gc:CB:=
  (.cons (.asg (.name 7) (.bin .Mod (.bin .FloorDiv (.var 5) (.con (.int 2))) (.bin .Add (.bfn .len (.cons (.var 3) .nil)) (.con (.int 1)))))
  ja)
noncomputable def jb:CB:=
  (.cons (.iff (.cmp .Eq (.bin .Mod (.var 5) (.con (.int 2))) (.con (.int 1)))
  (.cons (.asg (.name 6) (.tup (.cons (.idx (.var 6) (.con (.int 1))) (.cons (.idx (.var 6) (.con (.int 0))) .nil))))
  .nil)
  .nil)
  gc)
noncomputable def jc:CB:=
  (.cons (.asg (.name 6) (.tup (.cons (.call "_law_name" (.cons (.var 4) (.cons (.var 1) .nil))) (.cons (.call "_law_name" (.cons (.call "_law_above" (.cons (.bin .FloorDiv (.var 5) (.con (.int 200))) (.cons (.var 4) (.cons (.var 1) .nil)))) (.cons (.var 1) .nil))) .nil))))
  jb)
noncomputable def ky:CB:=
  (.cons (.forr (.name 4) (.range2 (.con (.int 1)) (.bfn .min (.cons (.bfn .len (.cons (.var 0) .nil)) (.cons (.var 2) .nil))))
  (.cons (.asg (.name 5) (.call "_law_drawn" (.cons (.var 0) (.cons (.var 4) .nil))))
  jc))
  ku)
noncomputable def m5:CB:=
  (.cons (.asg (.name 3) (.lst .nil))
  ky)
noncomputable def tM:List Str:=["_law_script","_law_form","_law_most"]
noncomputable def mJ:List Str:=["_law_script","_law_form","_law_most"]
noncomputable def mZ:CB:=
  (.cons (.ret (.comp ["_law_k"] [1] (.name 0) (.range1 (.bfn .max (.cons (.con (.int 1)) (.cons (.bfn .min (.cons (.bfn .len (.cons (.var 0) .nil)) (.cons (.var 2) .nil))) .nil)))) .no (.call "_law_name" (.cons (.var 0) (.cons (.var 1) .nil)))))
  .nil)
end F5
namespace F5
open PySem PySem.Spec PyProof.Rows L2 R Cp Kc Lt
theorem AZ{ns:List Int}{k:Nat}(h:k<ns.length):atI (ns.map V.int) (k:Int)=some (.int ns[k]):=lF (by rw[aW,ag h];rfl)
noncomputable def spDr(K:aa):Sp:=fun vs H Q _=>∃(s:Addr)(ns:List Int)(k:Nat),vs=[.ref s,.int k]/\SqL K H s (ns.map V.int)/\k<ns.length/\k<=100/\∀d:Int,Q (.int d) H
theorem wp_dr{G:Gam}{K:aa}:Sat G K (spDr K) m6 mM:=by
 rintro vs H Q E ⟨s,ns,k,rfl,hs,hk,l1,q⟩;unfold m6;change wpB G K _ _ _ [some (.ref s),some (.int k)] H;walk_at "wp";have a0:=AZ (ns:=ns) (k:=0) (by omega);have ak:=AZ hk;have last:wpB G K (fun _=>E) hZ {nx:=fun x H'=>Q V.non H',rt:=Q} [some (.ref s),some (.int k)] H:=by
  unfold hZ;walk_at "wp";refine .inl ⟨s,_,_,_,rfl,rfl,hs,ak,?_⟩;walk_at "wp";have h2:(k:Int)*k<=100*100:=Int.mul_le_mul (by omega) (by omega) (by omega) (by decide);have h3:0<=(k:Int)*k:=Int.mul_nonneg (by omega) (by omega);have h4:7919*(k:Int)*k=7919*(k*k):=Int.mul_assoc ..;exact⟨cmulL (by decide) (by decide),cmulR (by omega) (by omega),cmulR (by omega) (by omega),by decide,q _⟩
 refine .inl ⟨s,_,0,_,rfl,rfl,hs,a0,?_⟩;walk_at "wp";refine⟨⟨by decide,by decide⟩,by decide,?_⟩;split
 ·refine .inl ⟨s,_,_,_,rfl,rfl,hs,ak,⟨by decide,by decide,by decide⟩,wU.mpr ⟨_,rfl,?_⟩⟩
  split
  ·refine .inl ⟨s,_,_,_,rfl,rfl,hs,ak,⟨by decide,by decide,by decide⟩,vD.mpr ⟨by decide,q _⟩⟩
  ·exact last
 ·rw[if_neg bF]
  exact last
noncomputable def fsg(c k:Int):List Nat:=[113,113,113].take (c%4).toNat++[rF k]++[rF (k/26)]++[122,122,122].take (c/4%4).toNat
noncomputable def fnm(c k:Int):Str:=mkS (fsg c k)
noncomputable def zl:Sp:=fun vs H Q _=>∃(c k:Int),vs=[.int k,.int c]/\∀H',bP H H'->Q (.str (fnm c k)) H'
theorem wp_nm{G:Gam}{K:aa}:Sat G K zl o4 oy:=by
 rintro vs H Q E ⟨c,k,rfl,q⟩;unfold o4;change wpB G K _ _ _ [some (.int k),some (.int c),none,none,none] H;walk_at "wp";unfold lz;walk_at "wp";refine⟨by decide,?_⟩;unfold ly;walk_at "wp";have e1:c%4=((c%4).toNat:Int):=(fq (dM _ (by decide))).symm;have e2:c/4%4=((c/4%4).toNat:Int):=(fq (dM _ (by decide))).symm;have l1:([113,113,113].take (c%4).toNat).length<=3:=by rw[aF];exact gq ..
 have l2:([122,122,122].take (c/4%4).toNat).length<=3:=by rw[aF];exact gq ..
 rw[e1];rw[show eY "qqq"=mkS [113,113,113] by decide+kernel,um];have h1a:∀x:Nat,[x].length=1:=fun _=>rfl;refine⟨by decide+kernel,by decide,_,lj,o8 _,?_,⟨by decide,by decide⟩,by decide,_,lj,o8 _,?_,?_⟩
 ·rw[mk1,jv,jv,h1a]
  exact short (by omega)
 ·rw[mk1,mk1,rB,jv,jv,aj,h1a,h1a]
  exact short (by omega)
 unfold lu;walk_at "wp";rw[e2,show eY "zzz"=mkS [122,122,122] by decide+kernel,um,mk1,mk1,rB,rB];refine⟨⟨by decide,by decide⟩,by decide,by decide+kernel,?_,?_⟩
 ·rw[jv,jv,aj,aj,h1a,h1a]
  exact short (by omega)
 ·rw[rB]
  exact q H (bP.refl H)
theorem fnm_ok(c k:Int):gB (fnm c k)=true:=by
 have l1:([113,113,113].take (c%4).toNat).length<=3:=by rw[aF];exact gq ..
 have l2:([122,122,122].take (c/4%4).toNat).length<=3:=by rw[aF];exact gq ..
 have hl:(fnm c k).length=([113,113,113].take (c%4).toNat).length+2+([122,122,122].take (c/4%4).toNat).length:=by
  show(mkS (fsg c k)).length=_;rw[jv];unfold fsg;simp only[aj,aS,cN]
 unfold gB;rw[hl,aK];refine⟨decide_eq_true (by omega),?_⟩;show(fsg c k).toArray.toList.all fw=true;rw[Bg];unfold fsg;simp only[List.all_append,aK,mD,List.all_nil,lett_ok,and_true];have h1:[113,113,113].all fw=true:=by decide
 have h2:[122,122,122].all fw=true:=by decide
 rw[dY]at h1 h2;exact⟨dY.mpr fun y hy=>h1 y (dI hy),dY.mpr fun y hy=>h2 y (dI hy)⟩
theorem fnm_inj{c:Int}{i j:Nat}(hi:i<600)(hj:j<600)(h:fnm c i=fnm c j):i=j:=by
 have e:fsg c i=fsg c j:=by
  have :=congrArg (fun z:Str=>z.cps.toList) h
  simpa[fnm]using this
 unfold fsg at e;have e1:=List.append_cancel_right e;have e2:=List.append_inj_right' e1 (by simp);have e3:=List.append_cancel_left (List.append_inj_left' e1 (by simp));injection e2 with e2 _
 injection e3 with e3 _;have a:=t7 e2;have b:=t7 e3;omega
noncomputable def spAb:Sp:=fun vs H Q _=>∃(n c:Int)(k:Nat),vs=[.int n,.int k,.int c]/\1<=k/\k<=100/\∀j:Nat,j<k->Q (.int j) H
theorem wp_ab{G:Gam}{K:aa}:Sat G K spAb m8 mP:=by
 rintro vs H Q E ⟨n,c,k,rfl,h1,h2,q⟩;unfold m8;change wpB G K _ _ _ [some (.int n),some (.int k),some (.int c)] H;walk_at "wp";refine⟨by decide,?_⟩;have fin:∀m:Int,0<m->m<=k->Q (.int (n%m)) H:=fun m hm hk=>by
  have h0:=dM n (show m≠0 by omega);have h1:=iQ n hm;have :=q (n%m).toNat (by omega);rw[fq h0]at this;exact this
 split
 ·have :=q (k-1) (by omega)
  rw[show((k-1:Nat):Int)=(k:Int)-1 by omega]at this;exact this
 ·unfold kC
  walk_at "wp"
  refine⟨by decide,?_⟩;split
  ·refine⟨_,_,rfl,vD.mpr ?_⟩
   split
   ·exact⟨by decide,fin _ (by decide) (by omega)⟩
   ·exact⟨by omega,fin _ (by omega) (by omega)⟩
  ·unfold kB
   walk_at "wp"
   exact⟨by omega,fin _ (by omega) (by omega)⟩
theorem Tree.put{F F':List (Nm×Nm)}{vs:List Nm}(t:Tree F vs){v u:Nm}{e:Nm×Nm}(hv:v∉vs)(hu:u∈vs)(he:e=(v,u)\/e=(u,v))(p:F'.Perm (e::F)):Tree F' (vs++[v]):=by
 have t':Tree (e::F) (vs++[v]):=by
  have m1:∀{x},x∈vs->x∈vs++[v]:=fun h=>aG.mpr (.inl h);have m2:v∈vs++[v]:=aG.mpr (.inr au);refine⟨?_,fun x hx=>?_,by rw[aj,t.len];rfl,fun S hS a ha b hb sa=>?_⟩
  ·rw[dH]
   refine⟨t.nd,by simp,fun a ha b hb z=>?_⟩;cases aB.mp hb;exact hv (z▸ha)
  ·rcases aD.mp hx with rfl|hx
   ·rcases he with rfl|rfl
    ·exact⟨m2,m1 hu⟩
    ·exact⟨m1 hu,m2⟩
   ·exact⟨m1 (t.sub x hx).1,m1 (t.sub x hx).2⟩
  ·have hS':∀x∈F,S x.1↔S x.2:=fun x hx=>hS x (aI _ hx)
   have he':S v↔S u:=by
    have :=hS e au
    rcases he with rfl|rfl
    ·exact this
    ·exact this.symm
   have ka:S u:=by
    rcases aG.mp ha with ha|ha
    ·exact t.conn S hS' a ha u hu sa
    ·cases aB.mp ha
     exact he'.mp sa
   rcases aG.mp hb with hb|hb
   ·exact t.conn S hS' u hu b hb ka
   ·cases aB.mp hb
    exact he'.mpr ka
 exact t'.perm p
noncomputable def nms(c:Int)(n:Nat):List Nm:=(aA n).map fun k:Nat=>fnm c k
theorem tV(c:Int)(n:Nat):nms c (n+1)=nms c n++[fnm c n]:=by unfold nms;rw[kc,bj];rfl
theorem wM{c:Int}{n j:Nat}(h:j<n):fnm c j∈nms c n:=bB.mpr ⟨j,cC.mpr h,rfl⟩
theorem wL{c:Int}{n:Nat}(h:n<600):fnm c n∉nms c n:=fun z=>by
 obtain⟨j,hj,e⟩:=bB.mp z;have hj:=cC.mp hj;have :=fnm_inj (by omega) h e;omega
noncomputable def spFr(K:aa):Sp:=fun vs H Q _=>∃(s:Addr)(ns:List Int)(c:Int)(m:Nat),vs=[.ref s,.int c,.int m]/\m<=99/\SqL K H s (ns.map V.int)/\
 ∀H' f ys F,bP H H'->H f=none->Frm H' f ys F->Tree F (nms c (max 1 (min ns.length m)))->Q (.ref f) H'
theorem rh{α β:Type}{P:α->β->Prop}:∀{a:List α}{b:List β}{a':List α}{b':List β},Paired P a b->Paired P a' b'->Paired P (a++a') (b++b')
 |_,_,_,_,.nil,h=>h
 |_,_,_,_,.cons r t,h=>.cons r (rh t h)
theorem tI{α β:Type}{P:α->β->Prop}:∀{a:List α}{b:List β}(n:Nat),Paired P a b->Paired P (a.take n) (b.take n)
 |_,_,0,_=>.nil
 |_,_,_+1,.nil=>.nil
 |_,_,n+1,.cons r t=>.cons r (tI n t)
theorem tK{α β:Type}{P:α->β->Prop}:∀{a:List α}{b:List β}(n:Nat),Paired P a b->Paired P (a.drop n) (b.drop n)
 |_,_,0,h=>h
 |_,_,_+1,.nil=>.nil
 |_,_,n+1,.cons r t=>tK n t
theorem yj{ys:List V}{z:Nat}(h:z<=ys.length):pM ys none (some (z:Int))=ys.take z:=by
 unfold pM;rw[HT.oh,HT.qY,fF h,sH,yE]
theorem qw{ys:List V}{z:Nat}(h:z<=ys.length):pM ys (some (z:Int)) none=ys.drop z:=by
 unfold pM;rw[HT.oh,HT.qY,fF h,dw (by rw[bq];omega)]
theorem fr4{G:Gam}{K:aa}{E:XS}{D:Ends}{H H1:Hp}{s f p:Addr}{c dn:Int}{ys:List V}{F:List (Nm×Nm)}{e:Nm×Nm}{y4 y7:Option V}(hp:H1 p=some (.tup [.str e.1,.str e.2]))(s1:bP H H1)(fr:Frm H1 f ys F)(l:F.length<=200)
  (hk:∀H2 f' ys' F' y7,bP H H2->H f'=none->Frm H2 f' ys' F'->F'.Perm (e::F)->D.nx [some (.ref s),some (.int c),some (.int m),some (.ref f'),y4,some (.int dn),some (.ref p),y7] H2):
  wpB G K E gc D [some (.ref s),some (.int c),some (.int m),some (.ref f),y4,some (.int dn),some (.ref p),y7] H1:=by
 have hl:=fr.len;unfold gc;walk_at "wp";refine⟨⟨by decide,by decide⟩,.inl ⟨f,_,rfl,.inl (SqL.of fr.hf),?_⟩⟩;walk_at "wp";refine⟨by omega,?_⟩;have h0:=dM (dn/2) (show(ys.length:Int)+1≠0 by omega);have h1:=iQ (dn/2) (show(0:Int)<(ys.length:Int)+1 by omega);obtain⟨m,hm⟩:=xp h0;rw[hm]at h1⊢;unfold ja;walk_at "wp";refine .inl ⟨f,ys,rfl,SqL.of fr.hf,fun p1 n1=>⟨(by show 1<=sizeLine;decide),fun p2 n2=>?_⟩⟩;rw[yj (by omega)]at n2⊢;have s2:=(bb (o:=.lst (ys.take m)) n1).trans (bb (o:=.lst [.ref p]) n2);have lt:(ys.take m).length<=ys.length:=by rw[aF];omega
 have ld:(ys.drop m).length<=ys.length:=by rw[bq];omega
 refine .inr (.inr (.inl ⟨p1,p2,_,_,rfl,rfl,bb n2 _ _ aM,aM,mR (by show _+1<=_;omega),fun p3 n3=>?_⟩));have s3:=s2.trans (bb (o:=.lst (ys.take m++[.ref p])) n3);refine .inl ⟨f,ys,rfl,SqL.of (s3 _ _ fr.hf),fun p4 n4=>?_⟩;rw[qw (by omega)];have s4:=s3.trans (bb (o:=.lst (ys.drop m)) n4);refine .inr (.inr (.inl ⟨p3,p4,_,_,rfl,rfl,bb n4 _ _ aM,aM,mR (by rw[aj];show _+1+_<=_;omega),fun p5 n5=>?_⟩));have s5:=s4.trans (bb (o:=.lst (ys.take m++[.ref p]++ys.drop m)) n5);refine hk _ p5 _ (F.take m++[e]++F.drop m) _ (s1.trans s5) ((s1.trans s4).free n5) ⟨aM,?_⟩ ?_
 ·exact rh (rh (tI m (fr.same s5).br) (.cons ⟨p,rfl,s5 _ _ hp⟩ .nil)) (tK m (fr.same s5).br)
 ·rw[bt]
  refine List.perm_middle.trans ?_;show(e::(F.take m++F.drop m)).Perm (e::F);rw[bf]
theorem wp_fr{G:Gam}{K:aa}(g1:G.fn "_law_drawn" 2=some (spDr K,[]))(g2:G.fn "_law_name" 2=some (zl,[]))(g3:G.fn "_law_above" 3=some (spAb,[])):Sat G K (spFr K) m5 mK:=by
 rintro vs H Q E ⟨s,ns,c,m,rfl,hm,hs,q⟩;unfold m5;change wpB G K _ _ _ [some (.ref s),some (.int c),some (.int m),none,none,none,none,none] H;walk_at "wp";refine⟨aX _,fun f0 n0=>?_⟩;unfold ky;walk_at "wp";refine oN ?_;walk_at "wp";have em:(if(m:Int)<(ns.map V.int).length then(m:Int)else((ns.map V.int).length:Int))=((min ns.length m:Nat):Int):=by
  rw[ai];split <;>omega
 refine .inl ⟨s,_,rfl,.inl (bP.seq (bb n0) hs),_,_,rfl,?_⟩;rw[em];refine⟨1,_,rfl,by omega,?_⟩;have et:(((min ns.length m:Nat):Int)-1).toNat=min ns.length m-1:=by omega
 rw[et];refine lq l0 (fun i σ H'=>bP H H'/\∃f ys F y4 y5 y6 y7,σ=[some (.ref s),some (.int c),some (.int m),some (.ref f),y4,y5,y6,y7]/\H f=none/\Frm H' f ys F/\Tree F (nms c (i+1)))
  ⟨bb n0,f0,[],[],_,_,_,_,rfl,n0,⟨aM,.nil⟩,⟨by simp[nms],(fun e he=>nomatch he),rfl,fun S _ a ha b hb=>?_⟩⟩ (fun _ _ _ _ _=>trivial) ?_ ?_
 ·have h1:a=fnm c ((0:Nat):Int):=aB.mp ha
  have h2:b=fnm c ((0:Nat):Int):=aB.mp hb;rw[h1,h2];exact id
 ·rintro i x σ H1 H2 D2 hi ⟨s1,f,ys,F,y4,y5,y6,y7,rfl,nf,fr,t⟩ rfl s2 hD _
  have ek:(1:Int)+(i:Int)=((i+1:Nat):Int):=by omega
  rw[ek];walk_at "wp";refine⟨_,_,g1,s,ns,i+1,rfl,(s1.trans s2).seq hs,by omega,by omega,fun dn=>?_⟩;unfold jc;walk_at "wp";refine⟨_,_,g2,c,_,rfl,fun H3 s3=>⟨_,_,g2,_,_,g3,⟨by decide,by decide⟩,_,c,i+1,rfl,by omega,by omega,fun j hj=>⟨c,j,rfl,fun H4 s4=>⟨(by show 2<=sizeLine;decide),fun p hp=>?_⟩⟩⟩⟩;have s5:=(s1.trans s2).trans ((s3.trans s4).trans (bb (o:=.tup [.str (fnm c ((i+1:Nat):Int)),.str (fnm c j)]) hp));have fr5:=fr.same (s2.trans ((s3.trans s4).trans (bb (o:=.tup [.str (fnm c ((i+1:Nat):Int)),.str (fnm c j)]) hp)));have new:=wL (c:=c) (n:=i+1) (by omega);have old:=wM (c:=c) hj;have hk2:∀{e:Nm×Nm}{p':Addr},(e=(fnm c ((i+1:Nat):Int),fnm c j)\/e=(fnm c j,fnm c ((i+1:Nat):Int)))->∀H6 f' ys' F' y7,bP H H6->H f'=none->Frm H6 f' ys' F'->F'.Perm (e::F)->D2.nx [some (.ref s),some (.int c),some (.int m),some (.ref f'),some (.int ((i+1:Nat):Int)),some (.int dn),some (.ref p'),y7] H6:=fun he H6 f' ys' F' y7 s6 n6 fr6 pm=>hD _ _ ⟨s6,f',ys',F',_,_,_,_,rfl,n6,fr6,tV c (i+1)▸t.put new old he pm⟩;have hl:=t.len;have hl2:(nms c (i+1)).length=i+1:=by unfold nms;rw[ai,cb]
  unfold jb;walk_at "wp";refine⟨by decide,?_⟩;split
  ·refine .inr (.inl ⟨p,_,1,_,rfl,rfl,SqT.of aM,rfl,.inr (.inl ⟨p,_,0,_,rfl,rfl,SqT.of aM,rfl,(by show 2<=sizeLine;decide),fun p2 n2=>?_⟩)⟩)
   exact fr4 (e:=(fnm c j,fnm c ((i+1:Nat):Int))) aM (s5.trans (bb n2)) (fr5.same (bb n2)) (by omega) (hk2 (.inr rfl))
  ·exact fr4 (e:=(fnm c ((i+1:Nat):Int),fnm c j)) aM s5 fr5 (by omega) (hk2 (.inl rfl))
 ·rintro σ H1 ⟨s1,f,ys,F,y4,y5,y6,y7,rfl,nf,fr,t⟩
  rw[show min ns.length m-1+1=max 1 (min ns.length m) by omega]at t;unfold ku;walk_at "wp";exact q H1 f ys F s1 nf fr t
noncomputable def spNs(K:aa):Sp:=fun vs H Q _=>∃(s:Addr)(ns:List Int)(c:Int)(m:Nat),vs=[.ref s,.int c,.int m]/\m<=99/\SqL K H s (ns.map V.int)/\
 ∀H' l,bP H H'->H l=none->H' l=some (.lst ((nms c (max 1 (min ns.length m))).map V.str))->Q (.ref l) H'
theorem wp_ns{G:Gam}{K:aa}(g2:G.fn "_law_name" 2=some (zl,[])):Sat G K (spNs K) mZ mJ:=by
 rintro vs H Q E ⟨s,ns,c,m,rfl,hm,hs,q⟩;unfold mZ;change wpB G K _ _ _ [some (.ref s),some (.int c),some (.int m)] H;walk_at "wp";refine jR ?_;walk_at "wp";have em:(if(m:Int)<(ns.map V.int).length then(m:Int)else((ns.map V.int).length:Int))=((min ns.length m:Nat):Int):=by
  rw[ai];split <;>omega
 refine .inl ⟨s,_,rfl,.inl hs,_,_,rfl,?_⟩;rw[em];refine⟨_,_,rfl,((max 1 (min ns.length m):Nat):Int),?_,by omega,by omega,?_⟩
 ·congr 2
  split <;>omega
 rw[dk];refine iN l0 (mR (by omega)) (fun _ _=>trivial) (fun i v _=>v=V.str ((nms c (max 1 (min ns.length m))).getD i "")) (fun _ _ _ _ _ h=>h) (fun τ=>∃t,τ=[t,some (.int c)]) ⟨none,rfl⟩ ?_ ?_
 ·rintro i x τ H3 R hi ⟨t,rfl⟩ s3 rfl k
  refine⟨_,_,g2,_,rfl,_,rfl,c,_,rfl,fun H4 s4=>k _ _ _ ⟨_,rfl⟩ s4 ?_⟩;unfold nms;rw[av,aW,dq hi,Int.zero_add];rfl
 ·intro vs H2 l hvl hF s2 hl2
  rw[lX (by rw[hvl];unfold nms;rw[ai,cb]) hF];exact q _ l (s2.trans (bb hl2)) (s2.free hl2) aM
end F5
namespace F5
open PySem R
noncomputable def tP:List Str:=["_law_frame_here","_law_names_here"]
noncomputable def mO:List Str:=["_law_frame_here","_law_names_here"]
noncomputable def kA:CB:=
  (.cons (.ret (.con .none))
  .nil)
noncomputable def m7:CB:=
  (.cons (.iff (.cmp .Eq (.var 0) (.lst .nil))
  (.cons (.ret (.idx (.var 1) (.con (.int 0))))
  .nil)
  .nil)
  kA)
end F5
namespace F5
open PySem PySem.Spec PyProof.Rows L2 R Cp Kc Lt
noncomputable def bD(e:Nm×Nm):D:=.tup [.str e.1,.str e.2]
theorem ra{K:aa}{H:Hp}:∀{ys:List V}{F:List (Nm×Nm)},Paired (Br H) ys F->gj K H (F.map bD) ys
 |_,_,.nil=>rfl
 |_,_,.cons ⟨p,e,h⟩ t=>⟨_,_,rfl,⟨p,_,e,SqT.of h,_,_,rfl,rfl,_,_,rfl,rfl,rfl⟩,ra t⟩
theorem vJ:∀F:List (Nm×Nm),gD (F.map bD)<=1
 | []=>aX _
 |e::F=>by
  have :=vJ F
  show max (hgt (bD e)) (gD (F.map bD))<=1;have h1:hgt (bD e)=1:=rfl;omega
noncomputable def spAl:Sp:=fun vs H Q _=>∃(f n:Addr)(ys:List V)(F:List (Nm×Nm))(v:Nm)(ws:List Nm),vs=[.ref f,.ref n]/\Frm H f ys F/\H n=some (.lst ((v::ws).map V.str))/\
 (F=[]->∀H',bP H H'->Q (.str v) H')/\(F≠[]->∀H',bP H H'->Q .non H')
theorem wp_al{G:Gam}{K:aa}:Sat G K spAl m7 mO:=by
 rintro vs H Q E ⟨f,n,ys,F,v,ws,rfl,fr,hn,q1,q2⟩;unfold m7;change wpB G K _ _ _ [some (.ref f),some (.ref n)] H;walk_at "wp";refine⟨aX _,fun p hp=>?_⟩;have s1:bP H (upd H p (.lst [])):=bb hp;have hh:=vJ F;refine⟨.lst (F.map bD),.lst [],⟨f,_,rfl,SqL.of (s1 _ _ fr.hf),ra (fr.same s1).br⟩,⟨p,_,rfl,SqL.of aM,rfl⟩,by show gD (F.map bD)+1<=30;omega,_,rfl,?_⟩;cases F with
 |nil=>
  rw[if_pos (show eqD (.lst (([]:List (Nm×Nm)).map bD)) (.lst [])=true from rfl)];exact .inl ⟨n,_,0,.str v,rfl,rfl,SqL.of (s1 _ _ hn),(lF (j:=0) (jo ..):atI ((v::ws).map V.str) ((0:Nat):Int)=_),q1 rfl _ s1⟩
 |cons e F=>
  rw[if_neg (by show ¬iW (bD e::F.map bD) []=true;exact fun z=>nomatch z)];unfold kA;walk_at "wp";exact q2 (fun z=>nomatch z) _ s1
end F5
namespace K51
open PySem R
noncomputable def p_law:List Str:=["_law_script"]
noncomputable def Ar:List Str:=["_law_script","_law_form","_law_names_here","_law_frame_here","_law_handed","_law_found","_law_name_here","_law_turned_about","_law_long"]
noncomputable def o5:CB:=
  (.cons (.ret (.cmp .Eq (.call "frame_list" (.cons (.bfn .list (.cons (.var 3) .nil)) (.cons (.call "_law_alone" (.cons (.var 3) (.cons (.var 2) .nil))) .nil))) (.bfn .sorta (.cons (.var 2) .nil))))
  .nil)
noncomputable def uw:CB:=
  (.cons (.iff (.or (.cmp .NotEq (.call "frame_list" (.cons (.lst .nil) (.cons (.con (.str "kin")) .nil))) (.lst (.cons (.con (.str "kin")) .nil))) (.cmp .NotEq (.call "frame_list" (.cons (.lzip (.var 8) (.cut (.var 8) (.yes (.con (.int 1))) .no)) .nil)) (.bfn .sorta (.cons (.var 8) .nil))))
  (.cons (.ret (.con (.bool false)))
  .nil)
  .nil)
  o5)
noncomputable def o6:CB:=
  (.cons (.asgc 8 (.comp ["_law_k"] [1] (.name 0) (.range1 (.con (.int 81))) .no (.call "_law_name" (.cons (.var 0) (.cons (.var 1) .nil)))))
  uw)
noncomputable def uz:CB:=
  (.cons (.expr (.meth0 .clear (.var 5)))
  o6)
noncomputable def lA:CB:=
  (.cons (.expr (.meth0 .clear (.var 4)))
  uz)
noncomputable def uA:CB:=
  (.cons (.iff (.and (.cmp .NotEq (.var 3) (.lst .nil)) (.cmp .NotEq (.call "frame_list" (.cons (.var 3) .nil)) (.var 5)))
  (.cons (.ret (.con (.bool false)))
  .nil)
  .nil)
  lA)
noncomputable def w4:CB:=
  (.cons (.iff (.cmp .NotEq (.call "frame_list" (.cons (.var 7) (.cons (.call "_law_alone" (.cons (.var 3) (.cons (.var 2) .nil))) .nil))) (.var 5))
  (.cons (.ret (.con (.bool false)))
  .nil)
  .nil)
  uA)
noncomputable def rT:CB:=
  (.cons (.asgc 7 (.comp ["_law_one","_law_other"] [] (.tup (.cons (.name 0) (.cons (.name 1) .nil))) (.seq (.rev (.var 3))) .no (.tup (.cons (.var 1) (.cons (.var 0) .nil)))))
  w4)
noncomputable def w6:CB:=
  (.cons (.forr (.name 6) (.seq (.var 5))
  (.cons (.iff (.not (.bfn .isinstance (.cons (.var 6) (.cons (.ty .str) .nil))))
  (.cons (.ret (.con (.bool false)))
  .nil)
  .nil)
  .nil))
  rT)
noncomputable def w8:CB:=
  (.cons (.iff (.or (.not (.bfn .isinstance (.cons (.var 5) (.cons (.ty .list) .nil)))) (.or (.cmp .NotEq (.var 5) (.bfn .sorta (.cons (.var 2) .nil))) (.cmp .NotEq (.var 4) (.var 3))))
  (.cons (.ret (.con (.bool false)))
  .nil)
  .nil)
  w6)
noncomputable def w9:CB:=
  (.cons (.asg (.name 5) (.call "frame_list" (.cons (.var 4) (.cons (.call "_law_alone" (.cons (.var 3) (.cons (.var 2) .nil))) .nil))))
  w8)
noncomputable def rV:CB:=
  (.cons (.asg (.name 4) (.bfn .list (.cons (.var 3) .nil)))
  w9)
noncomputable def xb:CB:=
  (.cons (.asg (.name 3) (.call "_law_frame" (.cons (.var 0) (.cons (.var 1) (.cons (.con (.int 80)) .nil)))))
  rV)
noncomputable def xc:CB:=
  (.cons (.asg (.name 2) (.call "_law_names" (.cons (.var 0) (.cons (.var 1) (.cons (.con (.int 80)) .nil)))))
  xb)
noncomputable def AX:CB:=
  (.cons (.asg (.name 1) (.call "_law_cell_at" (.cons (.var 0) (.cons (.con (.int 0)) .nil))))
  xc)
end K51
namespace K51
open PySem PySem.Spec PyProof.Rows L2 R Cp Kc Lt F5
structure G51(G:Gam)(K:aa):Prop where
 g0:G.fn "_law_cell_at" 2=some (vf K,[])
 g1:G.fn "_law_names" 3=some (spNs K,[])
 g2:G.fn "_law_frame" 3=some (spFr K,[])
 g3:G.fn "_law_alone" 2=some (spAl,[])
 g4:G.fn "frame_list" 2=some (zo,[])
 g5:G.fn "frame_list" 1=some (zo,[.non])
 g6:G.fn "_law_name" 2=some (zl,[])
theorem same_eq{K:aa}{H:Hp}{x y:V}{d:L2.D}{Q:VK}(h1:Rep K H d x)(h2:Rep K H d y)(hd:hgt d<=30)(k:Q (.bl true) H):gi K .Eq x y H Q:=⟨d,d,h1,h2,hd,by rw[oQ];exact k⟩
theorem jJ{K:aa}{H:Hp}{x y:V}{d:L2.D}{Q:VK}(h1:Rep K H d x)(h2:Rep K H d y)(hd:hgt d<=30)(k:Q (.bl false) H):gi K .NotEq x y H Q:=⟨d,d,h1,h2,hd,by rw[oQ];exact k⟩
theorem tD{K:aa}{H:Hp}:∀ks:List Str,gj K H (ks.map L2.D.str) (ks.map V.str)
 | []=>rfl
 |_::ks=>⟨_,_,rfl,rfl,tD ks⟩
theorem uf:∀ns:List Str,gD (ns.map L2.D.str)=0
 | []=>rfl
 |a::l=>by show max (hgt (.str a)) (gD (l.map L2.D.str))=0;rw[uf l];rfl
theorem fY{K:aa}{H:Hp}{p:Addr}{ks:List Str}(h:H p=some (.lst (ks.map V.str))):Rep K H (.lst (ks.map .str)) (.ref p)/\hgt (.lst (ks.map L2.D.str))<=30:=by
 refine⟨⟨p,_,rfl,SqL.of h,tD ks⟩,?_⟩;show gD (ks.map L2.D.str)+1<=30;rw[uf];decide
theorem vj{K:aa}{H:Hp}{p:Addr}{ys:List V}{F:List (Nm×Nm)}(h:H p=some (.lst ys))(b:Paired (Br H) ys F):Rep K H (.lst (F.map bD)) (.ref p)/\hgt (.lst (F.map bD))<=30:=by
 refine⟨⟨p,_,rfl,SqL.of h,ra b⟩,?_⟩;have :=vJ F;show gD (F.map bD)+1<=30;omega
theorem k8{a b ws:List Nm}(r:iq a ws)(q:iq b ws):a=b:=
 _root_.Q.km ((iA r.nd q.nd).mpr fun x=>(r.mem x).trans (q.mem x).symm) r.up q.up
theorem xH{ws:List Nm}(nd:ws.Nodup):∃b,i7 ws=b.map V.str/\iq b ws:=by
 have hp:=_root_.Q.mF ("":Str) nd rfl;exact⟨_,tm nd,hp.nodup_iff.mpr nd,fun v=>hp.mem_iff,_root_.Q.kl nd⟩
theorem lZ{a ws:List Nm}(nd:ws.Nodup)(r:iq a ws):i7 ws=a.map V.str:=by
 obtain⟨b,e,q⟩:=xH nd;rw[e,k8 r q]
theorem vo{α β:Type}{P:α->β->Prop}:∀{a:List α}{b:List β},a.length=b.length->(∀(i:Nat) x,a[i]? =some x->∃y,b[i]? =some y/\P x y)->Paired P a b
 | [],[],_,_=>.nil
 |x::a,y::b,hl,h=>by
  obtain⟨z,h1,h2⟩:=h 0 x rfl;cases h1;exact .cons h2 (vo (by simpa using hl) fun i u hu=>h (i+1) u (by simpa using hu))
theorem wD{α β:Type}{P:α->β->Prop}:∀{a:List α}{b:List β},Paired P a b->Paired P a.reverse b.reverse
 |_,_,.nil=>.nil
 |_,_,.cons r t=>by
  rw[i4,i4];exact tJ r (wD t)
theorem sS(a:Nm):Tree [] [a]:=by
 refine⟨by simp,(fun e he=>nomatch he),rfl,fun S _ x hx y hy=>?_⟩;rw[aB.mp hx,aB.mp hy];exact id
noncomputable def pth(c:Int)(n:Nat):List (Nm×Nm):=(aA n).map fun k:Nat=>(fnm c k,fnm c ((k+1:Nat):Int))
theorem nU(c:Int):∀n,n<500->Tree (pth c n) (nms c (n+1))
 | 0,_=>sS _
 |n+1,h=>by
  rw[tV];refine(nU c n (by omega)).put (e:=(fnm c n,fnm c ((n+1:Nat):Int))) (wL (by omega)) (wM (by omega:n<n+1)) (.inr rfl) ?_;unfold pth;rw[kc,bj];exact yF
theorem fv(c:Int)(n:Nat):(nms c n).length=n:=by unfold nms;rw[ai,cb]
theorem vB(c:Int){n:Nat}(h:n<500):(nms c n).Nodup:=by
 cases n with
 |zero=>exact kS
 |succ n=>exact(nU c n (by omega)).nd
theorem Aq(c:Int){n:Nat}:∀v∈nms c n,gB v=true:=fun v hv=>by
 obtain⟨j,_,rfl⟩:=bB.mp hv;exact fnm_ok ..
structure Dr(H:Hp)(n f:Addr)(c:Int)(m:Nat)(ys:List V)(F:List (Nm×Nm)):Prop where
 hn:H n=some (.lst ((nms c m).map V.str))
 fr:Frm H f ys F
 t:Tree F (nms c m)
 m1:1<=m
 m63:m<=63
theorem Dr.same{H H':Hp}{n f:Addr}{c:Int}{m:Nat}{ys:List V}{F:List (Nm×Nm)}(d:Dr H n f c m ys F)(s:bP H H'):Dr H' n f c m ys F:={d with hn:=s _ _ d.hn,fr:=d.fr.same s}
noncomputable def alV(c:Int)(F:List (Nm×Nm)):V:=if F=[]then .str (fnm c ((0:Nat):Int))else .non
theorem Dr.al{H:Hp}{n f:Addr}{c:Int}{m:Nat}{ys:List V}{F:List (Nm×Nm)}(d:Dr H n f c m ys F):(F=[]/\∃a,alV c F=.str a/\nms c m=[a])\/(F≠[]/\alV c F=.non):=by
 unfold alV;by_cases h:F=[]
 ·rw[if_pos h]
  refine .inl ⟨h,_,rfl,?_⟩;have :=d.t.len;rw[fv,h,cN]at this;rw[this];rfl
 ·rw[if_neg h]
  exact .inr ⟨h,rfl⟩
theorem Dr.good{H H':Hp}{n f g:Addr}{c:Int}{m:Nat}{ys zs:List V}{F F':List (Nm×Nm)}(d:Dr H n f c m ys F)(fr:Frm H' g zs F')(t:Tree F' (nms c m)):uH 82 H' g (alV c F) zs F' (nms c m):=by
 have l1:=d.t.len;have l2:=t.len;refine⟨fr,t,by rw[fv];have :=d.m63;omega,Aq c,?_⟩;have e:F=[]↔F'=[]:=by rw[<-bQ,<-bQ];omega
 rcases d.al with⟨h,x⟩ |⟨h,x⟩
 ·exact .inl ⟨e.mp h,x⟩
 ·exact .inr ⟨fun z=>h (e.mpr z),x⟩
section
variable {G:Gam}{K:aa}{E:XS}{D:Ends}{Q:VK}{H:Hp}{s n f h p:Addr}{c:Int}{m:Nat}{ys:List V}{F:List (Nm×Nm)}{a:List Nm}{x0 x4 x5 x6 x7 x8:Option V}
theorem r8{R:VK}{E':XK}(d:Dr H n f c m ys F)(q:∀H',bP H H'->R (alV c F) H'):spAl [.ref f,.ref n] H R E':=by
 obtain⟨k,rfl⟩:∃k,m=k+1:=⟨m-1,by have :=d.m1;omega⟩;have e:nms c (k+1)=fnm c ((0:Nat):Int)::((aA k).map fun j:Nat=>fnm c ((j+1:Nat):Int)):=by
  unfold nms;rw[jX,bw,ee];rfl
 refine⟨f,n,ys,F,_,_,rfl,d.fr,by rw[<-e];exact d.hn,fun hF H' s=>?_,fun hF H' s=>?_⟩
 ·have :=q H' s
  unfold alV at this
  rwa [if_pos hF]at this
 ·have :=q H' s
  unfold alV at this
  rwa [if_neg hF]at this
theorem lw_15(g:G51 G K)(d:Dr H n f c m ys F)(hD:D.rt=Q)(q:∀H',Q (.bl true) H'):
  wpB G K E o5 D [x0,some (.int c),some (.ref n),some (.ref f),x4,x5,x6,x7,x8] H:=by
 unfold o5;walk_at "wp";refine⟨_,_,g.g4,f,ys,rfl,.inl (SqL.of d.fr.hf),fun l hl=>?_⟩;have s1:bP H (upd H l (.lst ys)):=bb hl;have d1:=d.same s1;refine⟨_,_,g.g3,r8 d1 fun H2 s2=>?_⟩;have d2:=d1.same s2;refine⟨l,_,ys,F,_,rfl,d2.good ⟨s2 _ _ aM,d2.fr.br⟩ d.t,fun H3 p a s3 n3 h3 r=>?_⟩;have d3:=d2.same s3;have nd:=vB c (n:=m) (by have :=d.m63;omega);refine⟨n,nms c m,rfl,SqL.of d3.hn,by rw[fv];have :=d.m63;omega,nd,fun p4 n4=>?_⟩;rw[lZ nd r];obtain⟨r1,r2⟩:=fY (K:=K) (bb (o:=.lst (a.map V.str)) n4 _ _ h3);refine same_eq r1 (fY aM).1 r2 ?_;rw[hD];exact q _
theorem lw_13(g:G51 G K)(d:Dr H n f c m ys F)(hD:D.rt=Q)(q:∀H',Q (.bl true) H'):
  wpB G K E o6 D [x0,some (.int c),some (.ref n),some (.ref f),x4,x5,x6,x7,x8] H:=by
 unfold o6;walk_at "wp";refine jR ?_;walk_at "wp";refine⟨81,rfl,by decide,by decide,?_⟩;refine iN l0 (mR (by decide)) (fun _ _=>trivial) (fun i v _=>v=V.str ((nms c 81).getD i "")) (fun _ _ _ _ _ h=>h) (fun τ=>∃t,τ=[t,some (.int c)]) ⟨none,rfl⟩ ?_ ?_
 ·rintro i x τ H3 R hi ⟨t,rfl⟩ s3 rfl k
  have hi:i<81:=hi;refine⟨_,_,g.g6,_,rfl,_,rfl,c,_,rfl,fun H4 s4=>k _ _ _ ⟨_,rfl⟩ s4 ?_⟩;unfold nms;rw[av,aW,dq hi,Int.zero_add];rfl
 intro vs H1 l hvl hF s1 hl1;rw[lX (by rw[hvl,fv];rfl) hF];have s2:=s1.trans (bb (o:=.lst ((nms c 81).map V.str)) hl1);have e2:upd H1 l (.lst ((nms c 81).map V.str)) l=some (.lst ((nms c 81).map V.str)):=aM;generalize upd H1 l (.lst ((nms c 81).map V.str))=H2 at s2 e2;have d2:=d.same s2;unfold uw;walk_at "wp";refine⟨_,_,g.g4,aX _,fun p3 n3=>?_⟩;have s3:bP H2 (upd H2 p3 (.lst [])):=bb n3;have e3:upd H2 p3 (.lst []) p3=some (.lst []):=aM;generalize upd H2 p3 (.lst [])=H3 at s3 e3;refine⟨p3,.str "kin",[],[],["kin"],rfl,⟨⟨e3,.nil⟩,sS _,by decide,(fun v hv=>by rw[aB.mp hv];decide+kernel),.inl ⟨rfl,_,rfl,rfl⟩⟩,fun H4 p4 a s4 n4 h4 r=>⟨by decide,fun p5 n5=>?_⟩⟩;have ea:a=[("kin":Str)]:=k8 r ⟨by simp,fun v=>Iff.rfl,by simp⟩;subst ea;have s5:bP H4 (upd H4 p5 (.lst [V.str "kin"])):=bb n5;have e5:upd H4 p5 (.lst [V.str "kin"]) p5=some (.lst ([("kin":Str)].map V.str)):=aM;generalize upd H4 p5 (.lst [V.str "kin"])=H5 at s5 e5;obtain⟨r1,r2⟩:=fY (K:=K) (s5 _ _ h4);refine jJ r1 (fY e5).1 r2 ⟨_,rfl,?_⟩;rw[if_neg (by decide)];have s35:=s3.trans (s4.trans s5);have d5:=d2.same s35;have e25:=s35 _ _ e2;refine⟨_,_,g.g5,?_⟩;unfold zc;walk_at "wp";refine .inl ⟨l,_,rfl,SqL.of e25,fun p6 n6=>?_⟩;have ec:pM ((nms c 81).map V.str) (some 1) none=((aA 80).map fun k:Nat=>V.str (fnm c ((k+1:Nat):Int))):=by
  have :=qw (ys:=(nms c 81).map V.str) (z:=1) (by rw[ai,fv];decide)
  rw[show((1:Nat):Int)=1 from rfl]at this;rw[this];unfold nms;rw[show(81:Nat)=80+1 from rfl,jX,bw,bw,List.drop_one,List.tail_cons,ee,ee];rfl
 rw[ec];have s6:bP H5 (upd H5 p6 (.lst ((aA 80).map fun k:Nat=>V.str (fnm c ((k+1:Nat):Int))))):=bb n6;have e6:upd H5 p6 (.lst ((aA 80).map fun k:Nat=>V.str (fnm c ((k+1:Nat):Int)))) p6=some (.lst ((aA 80).map fun k:Nat=>V.str (fnm c ((k+1:Nat):Int)))):=aM;generalize upd H5 p6 (.lst ((aA 80).map fun k:Nat=>V.str (fnm c ((k+1:Nat):Int))))=H6 at s6 e6;refine⟨l,p6,_,_,rfl,SqL.of (s6 _ _ e25),SqL.of e6,by rw[ai,fv];decide,fun H7 p7 ws s7 n7 h7 wl wat=>?_⟩;rw[ai,fv,ai,cb]at wl;have br:Paired (Br H7) ws (pth c 80):=vo (by rw[wl];unfold pth;rw[ai,cb];rfl) fun j x hx=>by
  have hj:j<80:=by have :=(aR.mp hx).1;omega
  obtain⟨q',h1,_,h2⟩:=wat j (.str (fnm c j)) (.str (fnm c ((j+1:Nat):Int))) (by unfold nms;rw[ee,aW,dq (by omega)];rfl) (by rw[aW,dq hj];rfl);rw[hx]at h1;cases h1;refine⟨(fnm c j,fnm c ((j+1:Nat):Int)),?_,q',rfl,h2⟩;unfold pth;rw[aW,dq hj];rfl
 have nd:=vB c (n:=81) (by decide);have hne:pth c 80≠[]:=fun z=>by have :=congrArg pU z;unfold pth at this;rw[ai,cb]at this;cases this
 refine⟨p7,.non,ws,pth c 80,nms c 81,rfl,⟨⟨h7,br⟩,nU c 80 (by decide),by rw[fv];decide,Aq c,.inr ⟨hne,rfl⟩⟩,fun H8 p8 a s8 n8 h8 r=>?_⟩;have s68:=s6.trans (s7.trans s8);refine⟨l,nms c 81,rfl,SqL.of (s68 _ _ e25),by rw[fv];decide,nd,fun p9 n9=>?_⟩;rw[lZ nd r];have s9:bP H8 (upd H8 p9 (.lst (a.map V.str))):=bb n9;have e9:upd H8 p9 (.lst (a.map V.str)) p9=some (.lst (a.map V.str)):=aM;generalize upd H8 p9 (.lst (a.map V.str))=H9 at s9 e9;obtain⟨r1,r2⟩:=fY (K:=K) (s9 _ _ h8);refine jJ r1 (fY e9).1 r2 ⟨_,rfl,?_⟩;rw[if_neg (by decide)];exact lw_15 g (d5.same (s68.trans s9)) hD q
theorem lw_11(g:G51 G K){y4 y5:List V}(d:Dr H n f c m ys F)(h4:H h=some (.lst y4))(h5:H p=some (.lst y5))(n1:n≠h)(n2:n≠p)(n3:f≠h)(n4:f≠p)(n5:h≠p)(hD:D.rt=Q)(q:∀H',Q (.bl true) H'):
  wpB G K E lA D [x0,some (.int c),some (.ref n),some (.ref f),some (.ref h),some (.ref p),x6,x7,x8] H:=by
 unfold lA;walk_at "wp";refine⟨.inl ⟨rfl,_,SqL.of h4⟩,h,_,rfl,rfl,h4,?_⟩;unfold uz;walk_at "wp";have h5':upd H h (.lst []) p=some (.lst y5):=by rw[bC n5.symm];exact h5
 refine⟨.inl ⟨rfl,_,SqL.of h5'⟩,p,_,rfl,rfl,h5',?_⟩;refine lw_13 g {d with hn:=?_,fr:=⟨?_,Paired.xZ d.fr.br fun _ _ ⟨b,e,hb⟩=>⟨b,e,?_⟩⟩} hD q
 ·rw[bC n2,bC n1]
  exact d.hn
 ·rw[bC n4,bC n3]
  exact d.fr.hf
 ·rw[bC (mI hb h5 (fun z=>nomatch z)),bC (mI hb h4 (fun z=>nomatch z))]
  exact hb
theorem lw_8(g:G51 G K)(d:Dr H n f c m ys F)(h4:H h=some (.lst ys))(h5:H p=some (.lst (a.map V.str)))(r:iq a (nms c m))(n1:n≠h)(n2:n≠p)(n3:f≠h)(n4:f≠p)(n5:h≠p)(hD:D.rt=Q)(q:∀H',Q (.bl true) H'):
  wpB G K E rT D [x0,some (.int c),some (.ref n),some (.ref f),some (.ref h),some (.ref p),x6,x7,x8] H:=by
 have m63:=d.m63;have hl:=d.fr.len;have tl:=d.t.len;rw[fv]at tl;unfold rT;walk_at "wp";refine jR ⟨.ref f,rfl,f,ys,rfl,SqL.of d.fr.hf,fun pr hpr=>.inl ⟨pr,rfl,⟨_,SqL.of aM⟩,?_⟩⟩;have s1:bP H (upd H pr (.lst ys.reverse)):=bb hpr;have br:=wD d.fr.br;refine iN gy (mR (by rw[dU];omega)) (fun H4 s6=>SqL.of (s6 _ _ aM)) (fun i v H'=>∃e,(F.reverse.map swap)[i]? =some e/\Br H' v e) (fun i v H H' e ⟨u,h1,p,h2,h3⟩=>⟨u,h1,p,h2,e _ _ h3⟩) (fun τ=>∃u v,τ=[u,v]) ⟨none,none,rfl⟩ ?_ ?_
 ·rintro i x τ H3 R hi ⟨u,v,rfl⟩ s3 hx k
  obtain⟨⟨a,b⟩,hF,u,rfl,hu⟩:=vp br hx;refine⟨u,_,rfl,SqT.of (s3 _ _ (s1 _ _ hu)),rfl,_,_,rfl,_,_,rfl,rfl,?_⟩;walk_at "wp";refine⟨(by show 2<=sizeLine;decide),fun p2 n2=>k _ _ _ ⟨_,_,rfl⟩ (bb n2) ⟨(b,a),?_,p2,rfl,aM⟩⟩;rw[aW,hF];rfl
 intro vs H2 l hvl hF s2 hl2;have s3:=(s1.trans s2).trans (bb (o:=.lst vs) hl2);have pr3:Paired (Br (upd H2 l (.lst vs))) vs (F.reverse.map swap):=vo (by rw[hvl,dU,ai,dU];omega) fun i v hv=>by
  obtain⟨e,h1,p,h2,h3⟩:=hF i v hv;exact⟨e,h1,p,h2,bb hl2 _ _ h3⟩
 have e3:upd H2 l (.lst vs) l=some (.lst vs):=aM;generalize upd H2 l (.lst vs)=H3 at s3 pr3 e3;have d3:=d.same s3;unfold w4;walk_at "wp";refine⟨_,_,g.g4,_,_,g.g3,r8 d3 fun H4 s4=>?_⟩;refine⟨l,_,vs,F.reverse.map swap,_,rfl,d3.good ⟨s4 _ _ e3,Paired.xZ pr3 fun _ _ ⟨b,e,hb⟩=>⟨b,e,s4 _ _ hb⟩⟩ ((d.t.perm (i3 F)).swap),fun H5 p5 a5 s5 n5' h5' r5=>?_⟩;rw[k8 r5 r]at h5';have s35:=s3.trans (s4.trans s5);obtain⟨r1,r2⟩:=fY (K:=K) h5';refine jJ r1 (fY (s35 _ _ h5)).1 r2 ⟨_,rfl,?_⟩;rw[if_neg (by decide)];have d5:=d.same s35;have fin:∀H',bP H H'->wpB G K E lA D [x0,some (.int c),some (.ref n),some (.ref f),some (.ref h),some (.ref p),x6,some (.ref l),x8] H':=fun H' s'=>lw_11 g (d.same s') (s' _ _ h4) (s' _ _ h5) n1 n2 n3 n4 n5 hD q;unfold uA;walk_at "wp";refine⟨aX _,fun p6 n6=>?_⟩;have s6:bP H5 (upd H5 p6 (.lst [])):=bb n6;have e6:upd H5 p6 (.lst []) p6=some (.lst []):=aM;generalize upd H5 p6 (.lst [])=H6 at s6 e6;have s36:=s35.trans s6;have d6:=d.same s36;obtain⟨q1,q2⟩:=vj (K:=K) d6.fr.hf d6.fr.br;refine⟨_,.lst [],q1,⟨p6,[],rfl,SqL.of e6,rfl⟩,q2,_,rfl,?_⟩;by_cases hF0:F=[]
 ·subst hF0
  rw[if_neg (by show ¬(!eqD (.lst ([].map bD)) (.lst []))=true;decide),if_neg (by decide)];exact fin H6 s36
 ·have e0:(!eqD (.lst (F.map bD)) (.lst []))=true:=by
   cases F with
   |nil=>exact absurd rfl hF0
   |cons e F=>rfl
  rw[if_pos e0];have gd:=d6.good d6.fr d.t;have ea:alV c F=.non:=if_neg hF0;rw[ea]at gd;refine⟨_,_,g.g5,f,.non,ys,F,_,rfl,gd,fun H7 p7 a7 s7 n7 h7 r7=>?_⟩;rw[k8 r7 r]at h7;have s37:=s36.trans s7;obtain⟨t1,t2⟩:=fY (K:=K) h7;refine jJ t1 (fY (s37 _ _ h5)).1 t2 ⟨_,rfl,?_⟩;rw[if_neg (by decide)];exact fin H7 s37
theorem lw_4(g:G51 G K)(d:Dr H n f c m ys F)(hD:D.rt=Q)(q:∀H',Q (.bl true) H'):
  wpB G K E rV D [x0,some (.int c),some (.ref n),some (.ref f),none,none,none,none,none] H:=by
 have m63:=d.m63;have nd:=vB c (n:=m) (by omega);unfold rV;walk_at "wp";refine⟨f,ys,rfl,.inl (SqL.of d.fr.hf),fun h hh=>?_⟩;have s1:bP H (upd H h (.lst ys)):=bb hh;have e1:upd H h (.lst ys) h=some (.lst ys):=aM;generalize upd H h (.lst ys)=H1 at s1 e1;have d1:=d.same s1;have n1:n≠h:=bR d.hn hh;have n3:f≠h:=bR d.fr.hf hh;unfold w9;walk_at "wp";refine⟨_,_,g.g4,_,_,g.g3,r8 d1 fun H2 s2=>?_⟩;have d2:=d1.same s2;have e2:=s2 _ _ e1;refine⟨h,_,ys,F,_,rfl,d2.good ⟨e2,d2.fr.br⟩ d.t,fun H3 p a s3 np h3 r=>?_⟩;have d3:=d2.same s3;have e3:=s3 _ _ e2;have n2:n≠p:=bR d2.hn np;have n4:f≠p:=bR d2.fr.hf np;have n5:h≠p:=bR e2 np;unfold w8;walk_at "wp";refine isi (AB h3) .list ⟨_,rfl,?_⟩;rw[show tyName H3 (.ref p)="list" by show jy (H3 p)=_;rw[h3];rfl,if_neg (by decide)];refine⟨n,nms c m,rfl,SqL.of d3.hn,by rw[fv];omega,nd,fun p4 hp4=>?_⟩;rw[lZ nd r];have s4:bP H3 (upd H3 p4 (.lst (a.map V.str))):=bb hp4;have e4:upd H3 p4 (.lst (a.map V.str)) p4=some (.lst (a.map V.str)):=aM;generalize upd H3 p4 (.lst (a.map V.str))=H4 at s4 e4;obtain⟨r1,r2⟩:=fY (K:=K) (s4 _ _ h3);refine jJ r1 (fY e4).1 r2 ⟨_,rfl,?_⟩;rw[if_neg (by decide)];have d4:=d3.same s4;obtain⟨q1,q2⟩:=vj (K:=K) d4.fr.hf d4.fr.br;refine jJ (vj (s4 _ _ e3) d4.fr.br).1 q1 q2 ⟨_,rfl,?_⟩;rw[if_neg (by decide)];unfold w6;walk_at "wp";have h34:=s4 _ _ h3;refine oN (fz rfl (SqL.of h34) (lq gy (fun i σ H'=>bP H4 H'/\∃x6,σ=[x0,some (.int c),some (.ref n),some (.ref f),some (.ref h),some (.ref p),x6,none,none]) ⟨bP.refl _,_,rfl⟩ (fun i σ H' _ z=>SqL.of (z.1 _ _ h34)) ?_ ?_))
 ·rintro i x σ H5 H6 D2 hi ⟨s5,x6,rfl⟩ hx s6 hD2 _
  obtain⟨z,_,rfl⟩:=bB.mp (dJ hx);walk_at "wp";refine isi rH .str ⟨_,rfl,?_⟩;rw[show tyName H6 (.str z)="str" from rfl,if_neg (by decide)];exact hD2 _ _ ⟨s5.trans s6,_,rfl⟩
 ·rintro σ H5 ⟨s5,x6,rfl⟩
  exact lw_8 g (d4.same s5) ((s4.trans s5) _ _ e3) (s5 _ _ h34) r n1 n2 n3 n4 n5 hD q
noncomputable def zm(K:aa):Sp:=fun vs H Q _=>∃(a:Addr)(ns:List Int),vs=[.ref a]/\SqL K H a (ns.map V.int)/\ns.length<=63/\∀H',Q (.bl true) H'
theorem wp_law(g:G51 G K):Sat G K (zm K) AX Ar:=by
 rintro vs H Q E ⟨s,ns,rfl,hs,n63,q⟩;unfold AX;change wpB G K _ _ _ [some (.ref s),none,none,none,none,none,none,none,none] H;walk_at "wp";refine⟨_,_,g.g0,s,ns,0,rfl,hs,?_⟩;unfold xc;walk_at "wp";refine⟨_,_,g.g1,s,ns,_,80,rfl,by decide,hs,fun H1 n s1 n1 h1=>?_⟩;unfold xb;walk_at "wp";refine⟨_,_,g.g2,s,ns,_,80,rfl,by decide,s1.seq hs,fun H2 f ys F s2 n2 fr t=>?_⟩;exact lw_4 g ⟨s2 _ _ h1,fr,t,by omega,by omega⟩ rfl q
end
end K51
namespace Lm
open PySem PySem.Spec PySem.W PyProof.Rows L2 Q
noncomputable def BM(mg:Str->Option Value)(h:Heap):Prop:=∃bm ob,mg "__builtins__"=some (.ref bm)/\bm≠jm/\bm≠bK/\h.get? bm=some ob/\ob.cls=.type "module"/\ob.dict=some jm/\ob.data=.plain
end Lm
namespace Lm
open PySem PySem.Spec PySem.W PyProof.Rows L2 Q R
noncomputable def gE(K:aa)(tabs:List Addr)(a:Addr)(vs:List Value)(ns:List Int):Hp:=fun b=>
 if b∈tabs then some (.tbl #[])else if b=a/\K.lookup a=none then some (.frz {cls:=.type "list",data:=.seq vs.toArray} (.lst (ns.map V.int)))else none
theorem ya{P:Program}{w:World}{K:aa}{mg mb:Str->Option Value}{CX:CXT}{k:Nat}{fa a:Addr}{fd:ft}{x:Str}{sp:Sp}{s₁:Shared}{vs:List Value}{ns:List Int}{tabs:List Addr}(KX:K.In s₁.heap)
  (hns:s₁.heap.Ns bK mg)(hb:s₁.heap.Ns jm mb)(hbb:∀x:Str,x≠"__name__"->mb x=dD x)(hlim:s₁.heap.NoLimit)(hg:s₁.gens= #[])(ha:s₁.heap.get? a=some {cls:=.type "list",data:=.seq vs.toArray})
  (hi:IntsAre vs ns) (hl:ns.length<=sizeLine) (hr:ij k xi) (hT:∀p∈tabs,s₁.heap.get? p=some (tabObj #[])/\isCodeTable s₁.heap p/\K.lookup p=none)
  (F:∀base:Heap,K.In base->base.Ns bK mg->(∀b o,s₁.heap.get? b=some o->o.cls≠.none->o.cls≠.type "list"->base.get? b=some o)->gM P w K mg base CX k fa fd [x] sp)
  (hbind:∀(s:Shared)(u:Value),BindsTo s fd ⟨[u],[]⟩ [(x,u)])
  (hsp:∀H:Hp,(∀p∈tabs,H p=some (.tbl #[]))->SqL K H a (ns.map V.int)->sp [.ref a] H (fun v _=>v=.bl true) fun _ _ _=>False) (hCX:∀H e s',CX [] H s₁ (fun _ _ _=>False) e s'->False):
  gZ (model P w) xi (.call (.ref fa) ⟨[.ref a],[]⟩) (fun r s'=>r=.ok (.ret (.bool true))/\OldK s₁.heap s'.heap/\s'.os=s₁.os/\jZ s'.gens) s₁:=by
 have rv:=pZ hi;have lenV:=hi.length;have cases3:∀b,(b∈tabs/\gE K tabs a vs ns b=some (.tbl #[]))\/(b=a/\K.lookup a=none/\gE K tabs a vs ns b=some (.frz {cls:=.type "list",data:=.seq vs.toArray} (.lst (ns.map V.int))))\/gE K tabs a vs ns b=none:=fun b=>by
  unfold gE;by_cases h1:b∈tabs
  ·exact .inl ⟨h1,if_pos h1⟩
  ·rw[if_neg h1]
   by_cases h2:b=a/\K.lookup a=none
   ·exact .inr (.inl ⟨h2.1,h2.2,if_pos h2⟩)
   ·exact .inr (.inr (if_neg h2))
 have tabH:∀p∈tabs,gE K tabs a vs ns p=some (.tbl #[]):=fun p hp=>if_pos hp;have haT:a∉tabs:=fun z=>by
  have :=(hT a z).1
  rw[ha]at this;cases this
 --what is neither a table nor a list is not tracked
 have untr:∀{b:Addr}{o:Obj},s₁.heap.get? b=some o->o.cls≠.none\/(∃es ep,o.data=.dict es ep)->o.cls≠.type "list"\/(∃es ep,o.data=.dict es ep)->gE K tabs a vs ns b=none:=fun{b o} e h1 h2=>by
  rcases cases3 b with⟨q,_⟩ |⟨rfl,_⟩ |q
  ·have :=(hT b q).1
   rw[e]at this;cases this;rcases h1 with z|⟨_,_,z⟩
   ·exact absurd rfl z
   ·cases z
  ·rw[ha]at e;cases e
   rcases h2 with z|⟨_,_,z⟩
   ·exact absurd rfl z
   ·cases z
  ·exact q
 have nsK:∀{b:Addr}{m:Str->Option Value},s₁.heap.Ns b m->(ue s₁.heap (gE K tabs a vs ns)).Ns b m:=fun{b m} ⟨o,es,ep,e,d,r⟩=>⟨o,es,ep,oJ e (untr e (.inr ⟨_,_,d⟩) (.inr ⟨_,_,d⟩)),d,r⟩;have hKb:K.In (ue s₁.heap (gE K tabs a vs ns)):=fun b o e=>oJ (KX b o e) (by
  rcases cases3 b with⟨q,_⟩ |⟨rfl,z,_⟩ |q
  ·rw[(hT b q).2.2]at e;cases e
  ·rw[z]at e;cases e
  ·exact q)
 have hok:HOk P w (gE K tabs a vs ns) s₁.heap:=fun b o e=>by
  rcases cases3 b with⟨q,z⟩ |⟨rfl,_,z⟩ |z
  ·rw[z]at e;cases e
   exact(hT b q).1
  ·rw[z]at e;cases e
   exact⟨ha,by rw[ai];exact hl,vs,_,rv,ha⟩
  ·rw[z]at e;cases e
 have hS:SqL K (gE K tabs a vs ns) a (ns.map V.int):=by
  cases hk:K.lookup a with
  |none=>
   refine .inl (.inr ⟨{cls:=.type "list",data:=.seq vs.toArray},?_⟩);unfold gE;rw[if_neg haT,if_pos ⟨rfl,hk⟩]
  |some o=>
   have e:=KX a o hk;rw[ha]at e;cases e;exact .inr ⟨_,vs.toArray,_,hk,rfl,rfl,rfl,by rw[aq,lenV];exact hl,by simpa using rv⟩
 have hM:Mod K mg (ue s₁.heap (gE K tabs a vs ns)):=⟨hKb,nsK hns,⟨mb,nsK hb,hbb⟩,let⟨mc,h1,h2⟩:=hlim;⟨mc,nsK h1,h2⟩⟩;have e0:Env0 P w K mg (ue s₁.heap (gE K tabs a vs ns)) xi [] s₁ (gE K tabs a vs ns):=⟨rfl,hM,fun b o e=>of_hidT e,Nat.le_of_eq (yf _ _),trivial,fun b hb=>absurd (show b∈([]:List Addr)from hb) (by simp),hok,.of_eq hg⟩;have f0:=F _ hKb (nsK hns) fun b o e h1 h2=>oJ e (untr e (.inl h1) (.inl h2));refine iZ (f0.run xi [] s₁ (gE K tabs a vs ns) ⟨[.ref a],[]⟩ [.ref a] [.ref a] _ _ hr e0 (hbind s₁ (.ref a)) (.cons rfl .nil) (hsp _ tabH hS)) fun r s' h=>?_;cases r with
 |error e=>exact(hCX _ e s' h).elim
 |ok fl=>
  cases fl with
  |next =>exact iy h
  |brk=>exact iy h
  |cont=>exact iy h
  |ret u=>
   obtain⟨v,H',os,bare,un,hok',r',q⟩:=h;have q':v=.bl true:=q;subst q';obtain rfl:u=so true:=r';have kept:∀b o,s₁.heap.get? b=some o->b∉tabs->s'.heap.get? b=some o:=fun b o e nt=>by
    rcases cases3 b with⟨z,_⟩ |⟨rfl,_,z⟩ |z
    ·exact absurd z nt
    ·have z2:=un.frzs b _ _ z
     obtain⟨e2,_⟩:=hok' b _ z2;rw[ha]at e;cases e;exact e2
    ·exact un.keep b o e z (by intro z;exact absurd (show b∈([]:List Addr)from z) (by simp)) (by simp)
   have grown:∀b∈tabs,∃more,s'.heap.get? b=some (tabObj (#[]++more)):=fun b hb=>by
    obtain⟨more,z⟩:=un.tbls b _ (tabH b hb);exact⟨more,hok' b _ z⟩
   refine⟨rfl,⟨fun b o e=>?_,fun b o e=>?_⟩,os,bare⟩
   ·by_cases hb:b∈tabs
    ·obtain⟨e1,ct,_⟩:=hT b hb
     rw[e]at e1;cases e1;obtain⟨more,z⟩:=grown b hb;exact .inr (.inl ⟨ct,rfl,#[],more,rfl,z⟩)
    ·exact .inl (kept b o e hb)
   ·by_cases hb:b∈tabs
    ·obtain⟨more,z⟩:=grown b hb
     exact⟨_,z⟩
    ·exact⟨o,kept b o e hb⟩
theorem bm_of{mg:Str->Option Value}{h:Heap}(hg:h.Ns bK mg)(hb:∃bm ob,mg "__builtins__"=some (.ref bm)/\bm≠jm/\h.get? bm=some ob/\ob.cls=.type "module"/\ob.dict=some jm/\ob.data=.plain):BM mg h:=by
 obtain⟨bm,ob,b1,b2,b3,b4,b5,b6⟩:=hb;refine⟨bm,ob,b1,b2,fun q=>?_,b3,b4,b5,b6⟩;obtain⟨o,es,ep,e,hd,_⟩:=hg;rw[q,e]at b3;cases b3;rw[hd]at b6;cases b6
theorem yT{l:PySem.W.OpenLaw}{n k:Nat}{q:Program}{loose:List Str}{XP:(Str->Option Value)->Heap->Prop}{YP:World->Heap->Prop}{d:DefRec}{K:Params->aa}{CX:CXT}{sp:aa->Sp}{x:Str}{tabs:List Addr}
  (hn:l.most=some n)(hn2:n<=sizeLine)(hdf:d.params.defaults=[])(hr:ij k xi)(hY:∀(w:World)(h:Heap),YP w h->(K w.params).In h)
  (hT:∀(w:World)(s₀:Shared)(mg mb:Str->Option Value)(h:Heap),Ground q loose [] XP w s₀ mg mb h->YP w h->∀p∈tabs,h.get? p=some (tabObj #[])/\isCodeTable h p/\(K w.params).lookup p=none)
  (F:∀(w:World)(mg:Str->Option Value)(fa:Addr)(h:Heap),(K w.params).In h->h.Ns bK mg->mg d.name=some (.ref fa)->
   ∃fd:ft,(∀(s:Shared)(u:Value),BindsTo s fd ⟨[u],[]⟩ [(x,u)])/\
    ∀base:Heap,(K w.params).In base->base.Ns bK mg->BM mg base->gM l.prog w (K w.params) mg base CX k fa fd [x] (sp (K w.params)))
  (hsp:∀(K:aa)(H:Hp)(a:Addr)(ns:List Int),ns.length<=n->(∀p∈tabs,H p=some (.tbl #[]))->SqL K H a (ns.map V.int)->sp K [.ref a] H (fun v _=>v=.bl true) fun _ _ _=>False)
  (hCX:∀(H:Hp)(s:Shared)(e:Value)(s':Shared),CX [] H s (fun _ _ _=>False) e s'->False):
  PySem.W.WalkO q loose XP YP l.row.toRowW d [] (fun f vs=>PySem.call f vs):=by
 refine Att.uC hn hdf fun w s₀ s₁ mg mb fa o pm cd doc a vs ns G Y ho hd hcd hmg hobj hints hlen hg=>?_;have KX:=hY w _ Y;obtain⟨fd,hb,hF⟩:=F w mg fa _ KX G.T.g hmg;have hbm:=bm_of G.T.g G.T.bmain;refine ya KX G.T.g G.T.b G.T.builtins G.T.nolimit hg hobj hints (aQ hlen hn2) hr (hT w s₀ mg mb _ G Y) (fun base k1 k2 k3=>hF base k1 k2 ?_) hb (fun H t S=>hsp _ H a ns hlen t S) fun H e s'=>hCX H s₁ e s';obtain⟨bm,ob,b1,b2,b0,b3,b4,b5,b6⟩:=hbm;exact⟨bm,ob,b1,b2,b0,k3 bm ob b3 (by rw[b4];nofun) (by rw[b4];decide),b4,b5,b6⟩
end Lm
set_option maxHeartbeats 0
namespace K51
open PySem PySem.Spec PySem.Calls PyProof.Rows L2 R Cp Lt Lm
noncomputable def ug(P:PySem.Params):aa:=
 (nat_lit 2,⟨.none,none,(.dict #[] 0),#[]⟩)::
 (nat_lit 3,⟨.type "dict",none,(.dict #[⟨aC P "__name__",.str "__name__" 165,.str "law_copykin_k51_frames" 300⟩,⟨aC P "__doc__",.str "__doc__" 166,.none⟩,⟨aC P "__package__",.str "__package__" 167,.none⟩,⟨aC P "__loader__",.str "__loader__" 168,.builtin "__main__.__loader__#opaque"⟩,⟨aC P "__spec__",.str "__spec__" 169,.none⟩,⟨aC P "__annotations__",.str "__annotations__" 170,.ref 6⟩,⟨aC P "__builtins__",.str "__builtins__" 171,.ref 4⟩,⟨aC P "__file__",.str "__file__" 173,.str "/claim/cut.py" 172⟩,⟨aC P "__cached__",.str "__cached__" 174,.none⟩,⟨aC P "KinError",.str "KinError" 206,.ref 24⟩,⟨aC P "NoFrame",.str "NoFrame" 222,.ref 37⟩,⟨aC P "LETTERS",.str "LETTERS" 226,.str "abcdefghijklmnopqrstuvwxyz" 225⟩,⟨aC P "LONGEST_NAME",.str "LONGEST_NAME" 228,.int 8 227⟩,⟨aC P "is_name",.str "is_name" 234,.ref 44⟩,⟨aC P "neighbours",.str "neighbours" 248,.ref 51⟩,⟨aC P "reached",.str "reached" 260,.ref 58⟩,⟨aC P "leads_one_way",.str "leads_one_way" 268,.ref 65⟩,⟨aC P "MOST_BRANCHES",.str "MOST_BRANCHES" 272,.int 80 271⟩,⟨aC P "is_pair",.str "is_pair" 279,.ref 72⟩,⟨aC P "names_of",.str "names_of" 285,.ref 77⟩,⟨aC P "is_frame",.str "is_frame" 291,.ref 82⟩,⟨aC P "frame_list",.str "frame_list" 299,.ref 90⟩,⟨aC P "_law_cell_at",.str "_law_cell_at" 309,.ref 97⟩,⟨aC P "_law_drawn",.str "_law_drawn" 317,.ref 104⟩,⟨aC P "_law_name",.str "_law_name" 328,.ref 111⟩,⟨aC P "_law_above",.str "_law_above" 337,.ref 118⟩,⟨aC P "_law_frame",.str "_law_frame" 351,.ref 125⟩,⟨aC P "_law_names",.str "_law_names" 357,.ref 130⟩,⟨aC P "_law_alone",.str "_law_alone" 365,.ref 137⟩,⟨aC P "law",.str "law" 371,.ref 142⟩] 30),#[]⟩)::
 (nat_lit 6,⟨.type "dict",none,(.dict #[] 0),#[]⟩)::
 (nat_lit 23,⟨.type "dict",none,(.dict #[⟨aC P "__module__",.str "__module__" 196,.str "copykin.errors" 187⟩,⟨aC P "__firstlineno__",.str "__firstlineno__" 200,.int 2 199⟩,⟨aC P "__static_attributes__",.str "__static_attributes__" 201,.ref 22⟩,⟨aC P "__weakref__",.str "__weakref__" 203,.ref 25⟩,⟨aC P "__doc__",.str "__doc__" 204,.none⟩] 3),#[]⟩)::
 (nat_lit 24,⟨.type "type",none,(.cls {name:="KinError",bases:=[.type "ValueError"],mro:=[.ref 24,.type "ValueError",.type "Exception",.type "BaseException",.type "object"],ns:=23,qualname:="KinError",hasDict:=true,slotNames:=[],subclasses:=[.ref 37],abstract:=false,collection:=none,hasDel:=false}),#[(some (.ref 15)),none,(some (.str "KinError" 189)),(some (.str "KinError" 197)),(some (.builtin "ValueError.__new__")),(some (.bool true))]⟩)::
 (nat_lit 36,⟨.type "dict",none,(.dict #[⟨aC P "__module__",.str "__module__" 214,.str "copykin.errors" 187⟩,⟨aC P "__firstlineno__",.str "__firstlineno__" 218,.int 4 217⟩,⟨aC P "__static_attributes__",.str "__static_attributes__" 219,.ref 35⟩,⟨aC P "__doc__",.str "__doc__" 220,.none⟩] 2),#[]⟩)::
 (nat_lit 37,⟨.type "type",none,(.cls {name:="NoFrame",bases:=[.ref 24],mro:=[.ref 37,.ref 24,.type "ValueError",.type "Exception",.type "BaseException",.type "object"],ns:=36,qualname:="NoFrame",hasDict:=true,slotNames:=[],subclasses:=[],abstract:=false,collection:=none,hasDel:=false}),#[(some (.ref 28)),none,(some (.str "NoFrame" 207)),(some (.str "NoFrame" 215)),(some (.builtin "ValueError.__new__")),(some (.bool true))]⟩)::
 (nat_lit 43,⟨.type "code",none,(.fields #[.str "is_name" 229,.str "is_name" 230,.str "/claim/cut.py" 231,.int 9 0,.int 1 0,.int 0 0,.int 0 0,.int 3 0,.ref 40,.bool true,.int 181 0,.ref 41,.none,.none,.none,.ref 42,.int 232 0,.int 9 0,.str "/claim/cut.py" 233]),#[]⟩)::
 (nat_lit 44,⟨.type "function",none,(.func (aL "is_name" "is_name" (bX (top 6)) (bI (top 6)) (aU (top 6)) .none .none .none (.str "copykin.tables" 223) none (.ref 43) .none)),#[]⟩)::
 (nat_lit 50,⟨.type "code",none,(.fields #[.str "neighbours" 237,.str "neighbours" 238,.str "/claim/cut.py" 239,.int 16 0,.int 2 0,.int 0 0,.int 0 0,.int 3 0,.ref 45,.bool true,.int 181 0,.ref 46,.none,.ref 47,.ref 48,.ref 49,.int 246 0,.int 16 0,.str "/claim/cut.py" 247]),#[]⟩)::
 (nat_lit 51,⟨.type "function",none,(.func (aL "neighbours" "neighbours" (bX (top 8)) (bI (top 8)) (aU (top 8)) .none .none .none (.str "copykin.ways" 235) none (.ref 50) .none)),#[]⟩)::
 (nat_lit 57,⟨.type "code",none,(.fields #[.str "reached" 249,.str "reached" 250,.str "/claim/cut.py" 251,.int 24 0,.int 1 0,.int 0 0,.int 0 0,.int 3 0,.ref 52,.bool true,.int 181 0,.ref 53,.none,.ref 54,.ref 55,.ref 56,.int 258 0,.int 24 0,.str "/claim/cut.py" 259]),#[]⟩)::
 (nat_lit 58,⟨.type "function",none,(.func (aL "reached" "reached" (bX (top 9)) (bI (top 9)) (aU (top 9)) .none .none .none (.str "copykin.ways" 235) none (.ref 57) .none)),#[]⟩)::
 (nat_lit 64,⟨.type "code",none,(.fields #[.str "leads_one_way" 261,.str "leads_one_way" 262,.str "/claim/cut.py" 263,.int 35 0,.int 2 0,.int 0 0,.int 0 0,.int 3 0,.ref 59,.bool true,.int 181 0,.ref 60,.none,.ref 61,.ref 62,.ref 63,.int 266 0,.int 35 0,.str "/claim/cut.py" 267]),#[]⟩)::
 (nat_lit 65,⟨.type "function",none,(.func (aL "leads_one_way" "leads_one_way" (bX (top 10)) (bI (top 10)) (aU (top 10)) .none .none .none (.str "copykin.ways" 235) none (.ref 64) .none)),#[]⟩)::
 (nat_lit 71,⟨.type "code",none,(.fields #[.str "is_pair" 273,.str "is_pair" 274,.str "/claim/cut.py" 275,.int 41 0,.int 1 0,.int 0 0,.int 0 0,.int 3 0,.ref 66,.bool true,.int 181 0,.ref 67,.none,.ref 68,.ref 69,.ref 70,.int 277 0,.int 41 0,.str "/claim/cut.py" 278]),#[]⟩)::
 (nat_lit 72,⟨.type "function",none,(.func (aL "is_pair" "is_pair" (bX (top 13)) (bI (top 13)) (aU (top 13)) .none .none .none (.str "copykin.frames" 269) none (.ref 71) .none)),#[]⟩)::
 (nat_lit 76,⟨.type "code",none,(.fields #[.str "names_of" 280,.str "names_of" 281,.str "/claim/cut.py" 282,.int 45 0,.int 1 0,.int 0 0,.int 0 0,.int 3 0,.ref 73,.bool true,.int 181 0,.ref 74,.none,.none,.none,.ref 75,.int 283 0,.int 45 0,.str "/claim/cut.py" 284]),#[]⟩)::
 (nat_lit 77,⟨.type "function",none,(.func (aL "names_of" "names_of" (bX (top 14)) (bI (top 14)) (aU (top 14)) .none .none .none (.str "copykin.frames" 269) none (.ref 76) .none)),#[]⟩)::
 (nat_lit 81,⟨.type "code",none,(.fields #[.str "is_frame" 286,.str "is_frame" 287,.str "/claim/cut.py" 288,.int 47 0,.int 2 0,.int 0 0,.int 0 0,.int 3 0,.ref 78,.bool true,.int 181 0,.ref 79,.none,.none,.none,.ref 80,.int 289 0,.int 47 0,.str "/claim/cut.py" 290]),#[]⟩)::
 (nat_lit 82,⟨.type "function",none,(.func (aL "is_frame" "is_frame" (bX (top 15)) (bI (top 15)) (aU (top 15)) .none .none .none (.str "copykin.frames" 269) none (.ref 81) .none)),#[]⟩)::
 (nat_lit 83,⟨.type "tuple",none,(.seq #[.none] 0),#[]⟩)::
 (nat_lit 89,⟨.type "code",none,(.fields #[.str "frame_list" 292,.str "frame_list" 293,.str "/claim/cut.py" 294,.int 55 0,.int 2 0,.int 0 0,.int 0 0,.int 3 0,.ref 84,.bool true,.int 181 0,.ref 85,.none,.ref 86,.ref 87,.ref 88,.int 297 0,.int 55 0,.str "/claim/cut.py" 298]),#[]⟩)::
 (nat_lit 90,⟨.type "function",none,(.func (aL "frame_list" "frame_list" (bX (top 16)) (bI (top 16)) (aU (top 16)) (.ref 83) .none .none (.str "copykin.frames" 269) none (.ref 89) .none)),#[]⟩)::
 (nat_lit 96,⟨.type "code",none,(.fields #[.str "_law_cell_at" 302,.str "_law_cell_at" 303,.str "/claim/cut.py" 304,.int 60 0,.int 2 0,.int 0 0,.int 0 0,.int 3 0,.ref 91,.bool true,.int 181 0,.ref 92,.none,.ref 93,.ref 94,.ref 95,.int 307 0,.int 60 0,.str "/claim/cut.py" 308]),#[]⟩)::
 (nat_lit 97,⟨.type "function",none,(.func (aL "_law_cell_at" "_law_cell_at" (bX (top 18)) (bI (top 18)) (aU (top 18)) .none .none .none (.str "law_copykin_k51_frames" 300) none (.ref 96) .none)),#[]⟩)::
 (nat_lit 103,⟨.type "code",none,(.fields #[.str "_law_drawn" 310,.str "_law_drawn" 311,.str "/claim/cut.py" 312,.int 64 0,.int 2 0,.int 0 0,.int 0 0,.int 3 0,.ref 98,.bool true,.int 181 0,.ref 99,.none,.ref 100,.ref 101,.ref 102,.int 315 0,.int 64 0,.str "/claim/cut.py" 316]),#[]⟩)::
 (nat_lit 104,⟨.type "function",none,(.func (aL "_law_drawn" "_law_drawn" (bX (top 19)) (bI (top 19)) (aU (top 19)) .none .none .none (.str "law_copykin_k51_frames" 300) none (.ref 103) .none)),#[]⟩)::
 (nat_lit 110,⟨.type "code",none,(.fields #[.str "_law_name" 318,.str "_law_name" 319,.str "/claim/cut.py" 320,.int 68 0,.int 2 0,.int 0 0,.int 0 0,.int 3 0,.ref 105,.bool true,.int 181 0,.ref 106,.none,.ref 107,.ref 108,.ref 109,.int 326 0,.int 68 0,.str "/claim/cut.py" 327]),#[]⟩)::
 (nat_lit 111,⟨.type "function",none,(.func (aL "_law_name" "_law_name" (bX (top 20)) (bI (top 20)) (aU (top 20)) .none .none .none (.str "law_copykin_k51_frames" 300) none (.ref 110) .none)),#[]⟩)::
 (nat_lit 117,⟨.type "code",none,(.fields #[.str "_law_above" 329,.str "_law_above" 330,.str "/claim/cut.py" 331,.int 73 0,.int 3 0,.int 0 0,.int 0 0,.int 3 0,.ref 112,.bool true,.int 181 0,.ref 113,.none,.ref 114,.ref 115,.ref 116,.int 335 0,.int 73 0,.str "/claim/cut.py" 336]),#[]⟩)::
 (nat_lit 118,⟨.type "function",none,(.func (aL "_law_above" "_law_above" (bX (top 21)) (bI (top 21)) (aU (top 21)) .none .none .none (.str "law_copykin_k51_frames" 300) none (.ref 117) .none)),#[]⟩)::
 (nat_lit 124,⟨.type "code",none,(.fields #[.str "_law_frame" 338,.str "_law_frame" 339,.str "/claim/cut.py" 340,.int 79 0,.int 3 0,.int 0 0,.int 0 0,.int 3 0,.ref 119,.bool true,.int 181 0,.ref 120,.none,.ref 121,.ref 122,.ref 123,.int 349 0,.int 79 0,.str "/claim/cut.py" 350]),#[]⟩)::
 (nat_lit 125,⟨.type "function",none,(.func (aL "_law_frame" "_law_frame" (bX (top 22)) (bI (top 22)) (aU (top 22)) .none .none .none (.str "law_copykin_k51_frames" 300) none (.ref 124) .none)),#[]⟩)::
 (nat_lit 129,⟨.type "code",none,(.fields #[.str "_law_names" 352,.str "_law_names" 353,.str "/claim/cut.py" 354,.int 89 0,.int 3 0,.int 0 0,.int 0 0,.int 3 0,.ref 126,.bool true,.int 181 0,.ref 127,.none,.none,.none,.ref 128,.int 355 0,.int 89 0,.str "/claim/cut.py" 356]),#[]⟩)::
 (nat_lit 130,⟨.type "function",none,(.func (aL "_law_names" "_law_names" (bX (top 23)) (bI (top 23)) (aU (top 23)) .none .none .none (.str "law_copykin_k51_frames" 300) none (.ref 129) .none)),#[]⟩)::
 (nat_lit 136,⟨.type "code",none,(.fields #[.str "_law_alone" 358,.str "_law_alone" 359,.str "/claim/cut.py" 360,.int 91 0,.int 2 0,.int 0 0,.int 0 0,.int 3 0,.ref 131,.bool true,.int 181 0,.ref 132,.none,.ref 133,.ref 134,.ref 135,.int 363 0,.int 91 0,.str "/claim/cut.py" 364]),#[]⟩)::
 (nat_lit 137,⟨.type "function",none,(.func (aL "_law_alone" "_law_alone" (bX (top 24)) (bI (top 24)) (aU (top 24)) .none .none .none (.str "law_copykin_k51_frames" 300) none (.ref 136) .none)),#[]⟩)::
 (nat_lit 141,⟨.type "code",none,(.fields #[.str "law" 366,.str "law" 367,.str "/claim/cut.py" 368,.int 95 0,.int 1 0,.int 0 0,.int 0 0,.int 3 0,.ref 138,.bool true,.int 181 0,.ref 139,.none,.none,.none,.ref 140,.int 369 0,.int 95 0,.str "/claim/cut.py" 370]),#[]⟩)::
 (nat_lit 142,⟨.type "function",none,(.func (aL "law" "law" (bX (top 25)) (bI (top 25)) (aU (top 25)) .none .none .none (.str "law_copykin_k51_frames" 300) none (.ref 141) .none)),#[]⟩)::[]
noncomputable def uh:List Addr:=[2,3,6,23,24,36,37,43,44,50,51,57,58,64,65,71,72,76,77,81,82,83,89,90,96,97,103,104,110,111,117,118,124,125,129,130,136,137,141,142]
noncomputable def lhsB(w:World):=(Be treeTable PySem.Challenge.pw_copykin_k51_frames w 2024).map (uX (gN K51.ug K51.uh (fun _=>by kernel_rfl) []))
noncomputable def rhsB(w:World):=some (uW (gN K51.ug K51.uh (fun _=>by kernel_rfl) []) w)
theorem laidB:(seen lhsB&&seen rhsB)=true:=by k_qdec
theorem leftB(w:World):lhsB w=rhsB w:=by
 have _:=laidB;rw[PySem.W.Fast.te7757669820081875034,PySem.W.Fast.te18119490725531522272]
 kernel_rfl
noncomputable def r9(K:aa)(x:Str)(st:Stmt)(T:Addr):Prop:=∃(f:Addr)(oc:Value)(od an od':Option Addr)(osl sl:Array (Option Value))(kV doc pm cdv ct:Value)(m:Nat),eQ K bK x=some (some (.ref f))/\
 K.lookup f=some ⟨oc,od,.func (aL x x (bX st) (bI st) (aU st) (.ref T) kV doc pm an cdv ct),osl⟩/\dO K cdv x=true/\bZ K (.ref f)=true/\K.lookup T=some ⟨.type "tuple",od',.seq #[.none] m,sl⟩
theorem yg{K:aa}{x:Str}{st:Stmt}{f T:Addr}{oc:Value}{od an od':Option Addr}{osl sl:Array (Option Value)}{kV doc pm cdv ct:Value}{m:Nat}(a:eQ K bK x=some (some (.ref f)))
  (l:K.lookup f=some ⟨oc,od,.func (aL x x (bX st) (bI st) (aU st) (.ref T) kV doc pm an cdv ct),osl⟩)(c:dO K cdv x=true)(k:bZ K (.ref f)=true)(t:K.lookup T=some ⟨.type "tuple",od',.seq #[.none] m,sl⟩):r9 K x st T:=
 ⟨f,oc,od,an,od',osl,sl,kV,doc,pm,cdv,ct,m,a,l,c,k,t⟩
theorem add_fnD{P:Program}{w:World}{K:aa}{mg:Str->Option Value}{base h:Heap}{k:Nat}{vals:List (Str×V)}{fns:List ((Str×Nat)×(Sp×List V))}{x:Str}{st:Stmt}{T:Addr}{N ps:List Str}{sp:Sp}{code:CB}(g:GOk P w K mg base (CXx P w) k (gam vals fns))(X:K.In h)(Gm:h.Ns bK mg)(d:r9 K x st T)
  (hc:(mH N ps (aU st)&&nu (aU st) N code (bI st))=true)
  (hb:∀(kV doc pm:Value)(an:Option Addr)(cdv ct:Value)(od':Option Addr)(sl:Array (Option Value))(m:Nat),K.lookup T=some ⟨.type "tuple",od',.seq #[.none] m,sl⟩->Binds K (aL x x (bX st) (bI st) (aU st) (.ref T) kV doc pm an cdv ct) ps [])
  (len:∀vs H Q E,sp vs H Q E->vs.length=ps.length)
  (hw:∀vs H Q E,sp vs H Q E->wpB (gam vals fns) K (fun _=>E) code {nx:=fun _ H'=>Q .non H',rt:=Q} (L2.start N vs) H):GOk P w K mg base (CXx P w) (k+1) (gam vals (((x,ps.length),(sp,[]))::fns)):=by
 rw[aK]at hc;obtain⟨f,oc,od,an,od',osl,sl,kV,doc,pm,cdv,ct,m,a,l,c,kp,t⟩:=d;exact g.add (n:=ps.length) (oO l c hc.1 hc.2 g len hw) (eZ X Gm a) kp (hb _ _ _ _ _ _ _ _ _ t) .nil
theorem add_fnE{P:Program}{w:World}{K:aa}{mg:Str->Option Value}{base h:Heap}{k:Nat}{vals:List (Str×V)}{fns:List ((Str×Nat)×(Sp×List V))}{x:Str}{st:Stmt}{T:Addr}{N ps:List Str}{sp:Sp}{code:CB}(g:GOk P w K mg base (CXx P w) k (gam vals fns))(X:K.In h)(Gm:h.Ns bK mg)(d:r9 K x st T)
  (hc:(mH N ps (aU st)&&nu (aU st) N code (bI st))=true)
  (hb:∀(kV doc pm:Value)(an:Option Addr)(cdv ct:Value)(od':Option Addr)(sl:Array (Option Value))(m:Nat),K.lookup T=some ⟨.type "tuple",od',.seq #[.none] m,sl⟩->Binds K (aL x x (bX st) (bI st) (aU st) (.ref T) kV doc pm an cdv ct) ps [.none])
  (len:∀vs H Q E,sp vs H Q E->vs.length=ps.length)
  (hw:∀vs H Q E,sp vs H Q E->wpB (gam vals fns) K (fun _=>E) code {nx:=fun _ H'=>Q .non H',rt:=Q} (L2.start N vs) H):GOk P w K mg base (CXx P w) (k+1) (gam vals (((x,1),(sp,[.non]))::fns)):=by
 rw[aK]at hc;obtain⟨f,oc,od,an,od',osl,sl,kV,doc,pm,cdv,ct,m,a,l,c,kp,t⟩:=d;exact g.add (n:=1) (oO l c hc.1 hc.2 g len hw) (eZ X Gm a) kp (hb _ _ _ _ _ _ _ _ _ t) (.cons rfl .nil)
noncomputable def vals:List (Str×V):=[("LETTERS",.str LETTERS),("LONGEST_NAME",.int 8),("MOST_BRANCHES",.int 80)]
theorem all_mk{P:Program}{w:World}{K:aa}{h:Heap}{mg:Str->Option Value}{fa:Addr}(X:K.In h)(Gm:h.Ns bK mg)(hfa:mg "law"=some (.ref fa)){t1 t2 t3:Tok}
  (v1:eQ K bK "LETTERS"=some (some (.str LETTERS t1)))(v2:eQ K bK "LONGEST_NAME"=some (some (.int 8 t2)))(v3:eQ K bK "MOST_BRANCHES"=some (some (.int 80 t3)))
  (bl:∀x∈fR,eQ K bK x=some none)(h6:HasFn K "is_name" (top 6))(h8:HasFn K "neighbours" (top 8))(h9:HasFn K "reached" (top 9))(h10:HasFn K "leads_one_way" (top 10))(h13:HasFn K "is_pair" (top 13))(h14:HasFn K "names_of" (top 14))(h15:HasFn K "is_frame" (top 15))(h16:r9 K "frame_list" (top 16) 83)(h18:HasFn K "_law_cell_at" (top 18))(h19:HasFn K "_law_drawn" (top 19))(h20:HasFn K "_law_name" (top 20))(h21:HasFn K "_law_above" (top 21))(h22:HasFn K "_law_frame" (top 22))(h23:HasFn K "_law_names" (top 23))(h24:HasFn K "_law_alone" (top 24))(h25:HasFn K "law" (top 25)):
  ∃fd:ft,(∀(s:Shared)(v:Value),BindsTo s fd ⟨[v],[]⟩ [("_law_script",v)])/\∀base:Heap,K.In base->base.Ns bK mg->BM mg base->gM P w K mg base CX0 17 fa fd ["_law_script"] (fun vs H Q _=>K51.zm K vs H Q E0):=by
 obtain⟨f,oc',od,an,osl,kV,doc,pm,cdv,ct,a,l,c,k⟩:=id h25;have e:=hfa.symm.trans (eZ X Gm a);cases e;refine⟨aL "law" "law" (bX (top 25)) (bI (top 25)) (aU (top 25)) .none kV doc pm an cdv ct,fun s v=>.of_eq rfl,fun base Xb _ bm=>?_⟩;have hv:∀x v,(x,v)∈vals->∃u,mg x=some u/\RelV v u:=by
  intro x v hm;simp only[vals,aD,bE,or_false,Prod.mk.injEq]at hm;rcases hm with⟨rfl,rfl⟩ |⟨rfl,rfl⟩ |⟨rfl,rfl⟩
  ·exact⟨_,eZ X Gm v1,t1,rfl⟩
  ·exact⟨_,eZ X Gm v2,t2,rfl⟩
  ·exact⟨_,eZ X Gm v3,t3,rfl⟩
 have g0:GOk P w K mg base (CXx P w) 0 (gam vals []):=GOk.start hv fun x hx=>PySem.W.mg_none_of X Gm (bl x hx);have g1:=fA (N:=Cp.qj) (ps:=Cp.xS) g0 (h6.def X Gm) (by decide+kernel) (fun _ _ _ _ _ _ us hl=>by obtain⟨_,rfl⟩:=Kc.l7 hl;rfl) (sp:=spN) (fun vs H Q E h=>Kc.cw h fun _ h=>Kc.hO h rfl) (u6 (by kernel_rfl) (by kernel_rfl));have g2:=fA (N:=F5.lg) (ps:=F5.rj) g1 (h8.def X Gm) (by decide+kernel) (fun _ _ _ _ _ _ us hl=>by obtain⟨_,_,rfl⟩:=Kc.iS hl;rfl) (sp:=F5.spNb) (fun vs H Q E h=>Kc.cw h fun _ h=>Kc.cw h fun _ h=>Kc.cw h fun _ h=>Kc.cw h fun _ h=>Kc.cw h fun _ h=>Kc.hO h rfl) F5.wp_nb;have g3:=fA (N:=F5.qh) (ps:=F5.xQ) g2 (h9.def X Gm) (by decide+kernel) (fun _ _ _ _ _ _ us hl=>by obtain⟨_,rfl⟩:=Kc.l7 hl;rfl) (sp:=F5.spRe) (fun vs H Q E h=>Kc.cw h fun _ h=>Kc.cw h fun _ h=>Kc.cw h fun _ h=>Kc.hO h rfl) F5.wp_re;have g4:=fA (N:=F5.i8) (ps:=F5.nj) g3 (h10.def X Gm) (by decide+kernel) (fun _ _ _ _ _ _ us hl=>by obtain⟨_,_,rfl⟩:=Kc.iS hl;rfl) (sp:=F5.spLw) (fun vs H Q E h=>Kc.cw h fun _ h=>Kc.cw h fun _ h=>Kc.cw h fun _ h=>Kc.cw h fun _ h=>Kc.cw h fun _ h=>Kc.hO h rfl) (F5.wp_lw (by kernel_rfl));have g5:=fA (N:=F5.qi) (ps:=F5.xR) g4 (h13.def X Gm) (by decide+kernel) (fun _ _ _ _ _ _ us hl=>by obtain⟨_,rfl⟩:=Kc.l7 hl;rfl) (sp:=F5.spPr) (fun vs H Q E h=>Kc.cw h fun _ h=>Kc.cw h fun _ h=>Kc.cw h fun _ h=>Kc.hO h rfl) (F5.wp_pair (by kernel_rfl));have g6:=fA (N:=F5.ox) (ps:=F5.vt) g5 (h14.def X Gm) (by decide+kernel) (fun _ _ _ _ _ _ us hl=>by obtain⟨_,rfl⟩:=Kc.l7 hl;rfl) (sp:=F5.spNo) (fun vs H Q E h=>Kc.cw h fun _ h=>Kc.cw h fun _ h=>Kc.cw h fun _ h=>Kc.cw h fun _ h=>Kc.hO h rfl) F5.wp_no;have g7:=fA (N:=F5.oz) (ps:=F5.vx) g6 (h15.def X Gm) (by decide+kernel) (fun _ _ _ _ _ _ us hl=>by obtain⟨_,_,rfl⟩:=Kc.iS hl;rfl) (sp:=F5.spIf) (fun vs H Q E h=>Kc.cw h fun _ h=>Kc.cw h fun _ h=>Kc.cw h fun _ h=>Kc.cw h fun _ h=>Kc.cw h fun _ h=>Kc.hO h rfl) (F5.wp_if (by kernel_rfl) (by kernel_rfl) (by kernel_rfl) (by kernel_rfl) (by kernel_rfl) (by kernel_rfl));have g8:=add_fnD (N:=F5.iU) (ps:=F5.k9) g7 X Gm h16 (by decide+kernel) (fun _ _ _ _ _ _ _ _ _ t s us X hl=>by rw[kg]at hl⊢;obtain⟨_,_,rfl⟩:=Kc.iS hl;exact PySem.W.binds_K X rfl t rfl rfl rfl) (sp:=F5.zo) (fun vs H Q E h=>Kc.cw h fun _ h=>Kc.cw h fun _ h=>Kc.cw h fun _ h=>Kc.cw h fun _ h=>Kc.cw h fun _ h=>Kc.hO h rfl) (F5.wp_fl (by kernel_rfl) (by kernel_rfl));have g9:=add_fnE (N:=F5.iU) (ps:=F5.k9) g8 X Gm h16 (by decide+kernel) (fun _ _ _ _ _ _ _ _ _ t s us X hl=>by rw[aj]at hl;obtain⟨_,rfl⟩:=Kc.l7 (gw hl);exact PySem.W.binds_K X rfl t rfl rfl rfl) (sp:=F5.zo) (fun vs H Q E h=>Kc.cw h fun _ h=>Kc.cw h fun _ h=>Kc.cw h fun _ h=>Kc.cw h fun _ h=>Kc.cw h fun _ h=>Kc.hO h rfl) (F5.wp_fl (by kernel_rfl) (by kernel_rfl));have g10:=fA (N:=Lt.kn) (ps:=Lt.pI) g9 (h18.def X Gm) (by decide+kernel) (fun _ _ _ _ _ _ us hl=>by obtain⟨_,_,rfl⟩:=Kc.iS hl;rfl) (sp:=Lt.vf K) (fun vs H Q E h=>Kc.cw h fun _ h=>Kc.cw h fun _ h=>Kc.cw h fun _ h=>Kc.hO h rfl) Lt.wp_cell;have g11:=fA (N:=F5.mM) (ps:=F5.tO) g10 (h19.def X Gm) (by decide+kernel) (fun _ _ _ _ _ _ us hl=>by obtain⟨_,_,rfl⟩:=Kc.iS hl;rfl) (sp:=F5.spDr K) (fun vs H Q E h=>Kc.cw h fun _ h=>Kc.cw h fun _ h=>Kc.cw h fun _ h=>Kc.hO h rfl) F5.wp_dr;have g12:=fA (N:=F5.oy) (ps:=F5.vv) g11 (h20.def X Gm) (by decide+kernel) (fun _ _ _ _ _ _ us hl=>by obtain⟨_,_,rfl⟩:=Kc.iS hl;rfl) (sp:=F5.zl) (fun vs H Q E h=>Kc.cw h fun _ h=>Kc.cw h fun _ h=>Kc.hO h rfl) F5.wp_nm;have g13:=fA (N:=F5.mP) (ps:=F5.tQ) g12 (h21.def X Gm) (by decide+kernel) (fun _ _ _ _ _ _ us hl=>by obtain⟨_,_,_,rfl⟩:=Kc.nV hl;rfl) (sp:=F5.spAb) (fun vs H Q E h=>Kc.cw h fun _ h=>Kc.cw h fun _ h=>Kc.cw h fun _ h=>Kc.hO h rfl) F5.wp_ab;have g14:=fA (N:=F5.mK) (ps:=F5.tN) g13 (h22.def X Gm) (by decide+kernel) (fun _ _ _ _ _ _ us hl=>by obtain⟨_,_,_,rfl⟩:=Kc.nV hl;rfl) (sp:=F5.spFr K) (fun vs H Q E h=>Kc.cw h fun _ h=>Kc.cw h fun _ h=>Kc.cw h fun _ h=>Kc.cw h fun _ h=>Kc.hO h rfl) (F5.wp_fr (by kernel_rfl) (by kernel_rfl) (by kernel_rfl));have g15:=fA (N:=F5.mJ) (ps:=F5.tM) g14 (h23.def X Gm) (by decide+kernel) (fun _ _ _ _ _ _ us hl=>by obtain⟨_,_,_,rfl⟩:=Kc.nV hl;rfl) (sp:=F5.spNs K) (fun vs H Q E h=>Kc.cw h fun _ h=>Kc.cw h fun _ h=>Kc.cw h fun _ h=>Kc.cw h fun _ h=>Kc.hO h rfl) (F5.wp_ns (by kernel_rfl));have g16:=fA (N:=F5.mO) (ps:=F5.tP) g15 (h24.def X Gm) (by decide+kernel) (fun _ _ _ _ _ _ us hl=>by obtain⟨_,_,rfl⟩:=Kc.iS hl;rfl) (sp:=F5.spAl) (fun vs H Q E h=>Kc.cw h fun _ h=>Kc.cw h fun _ h=>Kc.cw h fun _ h=>Kc.cw h fun _ h=>Kc.cw h fun _ h=>Kc.cw h fun _ h=>Kc.hO h rfl) F5.wp_al;have hk:(mH K51.Ar K51.p_law (aU (top 25))&&nu (aU (top 25)) K51.Ar K51.AX (bI (top 25)))=true:=by decide+kernel
 rw[aK]at hk;exact gM.calm (wW (AL l c k) hk.1 hk.2 g16 (fun vs H Q E h=>Kc.cw h fun _ h=>Kc.cw h fun _ h=>Kc.hO h rfl) (K51.wp_law ⟨by kernel_rfl,by kernel_rfl,by kernel_rfl,by kernel_rfl,by kernel_rfl,by kernel_rfl,by kernel_rfl⟩))
end K51
open PySem PySem.W PyProof.Rows
set_option maxRecDepth 100000 in
set_option maxHeartbeats 0 in
theorem PySem.Challenge.cw_copykin_k51_frames_holds : PySem.Challenge.rw_copykin_k51_frames.Holds := by
 w_on;o_law
 refine PySem.W.holds_open (q:=K51.vw) (loose:=K51.loo) (Xt:=K51.xt)
  (XP:=PySem.W.XL K51.vw []) (Yf:=uX (gN K51.ug K51.uh (fun _=>by kernel_rfl) [])) (Ya:=uW (gN K51.ug K51.uh (fun _=>by kernel_rfl) []))
  (YP:=PySem.W.Hook.says (gN K51.ug K51.uh (fun _=>by kernel_rfl) [])) (N:=2024) (fun w=>K51.both (K51.leftA w) (K51.leftB w)) (PySem.W.Hook.of _) (PySem.W.Hook.keeps _)
  (fun s e=>PySem.W.xl_of s (yR.mp e).1) PySem.W.XL.keeps
  (by rfl) (by rfl) (by rfl)
  (fun s e=>PySem.W.recFacts_of (yR.mp e).2) rfl (by assumption) (by decide+kernel)
  ⟨rfl,rfl,rfl,rfl,rfl,by decide+kernel⟩ ?hw ?hc
 (case hw=>w_witness2)
 k_fill
 refine Lm.yT (l:=PySem.Challenge.rw_copykin_k51_frames) (n:=63) (k:=17) (x:="_law_script") (CX:=L2.CX0) (sp:=fun K=>fun vs H Q _=>K51.zm K vs H Q L2.E0) (tabs:=[]) rfl (by decide) rfl ⟨rfl,by decide,by decide⟩ (fun w h Y=>PySem.W.km_in_of Y) ?T ?F (fun K H a ns hl ht hS=>⟨a,ns,rfl,hS,hl,fun _=>rfl⟩) (fun _ _ _ _ z=>z)
 case T=>
  intro w s₀ mg mb h G Y p hp;exact nomatch hp
 case F=>
  intro w mg fa h KX G hmg;refine' K51.all_mk KX G hmg ?v1 ?v2 ?v3 ?bl ?h6 ?h8 ?h9 ?h10 ?h13 ?h14 ?h15 ?h16 ?h18 ?h19 ?h20 ?h21 ?h22 ?h23 ?h24 ?h25
  (case v1=>k_is);(case v2=>k_is);(case v3=>k_is)
  (case bl=>
   intro x hx;simp only[R.fR,aD,bE,or_false]at hx;rcases hx with rfl|rfl|rfl|rfl|rfl|rfl|rfl|rfl|rfl|rfl|rfl|rfl|rfl|rfl|rfl|rfl|rfl|rfl|rfl|rfl<;>k_is)
  (case h6=>refine' R.dt ?a ?l ?c ?k;(case a=>k_is);(case l=>k_is);(case c=>k_is);(case k=>k_is))
  (case h8=>refine' R.dt ?a ?l ?c ?k;(case a=>k_is);(case l=>k_is);(case c=>k_is);(case k=>k_is))
  (case h9=>refine' R.dt ?a ?l ?c ?k;(case a=>k_is);(case l=>k_is);(case c=>k_is);(case k=>k_is))
  (case h10=>refine' R.dt ?a ?l ?c ?k;(case a=>k_is);(case l=>k_is);(case c=>k_is);(case k=>k_is))
  (case h13=>refine' R.dt ?a ?l ?c ?k;(case a=>k_is);(case l=>k_is);(case c=>k_is);(case k=>k_is))
  (case h14=>refine' R.dt ?a ?l ?c ?k;(case a=>k_is);(case l=>k_is);(case c=>k_is);(case k=>k_is))
  (case h15=>refine' R.dt ?a ?l ?c ?k;(case a=>k_is);(case l=>k_is);(case c=>k_is);(case k=>k_is))
  (case h16=>refine' K51.yg ?a ?l ?c ?k ?t;(case a=>k_is);(case l=>k_is);(case c=>k_is);(case k=>k_is);(case t=>k_is))
  (case h18=>refine' R.dt ?a ?l ?c ?k;(case a=>k_is);(case l=>k_is);(case c=>k_is);(case k=>k_is))
  (case h19=>refine' R.dt ?a ?l ?c ?k;(case a=>k_is);(case l=>k_is);(case c=>k_is);(case k=>k_is))
  (case h20=>refine' R.dt ?a ?l ?c ?k;(case a=>k_is);(case l=>k_is);(case c=>k_is);(case k=>k_is))
  (case h21=>refine' R.dt ?a ?l ?c ?k;(case a=>k_is);(case l=>k_is);(case c=>k_is);(case k=>k_is))
  (case h22=>refine' R.dt ?a ?l ?c ?k;(case a=>k_is);(case l=>k_is);(case c=>k_is);(case k=>k_is))
  (case h23=>refine' R.dt ?a ?l ?c ?k;(case a=>k_is);(case l=>k_is);(case c=>k_is);(case k=>k_is))
  (case h24=>refine' R.dt ?a ?l ?c ?k;(case a=>k_is);(case l=>k_is);(case c=>k_is);(case k=>k_is))
  (case h25=>refine' R.dt ?a ?l ?c ?k;(case a=>k_is);(case l=>k_is);(case c=>k_is);(case k=>k_is))
