import PyProof.Rows.All
import Wide.All
import OpenK.AllK
import Wide.FinOn
import Lean
import PyProof.EqAt
import PyProof.EqKinds
import PyProof.TupleCall
import PyProof.NeKinds
import PySem.Challenge.RW_copykin_k91_rows_of_a_desk
set_option Elab.async false
set_option linter.all false
set_option maxRecDepth 100000
set_option maxHeartbeats 0
namespace K91
open PySem PySem.Spec PySem.Calls PyProof.Rows
noncomputable def top (i : Nat) : Stmt := PySem.Challenge.pw_copykin_k91_rows_of_a_desk.main.body.getD i (.Pass ⟨0, 0, 0, 0⟩)
noncomputable def clsRow (i j : Nat) : Stmt := match top i with
  | .ClassDef _ _ _ b .. => b.getD j (.Pass ⟨0, 0, 0, 0⟩)
  | s => s
noncomputable def vw : Program :=
  { PySem.Challenge.pw_copykin_k91_rows_of_a_desk with main := { PySem.Challenge.pw_copykin_k91_rows_of_a_desk.main with body := [top 1, top 2, top 3, top 4, top 5, top 6, top 7, top 9, top 10, top 11, top 12, top 13, top 14, top 15, top 17, top 18, top 20, top 21, top 22, top 23, top 24, top 25, top 27, top 28, top 29, top 30, top 31, top 32, top 33, top 34, top 35] } }
noncomputable def loo : List Str := [Str.ofString "NoText", Str.ofString "FIGURES_reader", Str.ofString "PARTS"]
noncomputable def xt (s : Shared) : Bool := PySem.W.xlAt vw [] s && PySem.W.recOk [] s
noncomputable def lhsA0 (w : World) := (PySem.W.fencedOpening treeTable PySem.Challenge.pw_copykin_k91_rows_of_a_desk w 4818).map fun s₀ => (PySem.W.topFrom treeTable PySem.Challenge.pw_copykin_k91_rows_of_a_desk (w.withFollow "special-get-raises" false) 4818 s₀).map
  (PySem.W.openSeen vw loo (importedModules PySem.Challenge.pw_copykin_k91_rows_of_a_desk.main.body) xt true)
noncomputable def lhsA1 (w : World) := (PySem.W.fencedOpening treeTable PySem.Challenge.pw_copykin_k91_rows_of_a_desk w 4818).map fun s₀ => (PySem.W.topFrom treeTable PySem.Challenge.pw_copykin_k91_rows_of_a_desk (w.withFollow "special-get-raises" true) 4818 s₀).map
  (PySem.W.openSeen vw loo (importedModules PySem.Challenge.pw_copykin_k91_rows_of_a_desk.main.body) xt true)
noncomputable def rhsA (_ : World) := some (some (PySem.W.openGood vw loo))
noncomputable def seen {α : Type} (_ : α) : Bool := true
theorem laidA : (seen lhsA0 && seen lhsA1 && seen rhsA) = true := by k_qdec
theorem leftA0 (w : World) : lhsA0 w = rhsA w := by
  have _ := laidA
  rw [PySem.W.Fast.te15216231267530715432, PySem.W.Fast.te1316294316772377009]
  kernel_rfl
theorem leftA1 (w : World) : lhsA1 w = rhsA w := by
  have _ := laidA
  rw [PySem.W.Fast.te17334479916068352235, PySem.W.Fast.te1316294316772377009]
  kernel_rfl
theorem both {α β γ : Type} {o : Option α} {f : α → β} {g : α → γ} {a : β} {b : γ} (h : o.map f = some a) (k : o.map g = some b) : (o.map fun s => (f s, g s)) = some (a, b) := by
  cases o with
  | none => cases h
  | some x =>
    injection h with h
    injection k with k
    rw [← h, ← k]
    rfl
theorem both4 {σ τ β γ : Type} {o : Option σ} {f g : σ → Option τ} {u : τ → β} {v : τ → γ} {a : β} {b c : γ} (h1 : (o.map fun s => (f s).map u) = some (some a)) (h2 : (o.map fun s => (f s).map v) = some (some b)) (h3 : (o.map fun s => (g s).map u) = some (some a)) (h4 : (o.map fun s => (g s).map v) = some (some c)) :
    (o.map fun s => ((f s).map fun x => (u x, v x), (g s).map fun x => (u x, v x))) = some (some (a, b), some (a, c)) := by
  cases o with
  | none => cases h1
  | some x =>
    simp only [Option.map_some, Option.some.injEq] at h1 h2 h3 h4 ⊢
    rw [both h1 h2, both h3 h4]
end K91
namespace L2
open PySem PySem.Spec PyProof.Rows
noncomputable abbrev Key := Sum Int Str
noncomputable def keyIs : Key → Value → Bool
  | .inl k, v => Value.isInt k v
  | .inr x, v => Value.isStrOf x v
noncomputable def keyH (w : World) : Key → Int
  | .inl k => hashInt k
  | .inr x => hashStr w x
theorem keyIs_shape : ∀ {k : Key} {v : Value}, keyIs k v = true → (∃ i t, k = Sum.inl i ∧ v = Value.int i t) ∨ (∃ x t, k = Sum.inr x ∧ v = Value.str x t)
  | .inl i, v, h => by
    obtain ⟨t, e⟩ := Value.isInt_shape (k := i) (v := v) h
    exact .inl ⟨i, t, rfl, e⟩
  | .inr x, v, h => by
    obtain ⟨t, e⟩ := Value.isStrOf_shape (x := x) (v := v) h
    exact .inr ⟨x, t, rfl, e⟩
theorem keyIs_int (i : Int) (t : Tok) : keyIs (.inl i) (.int i t) = true := by simp [keyIs, Value.isInt]
theorem keyIs_str (x : Str) (t : Tok) : keyIs (.inr x) (.str x t) = true := by simp [keyIs, Value.isStrOf]
theorem key_ll (a b : Int) : decide ((Sum.inl a : Key) = Sum.inl b) = (a == b) := by
  by_cases e : a = b
  · subst e; simp
  · have h : ¬ (Sum.inl a : Key) = Sum.inl b := fun q => e (Sum.inl.inj q)
    rw [decide_eq_false h]
    exact (beq_eq_false_iff_ne.mpr e).symm
theorem key_rr (a b : Str) : decide ((Sum.inr a : Key) = Sum.inr b) = decide (a = b) := by
  by_cases e : a = b
  · subst e; simp
  · have h : ¬ (Sum.inr a : Key) = Sum.inr b := fun q => e (Sum.inr.inj q)
    rw [decide_eq_false h, decide_eq_false e]
theorem key_lr (a : Int) (b : Str) : decide ((Sum.inl a : Key) = Sum.inr b) = false := decide_eq_false (fun q => nomatch q)
theorem key_rl (a : Str) (b : Int) : decide ((Sum.inr a : Key) = Sum.inl b) = false := decide_eq_false (fun q => nomatch q)
noncomputable def mixKind (prog : Program) (w : World) : PySem.KeyKind prog w Key where
  is := keyIs
  hash := keyH w
  inj := fun v a b ha hb => by
    rcases keyIs_shape ha with ⟨i, t, rfl, rfl⟩ | ⟨x, t, rfl, rfl⟩
    · rcases keyIs_shape hb with ⟨j, u, rfl, e⟩ | ⟨y, u, rfl, e⟩
      · injection e with e1 _; rw [e1]
      · exact nomatch e
    · rcases keyIs_shape hb with ⟨j, u, rfl, e⟩ | ⟨y, u, rfl, e⟩
      · exact nomatch e
      · injection e with e1 _; rw [e1]
  byValue := fun k v h => by
    rcases keyIs_shape h with ⟨i, t, rfl, rfl⟩ | ⟨x, t, rfl, rfl⟩ <;> rfl
  pyHash := fun hv h => by
    rcases keyIs_shape hv with ⟨i, t, rfl, rfl⟩ | ⟨x, t, rfl, rfl⟩
    · exact wpAny_pyHash_int h
    · exact wpAny_pyHash_str h
  eqBool := fun hu hv h => by
    rcases keyIs_shape hu with ⟨i, t, rfl, rfl⟩ | ⟨x, t, rfl, rfl⟩
    · rcases keyIs_shape hv with ⟨j, u, rfl, rfl⟩ | ⟨y, u, rfl, rfl⟩
      · rw [key_ll] at h; exact wpAny_eqBool_int h
      · rw [key_lr] at h; exact SeqAt.EqAt.int_str i t y u _ _ _ _ h
    · rcases keyIs_shape hv with ⟨j, u, rfl, rfl⟩ | ⟨y, u, rfl, rfl⟩
      · rw [key_rl] at h; exact SeqAt.EqAt.str_int x t j u _ _ _ _ h
      · rw [key_rr] at h; exact wpAny_eqBool_str h
  «strs» := fun k x t v h => by
    rcases keyIs_shape h with ⟨i, u, rfl, e⟩ | ⟨y, u, rfl, e⟩
    · exact nomatch e
    · injection e with e1 _
      subst e1
      cases v <;> rfl
theorem mixKind_int (prog : Program) (w : World) (i : Int) (t : Tok) : (mixKind prog w).is (.inl i) (.int i t) = true := keyIs_int i t
theorem mixKind_str (prog : Program) (w : World) (x : Str) (t : Tok) : (mixKind prog w).is (.inr x) (.str x t) = true := keyIs_str x t
end L2
namespace L2
open PySem PySem.Spec PyProof.Rows
inductive V where
  | non | bl (b : Bool) | int (i : Int) | str (x : Str) | byt (b : Array UInt8) | flt (b : UInt64) | ref (a : Addr) | ty (n : String)
  deriving DecidableEq
noncomputable def RelV : V → Value → Prop
  | .non, u => u = Value.none
  | .bl b, u => u = Value.bool b
  | .int i, u => ∃ t, u = Value.int i t
  | .str x, u => ∃ t, u = Value.str x t
  | .byt b, u => ∃ t, u = Value.bytes b t
  | .flt b, u => ∃ t, u = Value.float b t
  | .ref a, u => u = Value.ref a
  | .ty n, u => u = Value.type n
noncomputable abbrev Vals : List V → List Value → Prop := Paired RelV
theorem Vals.length {xs : List V} {us : List Value} (r : Vals xs us) : xs.length = us.length := Paired.length r
theorem Vals.get : ∀ {xs : List V} {us : List Value} {i : Nat} {x : V}, Vals xs us → xs[i]? = some x → ∃ u, us[i]? = some u ∧ RelV x u
  | _, _, _, _, .nil, e => by simp at e
  | _, _, 0, _, .cons r _, e => by simp at e; subst e; exact ⟨_, rfl, r⟩
  | _, _, i + 1, x, .cons _ t, e => by
    obtain ⟨u, h1, h2⟩ := Vals.get (i := i) (x := x) t (by simpa using e)
    exact ⟨u, by simpa using h1, h2⟩
theorem Vals.set {x : V} {u : Value} (r : RelV x u) : ∀ {xs : List V} {us : List Value} (i : Nat), Vals xs us → Vals (xs.set i x) (us.set i u)
  | _, _, _, .nil => .nil
  | _, _, 0, .cons _ t => .cons r t
  | _, _, i + 1, .cons q t => .cons q (Vals.set r i t)
theorem Vals.append : ∀ {xs ys : List V} {us ws : List Value}, Vals xs us → Vals ys ws → Vals (xs ++ ys) (us ++ ws)
  | _, _, _, _, .nil, s => s
  | _, _, _, _, .cons r t, s => .cons r (Vals.append t s)
theorem Vals.take : ∀ {xs : List V} {us : List Value} (n : Nat), Vals xs us → Vals (xs.take n) (us.take n)
  | _, _, 0, _ => .nil
  | _, _, _ + 1, .nil => .nil
  | _, _, n + 1, .cons r t => .cons r (Vals.take n t)
theorem Vals.drop : ∀ {xs : List V} {us : List Value} (n : Nat), Vals xs us → Vals (xs.drop n) (us.drop n)
  | _, _, 0, r => r
  | _, _, _ + 1, .nil => .nil
  | _, _, n + 1, .cons _ t => Vals.drop n t
noncomputable def RelO : Option V → Option Value → Prop
  | some v, some u => RelV v u
  | none, none => True
  | _, _ => False
noncomputable def KV {κ : Type} : List (κ × V) → List (κ × Value) → Prop := Paired fun (p : κ × V) (q : κ × Value) => p.1 = q.1 ∧ RelV p.2 q.2
noncomputable def kV : Key → V
  | .inl i => .int i
  | .inr x => .str x
inductive HO where
  
  | lst (xs : List V)
  
  | tup (xs : List V)
  
  | dK (kvs : List (Key × V)) | dT (kvs : List (List Key × V))
  
  | set (S : Int → Bool) (n : Nat)
  
  | ins (C dx : Addr) (fs : List (Str × V))
  
  | own (x : Addr)
  
  | xd (fs : List (Str × V))
  
  | met (f x : Addr)
  
  | rng (lo hi : Int)
  
  | frz (o : Obj) (u : HO)
  
  | tbl (ps : Array Value)
  
  | ext (φ : Heap → Prop)
noncomputable abbrev Hp := Addr → Option HO
noncomputable def upd (H : Hp) (a : Addr) (o : HO) : Hp := fun b => if b = a then some o else H b
theorem upd_same {H : Hp} {a : Addr} {o : HO} : upd H a o a = some o := by unfold upd; rw [if_pos rfl]
theorem upd_ne {H : Hp} {a b : Addr} {o : HO} (h : b ≠ a) : upd H a o b = H b := by unfold upd; rw [if_neg h]
theorem ne_of_none {H : Hp} {a b : Addr} {o : HO} (h : H a = some o) (h' : H b = none) : a ≠ b := by
  intro e; subst e; rw [h] at h'; cases h'
section
variable (P : Program) (w : World)
noncomputable def ObjOk (H : Hp) (h : Heap) (a : Addr) : HO → Prop
  | .lst xs => xs.length ≤ sizeLine ∧ ∃ (its : List Value) (n : Nat), Vals xs its ∧ h.get? a = some { cls := .type "list", data := .seq its.toArray n }
  | .tup xs => xs.length ≤ sizeLine ∧ ∃ its : List Value, Vals xs its ∧ IsTup h a its.toArray
  | .dK kvs => kvs.length ≤ sizeLine ∧ (a == sysModules) = false ∧ ∃ vs, KV kvs vs ∧ h.DictOf (mixKind P w) a vs
  | .dT kvs => kvs.length ≤ sizeLine ∧ (a == sysModules) = false ∧ ∃ xs : List (List Key × Addr × Value),
      Paired (fun (p : List Key × V) (q : List Key × Addr × Value) => p.1 = q.1 ∧ H q.2.1 = some (.tup (p.1.map kV)) ∧ RelV p.2 q.2.2) kvs xs ∧
      ∃ o es ep, h.get? a = some o ∧ o.ExactDict ∧ o.data = .dict es ep ∧ es.toList = xs.map (entryOfKey (tupleKind (mixKind P w))) ∧ (xs.map (·.1)).Nodup
  | .set S n => h.SetOf (intKind P w) a S n
  | .ins C dx fs => H dx = some (.own a) ∧ fs.length ≤ 1000 ∧ dx ≠ a ∧ h.get? a = some (PySem.W.instObj C dx) ∧
      ∃ mA, h.Ns1 dx mA ∧ (∀ f, RelO (fs.lookup f) (mA f)) ∧ PySem.Within mA (fs.map (·.1))
  | .own _ => ∃ o, h.get? a = some o
  | .xd fs => ∃ mA, h.Ns1 a mA ∧ ∀ f, RelO (fs.lookup f) (mA f)
  | .rng lo hi => ∃ t u v, h.get? a = some { cls := .type "range", data := .fields #[.int lo t, .int hi u, .int 1 v] }
  | .frz o u => h.get? a = some o ∧ ObjOk H h a u
  | .tbl ps => h.get? a = some { cls := .none, data := .fields ps }
  | .met f x => h.get? a = some (PySem.W.methodObj (.ref f) (.ref x))
  | .ext φ => φ h ∧ (∃ o, h.get? a = some o) ∧ ∀ h1 h2 : Heap, φ h1 → (∀ o, h1.get? a = some o → h2.get? a = some o) → φ h2
noncomputable def HOk (H : Hp) (h : Heap) : Prop := ∀ a o, H a = some o → ObjOk P w H h a o
end
section
variable {P : Program} {w : World} {H H' : Hp} {h h' : Heap} {a : Addr} {o : HO}
theorem ObjOk.lt (x : ObjOk P w H h a o) : a < h.objs.size := by
  cases o with
  | lst xs => obtain ⟨_, _, _, _, e⟩ := x; exact Heap.lt_size e
  | tup xs => obtain ⟨_, _, _, p⟩ := x; exact p.lt
  | dK kvs => obtain ⟨_, _, _, _, o, _, _, e, _⟩ := x; exact Heap.lt_size e
  | dT kvs => obtain ⟨_, _, _, _, o, _, _, e, _⟩ := x; exact Heap.lt_size e
  | set S n => obtain ⟨o, _, _, _, e, _⟩ := x; exact Heap.lt_size e
  | ins C dx fs => obtain ⟨_, _, _, e, _⟩ := x; exact Heap.lt_size e
  | own y => obtain ⟨_, e⟩ := x; exact Heap.lt_size e
  | xd fs => obtain ⟨_, ⟨_, _, _, e, _⟩, _⟩ := x; exact Heap.lt_size e
  | rng lo hi => obtain ⟨_, _, _, e⟩ := x; exact Heap.lt_size e
  | frz ob u => obtain ⟨e, _⟩ := x; exact Heap.lt_size e
  | tbl ps => exact Heap.lt_size (show h.get? a = some _ from x)
  | met f y => exact Heap.lt_size (show h.get? a = some _ from x)
  | ext φ => obtain ⟨_, ⟨_, e⟩, _⟩ := x; exact Heap.lt_size e
theorem Paired.mapP {α β : Type} {F G : α → β → Prop} : ∀ {l₁ : List α} {l₂ : List β}, Paired F l₁ l₂ → (∀ a b, F a b → G a b) → Paired G l₁ l₂
  | _, _, .nil, _ => .nil
  | _, _, .cons r t, f => .cons (f _ _ r) (Paired.mapP t f)
theorem ObjOk.stay (x : ObjOk P w H h a o) (k : ∀ b u, (b = a ∨ H b = some (.own a)) → h.get? b = some u → h'.get? b = some u)
    (ho : ∀ b, H b = some (.own a) → H' b = some (.own a)) (ht : ∀ b xs, H b = some (.tup xs) → H' b = some (.tup xs)) : ObjOk P w H' h' a o := by
  induction o with
  | lst xs => obtain ⟨z, its, n, r, e⟩ := x; exact ⟨z, its, n, r, k _ _ (.inl rfl) e⟩
  | tup xs => obtain ⟨z, its, r, ob, e, c⟩ := x; exact ⟨z, its, r, ob, k _ _ (.inl rfl) e, c⟩
  | dK kvs => obtain ⟨z, y, vs, r, ob, es, ep, e, c⟩ := x; exact ⟨z, y, vs, r, ob, es, ep, k _ _ (.inl rfl) e, c⟩
  | dT kvs =>
    obtain ⟨z, y, xs, r, ob, es, ep, e, c⟩ := x
    exact ⟨z, y, xs, Paired.mapP r fun p q z => ⟨z.1, ht _ _ z.2.1, z.2.2⟩, ob, es, ep, k _ _ (.inl rfl) e, c⟩
  | set S n => obtain ⟨ob, es, ep, t, e, c⟩ := x; exact ⟨ob, es, ep, t, k _ _ (.inl rfl) e, c⟩
  | ins C dx fs =>
    obtain ⟨d, z, ne, e, mA, ⟨od, es, ep, e2, c⟩, r⟩ := x
    exact ⟨ho _ d, z, ne, k _ _ (.inl rfl) e, mA, ⟨od, es, ep, k _ _ (.inr d) e2, c⟩, r⟩
  | own y => obtain ⟨ob, e⟩ := x; exact ⟨ob, k _ _ (.inl rfl) e⟩
  | xd fs => obtain ⟨mA, ⟨od, es, ep, e, c⟩, r⟩ := x; exact ⟨mA, ⟨od, es, ep, k _ _ (.inl rfl) e, c⟩, r⟩
  | rng lo hi => obtain ⟨t, u, v, e⟩ := x; exact ⟨t, u, v, k _ _ (.inl rfl) e⟩
  | frz ob u ih => obtain ⟨e, q⟩ := x; exact ⟨k _ _ (.inl rfl) e, ih q⟩
  | tbl ps =>
    have e : h.get? a = some { cls := .none, data := .fields ps } := x
    show h'.get? a = some { cls := .none, data := .fields ps }
    exact k a _ (.inl rfl) e
  | met f y =>
    have e : h.get? a = some (PySem.W.methodObj (.ref f) (.ref y)) := x
    show h'.get? a = some (PySem.W.methodObj (.ref f) (.ref y))
    exact k a _ (.inl rfl) e
  | ext φ => obtain ⟨p, ⟨o, e⟩, st⟩ := x; exact ⟨st _ _ p fun o q => k _ _ (.inl rfl) q, ⟨o, k _ _ (.inl rfl) e⟩, st⟩
theorem HOk.lt (x : HOk P w H h) (e : H a = some o) : a < h.objs.size := (x a o e).lt
theorem HOk.fresh (x : HOk P w H h) (e : h.objs.size ≤ a) : H a = none := by
  cases q : H a with
  | none => rfl
  | some u => exact absurd (Nat.lt_of_lt_of_le (x.lt q) e) (Nat.lt_irrefl _)
theorem HOk.kept (x : HOk P w H h) (k : ∀ b u, h.get? b = some u → h'.get? b = some u) : HOk P w H h' := fun a o e =>
  (x a o e).stay (fun b u _ q => k b u q) (fun _ q => q) fun _ _ q => q
theorem HOk.laid (x : HOk P w H h) (k : ∀ b u, h.get? b = some u → h'.get? b = some u) (hp : h.objs.size ≤ a) (new : ObjOk P w (upd H a o) h' a o) : HOk P w (upd H a o) h' := fun b u e => by
  have hn := x.fresh hp
  by_cases hb : b = a
  · subst hb; rw [upd_same] at e; cases e; exact new
  · rw [upd_ne hb] at e
    exact (x b u e).stay (fun c v _ q => k c v q) (fun c q => by rw [upd_ne (ne_of_none q hn)]; exact q) fun c xs q => by rw [upd_ne (ne_of_none q hn)]; exact q
end
noncomputable def Rd (H : Hp) (a : Addr) (u : HO) : Prop := H a = some u ∨ ∃ o, H a = some (.frz o u)
theorem Rd.ok {P : Program} {w : World} {H : Hp} {h : Heap} {a : Addr} {u : HO} (r : Rd H a u) (x : HOk P w H h) : ObjOk P w H h a u := by
  rcases r with r | ⟨o, r⟩
  · exact x a u r
  · obtain ⟨_, q⟩ := x a _ r
    exact q
noncomputable def Mut : Option HO → Prop
  | some (.lst _) => True
  | some (.dK _) => True
  | some (.dT _) => True
  | some (.set _ _) => True
  | some (.ins _ _ _) => True
  | some (.ext _) => True
  | _ => False
section
variable {P : Program} {w : World} {H : Hp} {h h' : Heap} {x e : Addr} {o' : HO}
theorem HOk.write (ok : HOk P w H h) (mu : Mut (H x)) (he : e = x ∨ H e = some (.own x)) (k : ∀ b u, b ≠ e → h.get? b = some u → h'.get? b = some u) (heo : ∃ u, h'.get? e = some u)
    (new : ObjOk P w (upd H x o') h' x o') : HOk P w (upd H x o') h' := fun b u q => by
  have nown : ∀ c y, H c = some (.own y) → c ≠ x := fun c y r z => by subst z; rw [r] at mu; exact mu
  have ntup : ∀ c xs, H c = some (.tup xs) → c ≠ x := fun c xs r z => by subst z; rw [r] at mu; exact mu
  by_cases hb : b = x
  · subst hb; rw [upd_same] at q; cases q; exact new
  · rw [upd_ne hb] at q
    by_cases hbe : b = e
    · have q' : H b = some (.own x) := by
        rcases he with z | z
        · exact absurd (hbe.trans z) hb
        · rw [hbe]; exact z
      rw [q] at q'; cases q'
      obtain ⟨v, hv⟩ := heo
      exact ⟨v, by rw [hbe]; exact hv⟩
    · refine (ok b u q).stay (fun c v hc r => k c v ?_ r) (fun c r => by rw [upd_ne (nown c b r)]; exact r) fun c xs r => by rw [upd_ne (ntup c xs r)]; exact r
      rcases hc with rfl | hc
      · exact hbe
      · rintro rfl
        rcases he with z | z
        · exact nown c b hc z
        · rw [hc] at z; cases z; exact hb rfl
end
structure Un (fs ex : List Addr) (H H' : Hp) (h h' : Heap) : Prop where
  keep : ∀ b o, h.get? b = some o → H b = none → b ∉ fs → b ∉ ex → h'.get? b = some o
  slot : ∀ b o, h.get? b = some o → H b = none → b ∈ fs → b ∉ ex → ∃ sl, h'.get? b = some { o with slots := sl }
  free : ∀ b o, h.get? b = some o → H b = none → b ∉ ex → H' b = none
  there : ∀ b o, h.get? b = some o → b ∉ ex → ∃ o', h'.get? b = some o'
  tups : ∀ b xs, H b = some (.tup xs) → H' b = some (.tup xs)
  frzs : ∀ b o u, H b = some (.frz o u) → H' b = some (.frz o u)
  tbls : ∀ b ps, H b = some (.tbl ps) → ∃ more, H' b = some (.tbl (ps ++ more))
section
variable {fs fs' ex ex' : List Addr} {H H1 H2 : Hp} {h h1 h2 h' : Heap} {a x e : Addr} {o : HO}
theorem Un.any (u : Un fs ex H H1 h h1) {b : Addr} {ob : Obj} (q : h.get? b = some ob) (n : H b = none) (hx : b ∉ ex) : ∃ sl, h1.get? b = some { ob with slots := sl } := by
  by_cases hb : b ∈ fs
  · exact u.slot b ob q n hb hx
  · exact ⟨ob.slots, u.keep b ob q n hb hx⟩
theorem Un.kept (k : ∀ b u, h.get? b = some u → h'.get? b = some u) : Un fs ex H H h h' :=
  ⟨fun b ob q _ _ _ => k b ob q, fun b ob q _ _ _ => ⟨ob.slots, k b ob q⟩, fun _ _ _ n _ => n, fun b ob q _ => ⟨ob, k b ob q⟩, fun _ _ q => q, fun _ _ _ q => q, fun _ ps q => ⟨#[], by rw [q]; simp⟩⟩
theorem Un.refl : Un fs ex H H h h := Un.kept fun _ _ q => q
theorem Un.laid (k : ∀ b u, h.get? b = some u → h'.get? b = some u) (hp : h.objs.size ≤ a) (hn : H a = none) : Un fs ex H (upd H a o) h h' where
  keep := fun b u q _ _ _ => k b u q
  slot := fun b u q _ _ _ => ⟨u.slots, k b u q⟩
  free := fun b u q n _ => by rw [upd_ne (Nat.ne_of_lt (Nat.lt_of_lt_of_le (Heap.lt_size q) hp))]; exact n
  there := fun b u q _ => ⟨u, k b u q⟩
  tups := fun b xs q => by rw [upd_ne (ne_of_none q hn)]; exact q
  frzs := fun b u xs q => by rw [upd_ne (ne_of_none q hn)]; exact q
  tbls := fun b ps q => ⟨#[], by rw [upd_ne (ne_of_none q hn), q]; simp⟩
theorem Un.write (mu : Mut (H x)) (he : e = x ∨ H e = some (.own x)) (k : ∀ b u, b ≠ e → h.get? b = some u → h'.get? b = some u) (heo : ∃ u, h'.get? e = some u) : Un fs ex H (upd H x o) h h' := by
  have hx : ∀ b, H b = none → b ≠ x := fun b n z => by subst z; rw [n] at mu; exact mu
  have hb : ∀ b, H b = none → b ≠ e := fun b n z => by
    subst z
    rcases he with r | r
    · exact hx b n r
    · rw [n] at r; cases r
  have hm : ∀ b u, H b = some u → ¬ Mut (some u) → b ≠ x := fun b u q nm z => by subst z; rw [q] at mu; exact nm mu
  refine ⟨fun b u q n _ _ => k b u (hb b n) q, fun b u q n _ _ => ⟨u.slots, k b u (hb b n) q⟩, fun b u q n _ => by rw [upd_ne (hx b n)]; exact n, fun b u q _ => ?_,
    fun b xs q => by rw [upd_ne (hm b _ q fun z => z)]; exact q, fun b u xs q => by rw [upd_ne (hm b _ q fun z => z)]; exact q, fun b ps q => ⟨#[], by rw [upd_ne (hm b _ q fun z => z), q]; simp⟩⟩
  by_cases hbe : b = e
  · subst hbe; exact heo
  · exact ⟨u, k b u hbe q⟩
end
noncomputable def trk (h : Heap) (H : Hp) : List Addr := (List.range h.objs.size).filter fun a => (H a).isSome
noncomputable def hidT (h : Heap) (H : Hp) : Heap := PySem.W.hideAll h (trk h H)
theorem hidT_size (h : Heap) (H : Hp) : (hidT h H).objs.size = h.objs.size := PySem.W.hideAll_size _ _
theorem hidT_get {h : Heap} {H : Hp} {b : Addr} {o : Obj} (e : h.get? b = some o) (n : H b = none) : (hidT h H).get? b = some o :=
  PySem.W.hideAll_get _ e fun hm => by
    have q : (H b).isSome = true := (List.mem_filter.mp hm).2
    rw [n] at q; simp at q
theorem of_hidT {h : Heap} {H : Hp} {b : Addr} {o : Obj} (e : (hidT h H).get? b = some o) : h.get? b = some o ∧ H b = none := by
  have e' : h.get? b = some o := PySem.W.of_hideAll (trk h H) e
  refine ⟨e', ?_⟩
  cases q : H b with
  | none => rfl
  | some x =>
    have hm : b ∈ trk h H := List.mem_filter.mpr ⟨List.mem_range.mpr (Heap.lt_size e'), by simp [q]⟩
    have z : (hidT h H).get? b = none := PySem.W.hideAll_none (trk h H) hm
    rw [z] at e; cases e
end L2
namespace L2
open PySem PySem.Spec PyProof.Rows
structure Mod (K : PySem.W.Frag) (mg : Str → Option Value) (base : Heap) : Prop where
  kin : K.In base
  glob : base.Ns mainGlobals mg
  blt : ∃ mb, base.Ns builtinsNs mb ∧ ∀ x : Str, x ≠ "__name__" → mb x = bootBuiltins x
  nolimit : base.NoLimit
structure Cx where
  prog : Program
  w : World
  K : PySem.W.Frag
  mg : Str → Option Value
  base : Heap
  A : Around
  N : List Str
  s₀ : Shared
  H₀ : Hp
  env : Env
  outer : List Env
  stack : List Env
  ex : List Addr
  fn : Str → Bool
  calm : Bool
  pn : List (Addr × Obj)
  xe : Value → Shared → Prop
noncomputable def frs (l : List Env) : List Addr := l.filterMap (·.frame)
noncomputable abbrev Cx.fs (X : Cx) : List Addr := frs X.outer
noncomputable def Vis (sc : Scope) (x : Str) : Prop := sc.names.lookup x = some .local ∨ sc.names.lookup x = some .cell ∨ sc.names.lookup x = some .free
noncomputable def Loc (sc : Scope) (x : Str) : Prop := sc.names.lookup x = some .local ∨ sc.names.lookup x = some .cell
noncomputable def Look (env : Env) (h : Heap) (m : Str → Option Value) (x : Str) (u : Value) : Prop :=
  (env.kindOf x = some .local ∧ m x = some u) ∨ ((env.kindOf x = some .cell ∨ env.kindOf x = some .free) ∧ ∃ c, env.cells.lookup x = some c ∧ h.IsCell c (some u))
structure Cx.Ok (X : Cx) : Prop where
  mod : Mod X.K X.mg X.base
  kind : X.env.scope.kind = .function
  glob : X.env.globals = mainGlobals
  blt : X.env.builtins = builtinsNs
  above : X.s₀.heap.objs.size ≤ X.env.locals
  inj : ∀ x y c, X.env.cells.lookup x = some c → X.env.cells.lookup y = some c → x = y
  has : ∀ x, (X.env.kindOf x = some .cell ∨ X.env.kindOf x = some .free) → ∃ c, X.env.cells.lookup x = some c
  cab : ∀ x c, X.fn x = true → X.env.cells.lookup x = some c → X.s₀.heap.objs.size ≤ c
  hd : X.calm = true → X.A.handled = none
  frames : X.A.frames = some X.stack
  stk : X.stack = X.outer ∨ (X.stack = X.env :: X.outer ∧ X.env.frame = some X.env.locals)
  exf : ∀ b ∈ X.ex, b ≠ X.env.locals ∧ ∀ x c, X.env.cells.lookup x = some c → c ≠ b
  bs : ∀ b o, X.base.get? b = some o → X.s₀.heap.get? b = some o ∧ X.H₀ b = none
  bsz : X.base.objs.size ≤ X.s₀.heap.objs.size
  noex : ∀ b o, X.base.get? b = some o → b ∉ X.ex
  exfs : ∀ b ∈ X.ex, b ∉ X.fs
  funs : X.s₀.heap.FunFrames X.base X.outer
  frf : ∀ b ∈ X.fs, X.H₀ b = none
structure Inv (X : Cx) (pins : List (Addr × Obj)) (σ : List (Option V)) (H : Hp) (s : Shared) : Prop where
  ok : X.Ok
  os : s.os = X.s₀.os
  bare : AllBare s.gens
  base : Un X.fs X.ex X.H₀ H X.s₀.heap s.heap
  loc : ∃ m, s.heap.Ns X.env.locals m ∧ ∀ (i : Nat) (x : Str) (v : V), X.N[i]? = some x → σ[i]? = some (some v) → Vis X.env.scope x → ∃ u, RelV v u ∧ Look X.env s.heap m x u
  cell : ∀ x c, X.env.cells.lookup x = some c → ∃ v, s.heap.IsCell c v
  free : H X.env.locals = none
  freeC : ∀ x c, X.env.cells.lookup x = some c → H c = none
  pin : ∀ p ∈ X.pn ++ pins, s.heap.get? p.1 = some p.2 ∧ H p.1 = none ∧ p.1 ≠ X.env.locals ∧ p.1 ∉ X.fs ∧ ∀ v, p.2.data ≠ .cell v
  hok : HOk X.prog X.w H s.heap
  len : σ.length = X.N.length
section
variable {X : Cx} {pins : List (Addr × Obj)} {σ : List (Option V)} {H H' : Hp} {s : Shared} {h' : Heap}
theorem Cx.Ok.nofr (ok : X.Ok) {b : Addr} {o : Obj} (e : X.base.get? b = some o) : b ∉ X.fs := fun hb => by
  have := (ok.funs.mem hb).1
  rw [e] at this; cases this
theorem Inv.bs (I : Inv X pins σ H s) : ∀ b o, X.base.get? b = some o → s.heap.get? b = some o ∧ H b = none := fun b o e =>
  ⟨I.base.keep b o (I.ok.bs b o e).1 (I.ok.bs b o e).2 (I.ok.nofr e) (I.ok.noex b o e), I.base.free b o (I.ok.bs b o e).1 (I.ok.bs b o e).2 (I.ok.noex b o e)⟩
theorem Inv.bk (I : Inv X pins σ H s) : ∀ b o, X.base.get? b = some o → s.heap.get? b = some o := fun b o e => (I.bs b o e).1
theorem Inv.mod (I : Inv X pins σ H s) : Mod X.K X.mg X.base := I.ok.mod
theorem Inv.kIn (I : Inv X pins σ H s) : X.K.In s.heap := I.ok.mod.kin.keeps I.bk
theorem Inv.lt (I : Inv X pins σ H s) : X.env.locals < s.heap.objs.size := let ⟨_, hn, _⟩ := I.loc; hn.lt
theorem Inv.sz (I : Inv X pins σ H s) : X.s₀.heap.objs.size ≤ s.heap.objs.size := Nat.le_trans I.ok.above (Nat.le_of_lt I.lt)
theorem Inv.nofs (I : Inv X pins σ H s) {a : Addr} (h : s.heap.objs.size ≤ a) : a ∉ X.fs := fun hb => by
  obtain ⟨_, o, ho, _⟩ := I.ok.funs.mem hb
  exact absurd (Nat.lt_of_lt_of_le (Heap.lt_size ho) (Nat.le_trans I.sz h)) (Nat.lt_irrefl _)
theorem Inv.cne (I : Inv X pins σ H s) : ∀ x c, X.env.cells.lookup x = some c → c ≠ X.env.locals := fun x c e z => by
  obtain ⟨v, o, ho, hd⟩ := I.cell x c e
  obtain ⟨m, ⟨o', es, ep, ho', hd', _⟩, _⟩ := I.loc
  rw [z, ho'] at ho; cases ho; rw [hd'] at hd; cases hd
theorem Inv.funs (I : Inv X pins σ H s) : s.heap.FunFrames X.base X.outer := by
  have all : ∀ (l : List Env), (∀ b ∈ frs l, b ∈ X.fs) → X.s₀.heap.FunFrames X.base l → s.heap.FunFrames X.base l := by
    intro l
    induction l with
    | nil => intro _ _; trivial
    | cons env r ih =>
      intro hs hl
      obtain ⟨hk, ⟨L, o, hf, hn, ho, hd⟩, hr⟩ := hl
      have hL : L ∈ X.fs := hs L (by unfold frs; rw [List.filterMap_cons, hf]; exact List.mem_cons_self)
      obtain ⟨sl, e⟩ := I.base.slot L o ho (I.ok.frf L hL) hL fun z => I.ok.exfs L z hL
      exact ⟨hk, ⟨L, _, hf, hn, e, hd⟩, ih (fun b hb => hs b (by unfold frs; rw [List.filterMap_cons, hf]; exact List.mem_cons_of_mem _ hb)) hr⟩
  exact all X.outer (fun _ hb => hb) I.ok.funs
theorem Inv.stack (I : Inv X pins σ H s) : s.heap.FunFrames X.base X.stack := by
  rcases I.ok.stk with e | ⟨e, hf⟩
  · rw [e]; exact I.funs
  · rw [e]
    obtain ⟨m, hn, _⟩ := I.loc
    refine .cons (by rw [I.ok.kind]; decide) hf hn ?_ I.funs
    exact Heap.get?_none_of_le (Nat.le_trans I.ok.bsz I.ok.above)
theorem Inv.stkSub (I : Inv X pins σ H s) : ∀ b ∈ frs X.stack, b ∈ X.env.locals :: X.fs := fun b hb => by
  rcases I.ok.stk with e | ⟨e, hf⟩
  · rw [e] at hb; exact List.mem_cons_of_mem _ hb
  · rw [e] at hb
    unfold frs at hb
    rw [List.filterMap_cons, hf] at hb
    exact hb
theorem Inv.stkFree (I : Inv X pins σ H s) : ∀ b ∈ frs X.stack, H b = none := fun b hb => by
  rcases List.mem_cons.mp (I.stkSub b hb) with e | hb
  · rw [e]; exact I.free
  · obtain ⟨_, o, ho, _⟩ := I.ok.funs.mem hb
    exact I.base.free b o ho (I.ok.frf b hb) fun z => I.ok.exfs b z hb
theorem Inv.step {g' : Array GenState} {t' : Nat} {d' : Drawn} {ch : List Addr} (I : Inv X pins σ H s)
    (hch : ∀ b ∈ ch, (b ∈ X.ex ∨ X.s₀.heap.objs.size ≤ b) ∧ b ≠ X.env.locals ∧ (∀ x c, X.env.cells.lookup x = some c → c ≠ b) ∧ ∀ p ∈ X.pn ++ pins, p.1 ≠ b)
    (keep : ∀ b o, b ≠ X.env.locals → b ∉ X.fs → b ∉ ch → s.heap.get? b = some o → H b = none → h'.get? b = some o)
    (slot : ∀ b o, b ≠ X.env.locals → b ∈ X.fs → b ∉ ch → s.heap.get? b = some o → H b = none → ∃ sl, h'.get? b = some { o with slots := sl }) (free : ∀ b o, b ∉ ch → s.heap.get? b = some o → H b = none → H' b = none)
    (there : ∀ b o, b ∉ ch → s.heap.get? b = some o → ∃ o', h'.get? b = some o')
    (tups : ∀ b xs, H b = some (.tup xs) → H' b = some (.tup xs)) (frzs : ∀ b o u, H b = some (.frz o u) → H' b = some (.frz o u)) (tbls : ∀ b ps, H b = some (.tbl ps) → ∃ more, H' b = some (.tbl (ps ++ more)))
    (ns : ∀ m, s.heap.Ns X.env.locals m → h'.Ns X.env.locals m) (hok : HOk X.prog X.w H' h') (hg : AllBare g') :
    Inv X pins σ H' { s with heap := h', gens := g', drawn := d', toks := t' } := by
  have neL : ∀ b o, X.s₀.heap.get? b = some o → b ≠ X.env.locals := fun b o e => Nat.ne_of_lt (Nat.lt_of_lt_of_le (Heap.lt_size e) I.ok.above)
  have neC : ∀ b o, X.s₀.heap.get? b = some o → b ∉ X.ex → b ∉ ch := fun b o e hx hb => by
    rcases (hch b hb).1 with z | z
    · exact hx z
    · exact absurd (Nat.lt_of_lt_of_le (Heap.lt_size e) z) (Nat.lt_irrefl _)
  have cellK : ∀ x c, X.env.cells.lookup x = some c → ∀ v, s.heap.IsCell c v → h'.IsCell c v := fun x c e v ⟨o, ho, hd⟩ => by
    have nch : c ∉ ch := fun z => (hch c z).2.2.1 x c e rfl
    by_cases hc : c ∈ X.fs
    · obtain ⟨sl, q⟩ := slot c o (I.cne x c e) hc nch ho (I.freeC x c e)
      exact ⟨_, q, hd⟩
    · exact ⟨o, keep c o (I.cne x c e) hc nch ho (I.freeC x c e), hd⟩
  refine ⟨I.ok, I.os, hg, ⟨fun b o e n hb hx => ?_, fun b o e n hb hx => ?_, fun b o e n hx => ?_, fun b o e hx => ?_, fun b xs e => tups b xs (I.base.tups b xs e), fun b o xs e => frzs b o xs (I.base.frzs b o xs e), fun b ps e => ?_⟩, ?_, fun x c e => ?_, ?_, fun x c e => ?_, fun p hp => ?_, hok, I.len⟩
  · exact keep b o (neL b o e) hb (neC b o e hx) (I.base.keep b o e n hb hx) (I.base.free b o e n hx)
  · obtain ⟨sl, e1⟩ := I.base.slot b o e n hb hx
    obtain ⟨sl', e2⟩ := slot b _ (neL b o e) hb (neC b o e hx) e1 (I.base.free b o e n hx)
    exact ⟨sl', e2⟩
  · obtain ⟨o', e1⟩ := I.base.there b o e hx
    exact free b o' (neC b o e hx) e1 (I.base.free b o e n hx)
  · obtain ⟨o', e1⟩ := I.base.there b o e hx
    exact there b o' (neC b o e hx) e1
  · obtain ⟨m1, e1⟩ := I.base.tbls b ps e
    obtain ⟨m2, e2⟩ := tbls b _ e1
    exact ⟨m1 ++ m2, by rw [e2, Array.append_assoc]⟩
  · obtain ⟨m, hn, hl⟩ := I.loc
    refine ⟨m, ns m hn, fun i x v e1 e2 e3 => ?_⟩
    obtain ⟨u, r, l⟩ := hl i x v e1 e2 e3
    refine ⟨u, r, ?_⟩
    rcases l with l | ⟨k, c, e, z⟩
    · exact .inl l
    · exact .inr ⟨k, c, e, cellK x c e _ z⟩
  · obtain ⟨v, z⟩ := I.cell x c e
    exact ⟨v, cellK x c e v z⟩
  · obtain ⟨m, ⟨o, _, _, ho, _⟩, _⟩ := I.loc
    exact free _ o (fun z => (hch _ z).2.1 rfl) ho I.free
  · obtain ⟨v, o, ho, hd⟩ := I.cell x c e
    exact free c o (fun z => (hch c z).2.2.1 x c e rfl) ho (I.freeC x c e)
  · obtain ⟨e, n, ne, nf, d⟩ := I.pin p hp
    have nch : p.1 ∉ ch := fun z => (hch p.1 z).2.2.2 p hp rfl
    exact ⟨keep p.1 p.2 ne nf nch e n, free p.1 p.2 nch e n, ne, nf, d⟩
theorem Inv.un {t' : Nat} (I : Inv X pins σ H s) (u : Un X.fs [] H H' s.heap h') (hok : HOk X.prog X.w H' h') : Inv X pins σ H' { s with heap := h', toks := t' } := by
  obtain ⟨m, ⟨o, es, ep, ho, r⟩, _⟩ := id I.loc
  obtain ⟨sl, hL⟩ := u.any ho I.free (by simp)
  exact I.step (g' := s.gens) (d' := s.drawn) (ch := []) (fun _ z => nomatch z) (fun b o _ hb _ e n => u.keep b o e n hb (by simp)) (fun b o _ hb _ e n => u.slot b o e n hb (by simp)) (fun b o _ e n => u.free b o e n (by simp)) (fun b o _ e => u.there b o e (by simp)) u.tups u.frzs u.tbls (fun m' hm => by
    obtain ⟨o', es', ep', ho', r'⟩ := hm
    rw [ho] at ho'; cases ho'
    exact ⟨_, es', ep', hL, r'⟩) hok I.bare
theorem Inv.call {g' : Array GenState} {t' : Nat} {d' : Drawn} {ch : List Addr} (I : Inv X pins σ H s) (u : Un (frs X.stack) ch H H' s.heap h') (hok : HOk X.prog X.w H' h') (hg : AllBare g')
    (hch : ∀ b ∈ ch, (b ∈ X.ex ∨ X.s₀.heap.objs.size ≤ b) ∧ b ≠ X.env.locals ∧ (∀ x c, X.env.cells.lookup x = some c → c ≠ b) ∧ ∀ p ∈ X.pn ++ pins, p.1 ≠ b) :
    Inv X pins σ H' { s with heap := h', gens := g', drawn := d', toks := t' } := by
  obtain ⟨m, ⟨o, es, ep, ho, r⟩, _⟩ := id I.loc
  obtain ⟨sl, hL⟩ := u.any ho I.free fun z => (hch _ z).2.1 rfl
  exact I.step (ch := ch) hch (fun b o hL hb hc e n => u.keep b o e n (fun z => (List.mem_cons.mp (I.stkSub b z)).elim hL hb) hc) (fun b o _ _ hc e n => u.any e n hc) (fun b o hc e n => u.free b o e n hc) (fun b o hc e => u.there b o e hc) u.tups u.frzs u.tbls (fun m' hm => by
    obtain ⟨o', es', ep', ho', r'⟩ := hm
    rw [ho] at ho'; cases ho'
    exact ⟨_, es', ep', hL, r'⟩) hok hg
theorem Inv.turned {t' : Nat} {it : Addr} (I : Inv X pins σ H s) (k : ∀ b o, b ≠ it → s.heap.get? b = some o → h'.get? b = some o) (hn : H it = none) (hL : it ≠ X.env.locals)
    (h1 : it ∈ X.ex ∨ X.s₀.heap.objs.size ≤ it) (h2 : ∀ x c, X.env.cells.lookup x = some c → c ≠ it) (h3 : ∀ p ∈ X.pn ++ pins, p.1 ≠ it) : Inv X pins σ H { s with heap := h', toks := t' } := by
  have nit : ∀ b u, H b = some u → b ≠ it := fun b u e z => by rw [z, hn] at e; cases e
  refine I.step (g' := s.gens) (d' := s.drawn) (ch := [it]) (fun b hb => ?_) (fun b o _ _ hc e _ => k b o (fun z => hc (by simp [z])) e) (fun b o _ _ hc e _ => ⟨o.slots, k b o (fun z => hc (by simp [z])) e⟩) (fun _ _ _ _ n => n)
    (fun b o hc e => ⟨o, k b o (fun z => hc (by simp [z])) e⟩) (fun _ _ e => e) (fun _ _ _ e => e) (fun b ps e => ⟨#[], by rw [e]; simp⟩) (fun m hm => ?_) (fun b u e => ?_) I.bare
  · have e : b = it := by simpa using hb
    subst e
    exact ⟨h1, hL, h2, h3⟩
  · obtain ⟨o, es, ep, ho, r⟩ := hm
    exact ⟨o, es, ep, k _ o (Ne.symm hL) ho, r⟩
  · refine (I.hok b u e).stay (fun c v hc q => k c v ?_ q) (fun _ q => q) fun _ _ q => q
    rcases hc with z | z
    · rw [z]; exact nit b u e
    · exact nit c _ z
theorem Inv.tok (I : Inv X pins σ H s) (t : Nat) : Inv X pins σ H { s with toks := t } := I.un (h' := s.heap) (t' := t) Un.refl I.hok
theorem Inv.kept {t' : Nat} (I : Inv X pins σ H s) (k : ∀ b u, s.heap.get? b = some u → h'.get? b = some u) : Inv X pins σ H { s with heap := h', toks := t' } := I.un (Un.kept k) (I.hok.kept k)
theorem Inv.laid {a : Addr} {o : HO} {t' : Nat} (I : Inv X pins σ H s) (k : ∀ b u, s.heap.get? b = some u → h'.get? b = some u) (hp : s.heap.objs.size ≤ a) (new : ObjOk X.prog X.w (upd H a o) h' a o) :
    Inv X pins σ (upd H a o) { s with heap := h', toks := t' } := I.un (Un.laid k hp (I.hok.fresh hp)) (I.hok.laid k hp new)
theorem Inv.write {x e : Addr} {o : HO} {t' : Nat} (I : Inv X pins σ H s) (mu : Mut (H x)) (he : e = x ∨ H e = some (.own x)) (k : ∀ b u, b ≠ e → s.heap.get? b = some u → h'.get? b = some u) (heo : ∃ u, h'.get? e = some u)
    (new : ObjOk X.prog X.w (upd H x o) h' x o) : Inv X pins σ (upd H x o) { s with heap := h', toks := t' } := I.un (Un.write mu he k heo) (I.hok.write mu he k heo new)
theorem Inv.pins_of {pins' : List (Addr × Obj)} (I : Inv X pins σ H s) (h : ∀ p ∈ pins', s.heap.get? p.1 = some p.2 ∧ H p.1 = none ∧ p.1 ≠ X.env.locals ∧ p.1 ∉ X.fs ∧ ∀ v, p.2.data ≠ .cell v) : Inv X pins' σ H s :=
  ⟨I.ok, I.os, I.bare, I.base, I.loc, I.cell, I.free, I.freeC, fun p hp => (List.mem_append.mp hp).elim (fun z => I.pin p (List.mem_append_left _ z)) (h p), I.hok, I.len⟩
theorem nodup_ix {N : List Str} (hN : N.Nodup) {i j : Nat} {x : Str} (a : N[i]? = some x) (b : N[j]? = some x) : i = j := by
  obtain ⟨h1, e1⟩ := List.getElem?_eq_some_iff.mp a
  obtain ⟨h2, e2⟩ := List.getElem?_eq_some_iff.mp b
  exact (List.getElem_inj hN).mp (e1.trans e2.symm)
theorem store_ok2 {M : Model} {A : Around} {E : Value → Shared → Prop} {i : Nat} {x : Str} {v : V} {u : Value} {Q : Unit → Shared → Prop} (I : Inv X pins σ H s) (hN : X.N.Nodup) (hi : X.N[i]? = some x) (hx : Loc X.env.scope x) (r : RelV v u)
    (h : ∀ s', Inv X pins (σ.set i (some v)) H s' → (∃ a, Heap.SameBut a s.heap s'.heap ∧ (a = X.env.locals ∨ X.env.cells.lookup x = some a)) → Q () s') (hf : X.fn x = true ∨ X.env.scope.names.lookup x = some .local := by first | exact .inl rfl | exact .inr rfl | assumption) : wpAny M A (storeName X.env x u) Q E s := by
  obtain ⟨m, hn, hl⟩ := id I.loc
  have hcls : (X.env.scope.kind == .class || (X.env.scope.kind == .module && X.env.locals != X.env.globals)) = false := by rw [I.ok.kind]; rfl
  have hiσ : i < σ.length := by rw [I.len]; exact (List.getElem?_eq_some_iff.mp hi).1
  have cne := I.cne
  have tracked : ∀ {a : Addr} {h' : Heap}, (∃ o, s.heap.get? a = some o ∧ H a = none) → Heap.SameBut a s.heap h' → HOk X.prog X.w H h' := fun {a h'} ha hs b ob e => by
    obtain ⟨_, _, hfree⟩ := ha
    refine (I.hok b ob e).stay (fun c w' hc q => (hs.2 c ?_).trans q) (fun _ q => q) fun _ _ q => q
    rintro rfl
    rcases hc with rfl | hc
    · rw [hfree] at e; cases e
    · rw [hfree] at hc; cases hc
  rcases hx with hk | hk
  · refine wpAny_storeName_local hk hn (fun h' hn' hs => ?_) hcls
    obtain ⟨oL, _, _, hoL, _⟩ := id hn
    refine h _ ⟨I.ok, I.os, I.bare, ⟨fun b o e n hb hx => ?_, fun b o e n hb hx => ?_, I.base.free, fun b o e hx => ?_, I.base.tups, I.base.frzs, I.base.tbls⟩, ⟨_, hn', fun j y v' e1 e2 e3 => ?_⟩, fun y c e => ?_, I.free, I.freeC, fun p hp => ?_, tracked ⟨oL, hoL, I.free⟩ hs, by simpa using I.len⟩ ⟨_, hs, .inl rfl⟩
    · exact (hs.2 b (Nat.ne_of_lt (Nat.lt_of_lt_of_le (Heap.lt_size e) I.ok.above))).trans (I.base.keep b o e n hb hx)
    · obtain ⟨sl, e1⟩ := I.base.slot b o e n hb hx
      exact ⟨sl, (hs.2 b (Nat.ne_of_lt (Nat.lt_of_lt_of_le (Heap.lt_size e) I.ok.above))).trans e1⟩
    · obtain ⟨o', e1⟩ := I.base.there b o e hx
      exact ⟨o', (hs.2 b (Nat.ne_of_lt (Nat.lt_of_lt_of_le (Heap.lt_size e) I.ok.above))).trans e1⟩
    · by_cases hj : j = i
      · subst hj
        rw [hi] at e1; cases e1
        rw [List.getElem?_set_self hiσ] at e2
        cases e2
        exact ⟨u, r, .inl ⟨hk, by simp⟩⟩
      · rw [List.getElem?_set_ne (Ne.symm hj)] at e2
        obtain ⟨u', r', q⟩ := hl j y v' e1 e2 e3
        refine ⟨u', r', ?_⟩
        rcases q with ⟨k, e⟩ | ⟨k, c, e, z⟩
        · refine .inl ⟨k, ?_⟩
          have : y ≠ x := fun e => hj (nodup_ix hN e1 (e ▸ hi))
          simp [this, e]
        · exact .inr ⟨k, c, e, z.sameBut hs (cne y c e)⟩
    · obtain ⟨w', z⟩ := I.cell y c e
      exact ⟨w', z.sameBut hs (cne y c e)⟩
    · obtain ⟨e, n, ne, nf, d⟩ := I.pin p hp
      exact ⟨(hs.2 p.1 ne).trans e, n, ne, nf, d⟩
  · have hfn : X.fn x = true := by
      rcases hf with z | z
      · exact z
      · rw [z] at hk; cases hk
    obtain ⟨c, hc⟩ := I.ok.has x (.inl hk)
    obtain ⟨w', z⟩ := I.cell x c hc
    refine wpAny_storeName_cell I.ok.kind hk hc z (fun h' hc' hs => ?_)
    obtain ⟨oc, hoc, hocd⟩ := id z
    refine h { s with heap := h' } ⟨I.ok, I.os, I.bare, ⟨fun b o e n hb hx => ?_, fun b o e n hb hx => ?_, I.base.free, fun b o e hx => ?_, I.base.tups, I.base.frzs, I.base.tbls⟩, ⟨m, hn.sameBut hs (Ne.symm (cne x c hc)), fun j y v' e1 e2 e3 => ?_⟩, fun y c' e => ?_, I.free, I.freeC, fun p hp => ?_, tracked ⟨oc, hoc, I.freeC x c hc⟩ hs, by simpa using I.len⟩ ⟨c, hs, .inr hc⟩
    · exact (hs.2 b (Nat.ne_of_lt (Nat.lt_of_lt_of_le (Heap.lt_size e) (I.ok.cab x c hfn hc)))).trans (I.base.keep b o e n hb hx)
    · obtain ⟨sl, e1⟩ := I.base.slot b o e n hb hx
      exact ⟨sl, (hs.2 b (Nat.ne_of_lt (Nat.lt_of_lt_of_le (Heap.lt_size e) (I.ok.cab x c hfn hc)))).trans e1⟩
    · obtain ⟨o', e1⟩ := I.base.there b o e hx
      exact ⟨o', (hs.2 b (Nat.ne_of_lt (Nat.lt_of_lt_of_le (Heap.lt_size e) (I.ok.cab x c hfn hc)))).trans e1⟩
    · by_cases hj : j = i
      · subst hj
        rw [hi] at e1; cases e1
        rw [List.getElem?_set_self hiσ] at e2
        cases e2
        exact ⟨u, r, .inr ⟨.inl hk, c, hc, hc'⟩⟩
      · rw [List.getElem?_set_ne (Ne.symm hj)] at e2
        obtain ⟨u', r', q⟩ := hl j y v' e1 e2 e3
        refine ⟨u', r', ?_⟩
        rcases q with q | ⟨k, c', e, z'⟩
        · exact .inl q
        · refine .inr ⟨k, c', e, z'.sameBut hs ?_⟩
          rintro rfl
          exact hj (nodup_ix hN e1 (I.ok.inj _ _ _ e hc ▸ hi))
    · by_cases hcc : c' = c
      · subst hcc; exact ⟨_, hc'⟩
      · obtain ⟨w2, z2⟩ := I.cell y c' e
        exact ⟨w2, z2.sameBut hs hcc⟩
    · obtain ⟨e, n, ne, nf, d⟩ := I.pin p hp
      refine ⟨(hs.2 p.1 ?_).trans e, n, ne, nf, d⟩
      intro q
      rw [q, hoc] at e
      have q' : oc = p.2 := Option.some.inj e
      exact d w' (by rw [← q']; exact hocd)
theorem store_ok {M : Model} {A : Around} {E : Value → Shared → Prop} {i : Nat} {x : Str} {v : V} {u : Value} {Q : Unit → Shared → Prop} (I : Inv X pins σ H s) (hN : X.N.Nodup) (hi : X.N[i]? = some x) (hx : Loc X.env.scope x) (r : RelV v u)
    (h : ∀ s', Inv X pins (σ.set i (some v)) H s' → Q () s') (hf : X.fn x = true ∨ X.env.scope.names.lookup x = some .local := by first | exact .inl rfl | exact .inr rfl | assumption) : wpAny M A (storeName X.env x u) Q E s :=
  store_ok2 I hN hi hx r (fun s' I' _ => h s' I') hf
theorem Inv.call' {s' : Shared} {ch : List Addr} (I : Inv X pins σ H s) (ho : s'.os = s.os) (u : Un (frs X.stack) ch H H' s.heap s'.heap) (hok : HOk X.prog X.w H' s'.heap) (hg : AllBare s'.gens)
    (hch : ∀ b ∈ ch, (b ∈ X.ex ∨ X.s₀.heap.objs.size ≤ b) ∧ b ≠ X.env.locals ∧ (∀ x c, X.env.cells.lookup x = some c → c ≠ b) ∧ ∀ p ∈ X.pn ++ pins, p.1 ≠ b) : Inv X pins σ H' s' := by
  obtain ⟨h', g', d', t', o'⟩ := s'
  have e : o' = s.os := ho
  subst e
  exact I.call (g' := g') (t' := t') (d' := d') u hok hg hch
end
noncomputable abbrev XK := Value → Option Addr → Hp → Prop
noncomputable abbrev St := List (Option V)
noncomputable abbrev VK := V → Hp → Prop
noncomputable abbrev TE := St → Hp → VK → Prop
noncomputable abbrev TT := St → Hp → (Bool → Hp → Prop) → Prop
noncomputable abbrev TA := St → Hp → (List V → Hp → Prop) → Prop
structure Ends where
  nx : St → Hp → Prop
  rt : VK
  bk : St → Hp → Prop := fun _ _ => False
  ct : St → Hp → Prop := fun _ _ => False
noncomputable abbrev TS := Ends → St → Hp → Prop
noncomputable def EP (X : Cx) (pins : List (Addr × Obj)) (σ : St) (Q : VK) (u : Value) (s' : Shared) : Prop := ∃ v H', Inv X pins σ H' s' ∧ RelV v u ∧ Q v H'
noncomputable def TP (X : Cx) (pins : List (Addr × Obj)) (σ : St) (Q : Bool → Hp → Prop) (b : Bool) (s' : Shared) : Prop := ∃ H', Inv X pins σ H' s' ∧ Q b H'
noncomputable def AP (X : Cx) (pins : List (Addr × Obj)) (σ : St) (Q : List V → Hp → Prop) (us : List Value) (s' : Shared) : Prop := ∃ vs H', Inv X pins σ H' s' ∧ Vals vs us ∧ Q vs H'
noncomputable def SP (X : Cx) (pins : List (Addr × Obj)) (D : Ends) (f : Flow) (s' : Shared) : Prop :=
  match f with
  | .next => ∃ σ' H', Inv X pins σ' H' s' ∧ D.nx σ' H'
  | .brk => ∃ σ' H', Inv X pins σ' H' s' ∧ D.bk σ' H'
  | .cont => ∃ σ' H', Inv X pins σ' H' s' ∧ D.ct σ' H'
  | .ret u => ∃ v σ' H', Inv X pins σ' H' s' ∧ RelV v u ∧ D.rt v H'
noncomputable def PE (X : Cx) (e : Expr) (t : TE) : Prop :=
  ∀ (pins : List (Addr × Obj)) (s : Shared) (σ : St) (H : Hp) (Q : VK), Inv X pins σ H s → t σ H Q → wpAny (model X.prog X.w) X.A (eval e X.env) (EP X pins σ Q) X.xe s
noncomputable def PT (X : Cx) (e : Expr) (t : TT) : Prop :=
  ∀ (pins : List (Addr × Obj)) (s : Shared) (σ : St) (H : Hp) (Q : Bool → Hp → Prop), Inv X pins σ H s → t σ H Q → wpAny (model X.prog X.w) X.A (isTrue e X.env (eval e X.env)) (TP X pins σ Q) X.xe s
noncomputable def PW (X : Cx) (e : Expr) (t : TT) : Prop :=
  ∀ (whole : Sem Value) (pins : List (Addr × Obj)) (s : Shared) (σ : St) (H : Hp) (Q : Bool → Hp → Prop), Inv X pins σ H s → t σ H Q → wpAny (model X.prog X.w) X.A (isTrue e X.env whole) (TP X pins σ Q) X.xe s
theorem PW.pt {X : Cx} {e : Expr} {t : TT} (h : PW X e t) : PT X e t := h _
noncomputable def PA (X : Cx) (es : List Expr) (t : TA) : Prop :=
  ∀ (pos : Pos) (pins : List (Addr × Obj)) (s : Shared) (σ : St) (H : Hp) (Q : List V → Hp → Prop), Inv X pins σ H s → t σ H Q → wpAny (model X.prog X.w) X.A (spliced (backTo pos (starEach es X.env))) (AP X pins σ Q) X.xe s
noncomputable def PS (X : Cx) (st : Stmt) (t : TS) : Prop :=
  ∀ (pins : List (Addr × Obj)) (s : Shared) (σ : St) (H : Hp) (D : Ends), Inv X pins σ H s → t D σ H → wpAny (model X.prog X.w) X.A (exec st X.env) (SP X pins D) X.xe s
noncomputable def PSs (X : Cx) (st : List Stmt) (t : TS) : Prop :=
  ∀ (pins : List (Addr × Obj)) (s : Shared) (σ : St) (H : Hp) (D : Ends), Inv X pins σ H s → t D σ H → wpAny (model X.prog X.w) X.A (execs st X.env) (SP X pins D) X.xe s
theorem thn {α : Type} {t : Sem α} {Q Q' : α → Shared → Prop} {M : Model} {A : Around} {E : Value → Shared → Prop} {s : Shared} (h : wpAny M A t Q E s) (hQ : ∀ a s, Q a s → Q' a s) : wpAny M A t Q' E s := wpAny_mono h hQ fun _ _ x => x
end L2
namespace L2
open PySem PySem.Spec PyProof.Rows
section
variable {X : Cx}
noncomputable def tVar (i : Nat) : TE := fun σ H Q => ∃ v, σ[i]? = some (some v) ∧ Q v H
noncomputable def tC (v : V) : TE := fun _ H Q => Q v H
theorem pe_var {i : Nat} {x : Str} {pos : Pos} (hN : X.N[i]? = some x) (hv : Vis X.env.scope x) (hd : (x == ("__debug__" : Str)) = false := by decide) (hcd : (x == ("__classdict__" : Str)) = false := by decide) : PE X (.Name x pos) (tVar i) := by
  intro pins s σ H Q I h
  obtain ⟨v, e, h⟩ := h
  obtain ⟨m, hn, hl⟩ := I.loc
  obtain ⟨u, r, l⟩ := hl i x v hN e hv
  have fin : EP X pins σ Q u s := ⟨v, H, I, r, h⟩
  rcases l with ⟨hk, hm⟩ | ⟨hk, c, hc, hcell⟩
  · exact wpAny_Name (wpAny_loadName_local I.ok.kind hk hn hm fin) hd
  · rcases hk with hk | hk
    · exact wpAny_Name (wpAny_loadName_cell I.ok.kind hk hc hcell fin) hd
    · exact wpAny_Name (wpAny_loadName_free I.ok.kind hk hc hcell fin hcd) hd
theorem pe_int {i j pos} : PE X (.Constant (.int i) j pos) (tC (.int i)) := fun _ _ _ H _ I h => wpAny_Constant_int ⟨.int i, H, I.tok _, ⟨_, rfl⟩, h⟩
theorem pe_bl {b j pos} : PE X (.Constant (.bool b) j pos) (tC (.bl b)) := fun _ _ _ H _ I h => Constant_bool ⟨.bl b, H, I, rfl, h⟩
theorem pe_non {j pos} : PE X (.Constant .none j pos) (tC .non) := fun _ _ _ H _ I h => Constant_none ⟨.non, H, I, rfl, h⟩
theorem pe_str {x j pos} : PE X (.Constant (.str x) j pos) (tC (.str x)) := fun _ _ _ H _ I h => Calls.Constant_str ⟨.str x, H, I.tok _, ⟨_, rfl⟩, h⟩
noncomputable def Gl (X : Cx) (x : Str) : Prop := X.env.kindOf x = some .globalImplicit
theorem ld_glob {E : Value → Shared → Prop} {pins : List (Addr × Obj)} {s : Shared} {σ : St} {H : Hp} {x : Str} {u : Value} {pos : Pos} {Q : Value → Shared → Prop} (I : Inv X pins σ H s) (hg : Gl X x) (hm : X.mg x = some u) (h : Q u s)
    (hd : (x == ("__debug__" : Str)) = false := by decide) : wpAny (model X.prog X.w) X.A (eval (.Name x pos) X.env) Q E s :=
  Calls.Name_function_global I.ok.kind hg (Calls.loadGlobal_global (by rw [I.ok.glob]; exact I.mod.glob.keeps I.bk) hm h) hd
theorem ld_blt {E : Value → Shared → Prop} {pins : List (Addr × Obj)} {s : Shared} {σ : St} {H : Hp} {x : Str} {u : Value} {pos : Pos} {Q : Value → Shared → Prop} (I : Inv X pins σ H s) (hg : Gl X x) (hm : X.mg x = none) (hv : bootBuiltins x = some u) (h : Q u s)
    (hn : x ≠ "__name__" := by decide) (hd : (x == ("__debug__" : Str)) = false := by decide) : wpAny (model X.prog X.w) X.A (eval (.Name x pos) X.env) Q E s := by
  obtain ⟨mb, h1, h2⟩ := I.mod.blt
  exact Calls.Name_function_global I.ok.kind hg (Calls.loadGlobal_builtin (by rw [I.ok.glob]; exact I.mod.glob.keeps I.bk) hm (by rw [I.ok.blt]; exact h1.keeps I.bk) ((h2 x hn).trans hv) h) hd
theorem pe_glob {x : Str} {v : V} {u : Value} {pos : Pos} (hg : Gl X x) (hm : X.mg x = some u) (r : RelV v u) (hd : (x == ("__debug__" : Str)) = false := by decide) : PE X (.Name x pos) (tC v) :=
  fun _ _ _ H _ I h => ld_glob I hg hm ⟨v, H, I, r, h⟩ hd
theorem pe_bltn {x : Str} {v : V} {u : Value} {pos : Pos} (hg : Gl X x) (hm : X.mg x = none) (hv : bootBuiltins x = some u) (r : RelV v u) (hn : x ≠ "__name__" := by decide) (hd : (x == ("__debug__" : Str)) = false := by decide) : PE X (.Name x pos) (tC v) :=
  fun _ _ _ H _ I h => ld_blt I hg hm hv ⟨v, H, I, r, h⟩ hn hd
variable {a b : Expr} {ta tb : TE} {pos : Pos}
variable {tA tB' : TT} {rest : List Expr}
noncomputable def tAnd (t u : TT) : TT := fun σ H Q => t σ H fun c H1 => if c = true then u σ H1 Q else Q false H1
noncomputable def tOr (t u : TT) : TT := fun σ H Q => t σ H fun c H1 => if c = true then Q true H1 else u σ H1 Q
noncomputable def tNot (t : TT) : TT := fun σ H Q => t σ H fun c H1 => Q (!c) H1
theorem pw_and1 (ha : PT X a tA) : PW X (.BoolOp .And [a] pos) tA := by
  intro wh pins s σ H Q I h
  refine isTrue_and (thn (ha pins s σ H Q I h) fun c s1 e => ?_)
  cases c with
  | true => exact isTrue_and_nil e
  | false => exact e
theorem pw_or1 (ha : PT X a tA) : PW X (.BoolOp .Or [a] pos) tA := by
  intro wh pins s σ H Q I h
  refine isTrue_or (thn (ha pins s σ H Q I h) fun c s1 e => ?_)
  cases c with
  | false => exact isTrue_or_nil e
  | true => exact e
theorem pw_and (ha : PT X a tA) (hb : PW X (.BoolOp .And (b :: rest) pos) tB') : PW X (.BoolOp .And (a :: b :: rest) pos) (tAnd tA tB') := by
  intro wh pins s σ H Q I h
  refine isTrue_and (thn (ha pins s σ H _ I h) fun c s1 ⟨H1, I1, q1⟩ => ?_)
  cases c with
  | true => exact hb wh pins s1 σ H1 Q I1 q1
  | false => exact ⟨H1, I1, q1⟩
theorem pw_or (ha : PT X a tA) (hb : PW X (.BoolOp .Or (b :: rest) pos) tB') : PW X (.BoolOp .Or (a :: b :: rest) pos) (tOr tA tB') := by
  intro wh pins s σ H Q I h
  refine isTrue_or (thn (ha pins s σ H _ I h) fun c s1 ⟨H1, I1, q1⟩ => ?_)
  cases c with
  | true => exact ⟨H1, I1, q1⟩
  | false => exact hb wh pins s1 σ H1 Q I1 q1
theorem pt_not (ha : PT X a tA) : PT X (.UnaryOp .Not a pos) (tNot tA) := by
  intro pins s σ H Q I h
  exact isTrue_not (ha pins s σ H (fun c H1 => Q (!c) H1) I h)
noncomputable def tAndV (ta tb : TE) : TE := fun σ H Q => ta σ H fun x H1 => ∃ c, x = .bl c ∧ if c = true then tb σ H1 Q else Q (.bl false) H1
noncomputable def tOrV (ta tb : TE) : TE := fun σ H Q => ta σ H fun x H1 => ∃ c, x = .bl c ∧ if c = true then Q (.bl true) H1 else tb σ H1 Q
noncomputable def tNotV (ta : TE) : TE := fun σ H Q => ta σ H fun x H1 => ∃ c, x = .bl c ∧ Q (.bl (!c)) H1
theorem pe_one {op} {t : TE} (h : PE X a t) : PE X (.BoolOp op [a] pos) t := fun pins s σ H Q I hw => BoolOp_one (h pins s σ H Q I hw)
theorem pe_and (ha : PE X a ta) (hb : PE X (.BoolOp .And (b :: rest) pos) tb) : PE X (.BoolOp .And (a :: b :: rest) pos) (tAndV ta tb) := by
  intro pins s σ H Q I h
  refine BoolOp_and (thn (ha pins s σ H _ I h) fun v s1 ⟨x, H1, I1, r1, q1⟩ => ?_)
  obtain ⟨c, rfl, q1⟩ := q1
  cases r1
  refine wpAny_truthy_bool ?_
  cases c with
  | true => exact hb pins s1 σ H1 Q I1 q1
  | false => exact ⟨.bl false, H1, I1, rfl, q1⟩
theorem pe_or (ha : PE X a ta) (hb : PE X (.BoolOp .Or (b :: rest) pos) tb) : PE X (.BoolOp .Or (a :: b :: rest) pos) (tOrV ta tb) := by
  intro pins s σ H Q I h
  refine BoolOp_or (thn (ha pins s σ H _ I h) fun v s1 ⟨x, H1, I1, r1, q1⟩ => ?_)
  obtain ⟨c, rfl, q1⟩ := q1
  cases r1
  refine wpAny_truthy_bool ?_
  cases c with
  | false => exact hb pins s1 σ H1 Q I1 q1
  | true => exact ⟨.bl true, H1, I1, rfl, q1⟩
theorem pe_not (ha : PE X a ta) : PE X (.UnaryOp .Not a pos) (tNotV ta) := by
  intro pins s σ H Q I h
  refine UnaryOp_ (thn (ha pins s σ H _ I h) fun v s1 ⟨x, H1, I1, r1, q1⟩ => ?_)
  obtain ⟨c, rfl, q1⟩ := q1
  cases r1
  exact not_of (wpAny_truthy_bool ⟨.bl (!c), H1, I1, rfl, q1⟩)
noncomputable def tIf (t : TT) (ta tb : TE) : TE := fun σ H Q => t σ H fun c H1 => if c = true then ta σ H1 Q else tb σ H1 Q
theorem pe_ifExp {c : Expr} (hc : PT X c tA) (ha : PE X a ta) (hb : PE X b tb) : PE X (.IfExp c a b pos) (tIf tA ta tb) := by
  intro pins s σ H Q I h
  refine wpAny_IfExp (thn (hc pins s σ H _ I h) fun d s1 ⟨H1, I1, q1⟩ => ?_)
  cases d with
  | true => exact ha pins s1 σ H1 Q I1 q1
  | false => exact hb pins s1 σ H1 Q I1 q1
end
end L2
namespace L2
open PySem PySem.Spec PyProof.Rows
noncomputable def SqL (K : PySem.W.Frag) (H : Hp) (a : Addr) (xs : List V) : Prop :=
  Rd H a (.lst xs) ∨
    ∃ (o : Obj) (its : Array Value) (n : Nat), K.lookup a = some o ∧ o.cls = .type "list" ∧ o.dict = none ∧ o.data = .seq its n ∧ its.size ≤ sizeLine ∧ Vals xs its.toList
noncomputable def SqT (K : PySem.W.Frag) (H : Hp) (a : Addr) (xs : List V) : Prop :=
  Rd H a (.tup xs) ∨
    ∃ (o : Obj) (its : Array Value) (n : Nat), K.lookup a = some o ∧ o.cls = .type "tuple" ∧ o.data = .seq its n ∧ its.size ≤ sizeLine ∧ Vals xs its.toList
noncomputable def absV : Value → Option V
  | .none => some .non
  | .bool b => some (.bl b)
  | .int i _ => some (.int i)
  | .str x _ => some (.str x)
  | .bytes b _ => some (.byt b)
  | .float b _ => some (.flt b)
  | .ref a => some (.ref a)
  | .type n => some (.ty n)
  | _ => none
theorem RelV.abs {x : V} {u : Value} (r : RelV x u) : absV u = some x := by
  cases x with
  | non => cases r; rfl
  | bl _ => cases r; rfl
  | int _ => obtain ⟨t, rfl⟩ := r; rfl
  | str _ => obtain ⟨t, rfl⟩ := r; rfl
  | byt _ => obtain ⟨t, rfl⟩ := r; rfl
  | flt _ => obtain ⟨t, rfl⟩ := r; rfl
  | ref _ => cases r; rfl
  | ty _ => cases r; rfl
theorem RelV.inj {x y : V} {u : Value} (r : RelV x u) (q : RelV y u) : x = y := Option.some.inj (r.abs.symm.trans q.abs)
theorem Vals.inj {xs ys : List V} {us : List Value} (h : Vals xs us) : Vals ys us → xs = ys := by
  induction h generalizing ys with
  | nil => intro k; cases k; rfl
  | cons r k ih =>
    intro w
    cases w with
    | cons r' w' => rw [r.inj r', ih w']
section
variable {X : Cx} {pins : List (Addr × Obj)} {σ : St} {H : Hp} {s : Shared} {a : Addr} {xs ys : List V}
theorem SqL.of {K : PySem.W.Frag} (h : H a = some (.lst xs)) : SqL K H a xs := .inl (.inl h)
theorem SqT.of {K : PySem.W.Frag} (h : H a = some (.tup xs)) : SqT K H a xs := .inl (.inl h)
theorem Inv.list (I : Inv X pins σ H s) (h : SqL X.K H a xs) : ∃ its : List Value, Vals xs its ∧ PlainL s.heap a its.toArray ∧ xs.length ≤ sizeLine := by
  rcases h with h | ⟨o, its, n, hk, hc, hd, hs, hz, r⟩
  · obtain ⟨z, its, n, r, e⟩ := h.ok I.hok
    exact ⟨its, r, ⟨_, n, e, rfl, rfl, rfl⟩, z⟩
  · refine ⟨its.toList, r, ⟨o, n, I.kIn a o hk, hc, hd, by simpa using hs⟩, ?_⟩
    have e := r.length
    simp only [Array.length_toList] at e
    omega
theorem Inv.tuple (I : Inv X pins σ H s) (h : SqT X.K H a xs) : ∃ its : List Value, Vals xs its ∧ IsTup s.heap a its.toArray ∧ xs.length ≤ sizeLine := by
  rcases h with h | ⟨o, its, n, hk, hc, hs, hz, r⟩
  · obtain ⟨z, its, r, p⟩ := h.ok I.hok
    exact ⟨its, r, p, z⟩
  · refine ⟨its.toList, r, ⟨o, I.kIn a o hk, hc, n, by simpa using hs⟩, ?_⟩
    have e := r.length
    simp only [Array.length_toList] at e
    omega
theorem Inv.list_inj (I : Inv X pins σ H s) (h : SqL X.K H a xs) (h' : SqL X.K H a ys) : xs = ys := by
  obtain ⟨its, r, ⟨o, n, e, _, _, d⟩, _⟩ := I.list h
  obtain ⟨its', r', ⟨o', n', e', _, _, d'⟩, _⟩ := I.list h'
  rw [e] at e'; cases e'
  rw [d] at d'
  injection d' with d1 _
  have : its = its' := by simpa using congrArg Array.toList d1
  subst this
  exact r.inj r'
theorem Inv.tuple_inj (I : Inv X pins σ H s) (h : SqT X.K H a xs) (h' : SqT X.K H a ys) : xs = ys := by
  obtain ⟨its, r, ⟨o, e, _, n, d⟩, _⟩ := I.tuple h
  obtain ⟨its', r', ⟨o', e', _, n', d'⟩, _⟩ := I.tuple h'
  rw [e] at e'; cases e'
  rw [d] at d'
  injection d' with d1 _
  have : its = its' := by simpa using congrArg Array.toList d1
  subst this
  exact r.inj r'
end
section
variable {X : Cx} {pins : List (Addr × Obj)} {σ : St} {H : Hp} {s : Shared} {E : Value → Shared → Prop}
end
section
variable {X : Cx} {st : Stmt} {rest : List Stmt} {t u : TS} {e : Expr} {te : TE} {pos : Pos}
noncomputable def tNext : TS := fun D σ H => D.nx σ H
noncomputable def tSeq (t u : TS) : TS := fun D σ H => t { D with nx := u D } σ H
theorem pss_nil : PSs X [] tNext := fun _ _ σ H _ I h => wpAny_execs_nil ⟨σ, H, I, h⟩
theorem pss_cons (h1 : PS X st t) (h2 : PSs X rest u) : PSs X (st :: rest) (tSeq t u) := by
  intro pins s σ H D I h
  refine wpAny_execs_cons (thn (h1 pins s σ H { D with nx := u D } I h) fun f s1 q => ?_)
  cases f with
  | next =>
    obtain ⟨σ', H', I', q⟩ := q
    exact h2 pins s1 σ' H' D I' q
  | ret v => exact q
  | brk => exact q
  | cont => exact q
noncomputable def tBreak : TS := fun D σ H => D.bk σ H
noncomputable def tCont : TS := fun D σ H => D.ct σ H
theorem ps_pass : PS X (.Pass pos) tNext := fun _ _ σ H _ I h => wpAny_Pass ⟨σ, H, I, h⟩
theorem ps_break : PS X (.Break pos) tBreak := fun _ _ σ H _ I h => wpAny_Break ⟨σ, H, I, h⟩
theorem ps_continue : PS X (.Continue pos) tCont := fun _ _ σ H _ I h => wpAny_Continue ⟨σ, H, I, h⟩
theorem Inv.quiet {pins : List (Addr × Obj)} {σ : St} {H : Hp} {s : Shared} (I : Inv X pins σ H s) : interactive X.env = false := by simp [interactive, I.ok.kind]
noncomputable def tDrop (te : TE) : TS := fun D σ H => te σ H fun _ H1 => D.nx σ H1
theorem ps_expr (he : PE X e te) (hs : swapsWith e none pos.line X.env = pure false := by rfl) : PS X (.Expr e pos) (tDrop te) := by
  intro pins s σ H D I h
  exact wpAny_Expr_any (thn (he pins s σ H _ I h) fun v s1 ⟨x, H1, I1, r1, q1⟩ => ⟨σ, H1, I1, q1⟩) I.quiet hs
noncomputable def tRet (te : TE) : TS := fun D σ H => te σ H D.rt
theorem ps_ret (he : PE X e te) : PS X (.Return (some e) pos) (tRet te) := by
  intro pins s σ H D I h
  exact wpAny_Return_some (thn (he pins s σ H _ I h) fun v s1 ⟨x, H1, I1, r1, q1⟩ => ⟨x, σ, H1, I1, r1, q1⟩)
noncomputable def tRetN : TS := fun D _ H => D.rt .non H
theorem ps_retN : PS X (.Return none pos) tRetN := fun _ _ σ H _ I h => wpAny_Return_none ⟨.non, σ, H, I, rfl, h⟩
noncomputable def tIfS (c : TT) (t u : TS) : TS := fun D σ H => c σ H fun b H1 => if b = true then t D σ H1 else u D σ H1
theorem ps_if {c : Expr} {a b : List Stmt} {tc : TT} (hc : PT X c tc) (ha : PSs X a t) (hb : PSs X b u) : PS X (.If c a b pos) (tIfS tc t u) := by
  intro pins s σ H D I h
  refine wpAny_If (thn (hc pins s σ H _ I h) fun d s1 ⟨H1, I1, q1⟩ => ?_)
  cases d with
  | true => exact ha pins s1 σ H1 D I1 q1
  | false => exact hb pins s1 σ H1 D I1 q1
end
noncomputable abbrev TG := V → St → Hp → (St → Hp → Prop) → Prop
noncomputable abbrev TGs := List V → St → Hp → (St → Hp → Prop) → Prop
noncomputable def PG (X : Cx) (target : Expr) (t : TG) : Prop :=
  ∀ (pins : List (Addr × Obj)) (s : Shared) (σ : St) (H : Hp) (v : V) (u : Value) (Q : St → Hp → Prop), Inv X pins σ H s → RelV v u → t v σ H Q →
    wpAny (model X.prog X.w) X.A (assign target X.env u) (fun _ s' => ∃ σ' H', Inv X pins σ' H' s' ∧ Q σ' H') X.xe s
noncomputable def PGs (X : Cx) (ts : List Expr) (t : TGs) : Prop :=
  ∀ (pins : List (Addr × Obj)) (s : Shared) (σ : St) (H : Hp) (vs : List V) (us : List Value) (Q : St → Hp → Prop), Inv X pins σ H s → Vals vs us → t vs σ H Q →
    wpAny (model X.prog X.w) X.A (assignInOrder ((assignEach ts X.env).map (·.2)) us) (fun _ s' => ∃ σ' H', Inv X pins σ' H' s' ∧ Q σ' H') X.xe s
noncomputable abbrev TSet := V → V → V → Hp → (Hp → Prop) → Prop
noncomputable def PSet (X : Cx) (t : TSet) : Prop :=
  ∀ (pins : List (Addr × Obj)) (s : Shared) (σ : St) (H : Hp) (o i v : V) (ov iv u : Value) (Q : Hp → Prop), Inv X pins σ H s → RelV o ov → RelV i iv → RelV v u → t o i v H Q →
    wpAny (model X.prog X.w) X.A (setItem ov iv u) (fun _ s' => ∃ H', Inv X pins σ H' s' ∧ Q H') X.xe s
section
variable {X : Cx} {pos : Pos}
noncomputable def gName (i : Nat) : TG := fun v σ H Q => Q (σ.set i (some v)) H
theorem pg_name {i : Nat} {x : Str} (hN : X.N.Nodup) (hi : X.N[i]? = some x) (hx : Loc X.env.scope x) (hf : X.fn x = true ∨ X.env.scope.names.lookup x = some .local := by first | exact .inl rfl | exact .inr rfl | assumption) : PG X (.Name x pos) (gName i) := by
  intro pins s σ H v u Q I r h
  exact wpAny_assign_Name (store_ok I hN hi hx r (fun s' I' => ⟨_, H, I', h⟩) hf)
noncomputable def gNil : TGs := fun vs σ H Q => vs = [] ∧ Q σ H
noncomputable def gCons (t : TG) (u : TGs) : TGs := fun vs σ H Q => ∃ v r, vs = v :: r ∧ t v σ H fun σ' H' => u r σ' H' Q
theorem pgs_nil : PGs X [] gNil := by
  intro pins s σ H vs us Q I r h
  obtain ⟨e, h⟩ := h
  subst e
  cases r
  exact assignInOrder_nil ⟨σ, H, I, h⟩
theorem pgs_cons {e : Expr} {es : List Expr} {t : TG} {u : TGs} (h1 : PG X e t) (h2 : PGs X es u)
    (hs : (assignEach (e :: es) X.env).map (·.2) = assign e X.env :: (assignEach es X.env).map (·.2) := by rfl) : PGs X (e :: es) (gCons t u) := by
  intro pins s σ H vs us Q I r h
  obtain ⟨v, vr, e1, h⟩ := h
  subst e1
  cases r with
  | cons r rr =>
    rw [hs]
    refine assignInOrder_cons (thn (h1 pins s σ H _ _ _ I r h) fun _ s1 ⟨σ1, H1, I1, q1⟩ => ?_)
    exact h2 pins s1 σ1 H1 _ _ Q I1 rr q1
noncomputable def gTup (K : PySem.W.Frag) (n : Nat) (t : TGs) : TG := fun v σ H Q => ∃ a xs, v = .ref a ∧ SqT K H a xs ∧ xs.length = n ∧ t xs σ H Q
theorem pg_tup {es : List Expr} {k : Nat} {t : TGs} {n : Nat} (hc : X.calm = true) (h : PGs X es t)
    (hn : (assignEach es X.env).length = n := by rfl) (hst : (assignEach es X.env).findIdx? (·.1) = none := by rfl) : PG X (.Tuple es k pos) (gTup X.K n t) := by
  intro pins s σ H v u Q I r hw
  obtain ⟨a, xs, e1, hq, hl, hw⟩ := hw
  subst e1
  cases r
  obtain ⟨its, rv, ht, hz⟩ := I.tuple hq
  refine assign_Tuple_tuple (I.ok.hd hc) ht (by simp [hn, ← hl, rv.length]) hst fun h' hx => ?_
  have I1 : Inv X pins σ H { s with heap := h' } := I.kept (t' := s.toks) fun b o e => hx b o (Nat.ne_of_lt (Heap.lt_size e)) e
  exact h pins _ σ H xs _ Q I1 (by simpa using rv) hw
noncomputable def gSub (to ti : TE) (t : TSet) : TG := fun v σ H Q => to σ H fun o H1 => ti σ H1 fun i H2 => t o i v H2 fun H3 => Q σ H3
theorem pg_sub {o i : Expr} {to ti : TE} {t : TSet} (ho : PE X o to) (hi : PE X i ti) (hs : PSet X t)
    (ha : ∀ v, assign (.Subscript o i pos) X.env v = (do
      let ov ← holding [v] (eval o X.env)
      let iv ← holding [v, ov] (eval i X.env)
      standAt pos
      holding [v, ov, iv] (setItem ov iv v)
      release [v, ov, iv] []) := by intro _; rfl) : PG X (.Subscript o i pos) (gSub to ti t) := by
  intro pins s σ H v u Q I r h
  rw [ha]
  refine wpAny_bind (wpAny_holding (thn (ho pins s σ H _ I h) fun ov s1 ⟨x, H1, I1, r1, q1⟩ => ?_))
  refine wpAny_bind (wpAny_holding (thn (hi pins s1 σ H1 _ I1 q1) fun iv s2 ⟨y, H2, I2, r2, q2⟩ => ?_))
  refine wpAny_bind (wpAny_standAt (wpAny_bind (wpAny_holding (thn (hs pins s2 σ H2 x y v ov iv u _ I2 r1 r2 r q2) fun _ s3 ⟨H3, I3, q3⟩ => ?_))))
  exact wpAny_release ⟨σ, H3, I3, q3⟩
noncomputable def tAsg (te : TE) (g : TG) : TS := fun D σ H => te σ H fun x H1 => g x σ H1 D.nx
theorem ps_asg {tg e : Expr} {te : TE} {g : TG} (he : PE X e te) (hg : PG X tg g) (hs : swapsWithSole [tg] e pos.line X.env = pure false := by rfl) (hw : swappedStores [tg] e X.env = pure none := by rfl)
    (h1 : (assignEach [tg] X.env).map (·.2) = [assign tg X.env] := by rfl) : PS X (.Assign [tg] e pos) (tAsg te g) := by
  intro pins s σ H D I h
  refine wpAny_Assign_stores (thn (he pins s σ H _ I h) fun v s1 ⟨x, H1, I1, r1, q1⟩ => ?_) hs hw
  rw [h1]
  exact thn (hg pins s1 σ H1 x v _ I1 r1 q1) fun _ s2 q => q
theorem ps_set {i : Nat} {x : Str} {e : Expr} {te : TE} {pos' : Pos} (hN : X.N.Nodup) (hi : X.N[i]? = some x) (hx : Loc X.env.scope x) (he : PE X e te) (hs : swapsWith e (some (.Name x pos')) pos.line X.env = pure false := by rfl) (hf : X.fn x = true ∨ X.env.scope.names.lookup x = some .local := by first | exact .inl rfl | exact .inr rfl | assumption) :
    PS X (.Assign [.Name x pos'] e pos) (tAsg te (gName i)) := by
  intro pins s σ H D I h
  refine wpAny_Assign_Name (thn (he pins s σ H _ I h) fun v s1 ⟨y, H1, I1, r1, q1⟩ => ?_) hs
  exact store_ok I1 hN hi hx r1 (fun s2 I2 => ⟨_, H1, I2, q1⟩) hf
end
section
variable {X : Cx} {pos : Pos}
noncomputable def tWhile (c : TT) (tb : TS) : TS := fun D σ H => ∃ W : Nat → St → Hp → Prop, (∃ m, W m σ H) ∧ ∀ m σ H, W m σ H →
  c σ H fun b H1 => if b = true then ∃ N : St → Hp → Prop, (∀ σ' H', N σ' H' → ∃ m', m' < m ∧ W m' σ' H') ∧ tb { D with nx := N, ct := N, bk := D.nx } σ H1 else D.nx σ H1
end
structure It where
  go : Nat → Hp → Prop
  yld : Nat → Hp → V → Hp → Prop
  stop : Nat → Hp → Prop
noncomputable def FpOk (X : Cx) (pins : List (Addr × Obj)) (H : Hp) (b : Addr) : Prop :=
  H b = none ∧ b ≠ X.env.locals ∧ b ∉ X.fs ∧ (b ∈ X.ex ∨ X.s₀.heap.objs.size ≤ b) ∧ (∀ x c, X.env.cells.lookup x = some c → c ≠ b) ∧ ∀ p ∈ X.pn ++ pins, p.1 ≠ b
theorem Inv.fpOk {X : Cx} {pins : List (Addr × Obj)} {σ : St} {H H' : Hp} {s : Shared} {b : Addr} (I : Inv X pins σ H s) (hb : s.heap.objs.size ≤ b) (hn : H' b = none) : FpOk X pins H' b := by
  refine ⟨hn, Nat.ne_of_gt (Nat.lt_of_lt_of_le I.lt hb), I.nofs hb, .inr (Nat.le_trans I.sz hb), fun x c e z => ?_, fun p hp z => ?_⟩
  · obtain ⟨v, q⟩ := I.cell x c e
    exact absurd (Nat.lt_of_lt_of_le q.lt (by rw [z]; exact hb)) (Nat.lt_irrefl _)
  · exact absurd (Nat.lt_of_lt_of_le (Heap.lt_size (I.pin p hp).1) (by rw [z]; exact hb)) (Nat.lt_irrefl _)
structure Turn (P : Program) (w : World) (K : PySem.W.Frag) (tg : Expr) (J : It) (fp : List Addr) (it : Addr) (tn : Nat → Heap → Prop) : Prop where
  mem : it ∈ fp
  obj : ∀ i h, tn i h → ∀ b ∈ fp, ∃ o, h.get? b = some o ∧ ∀ v, o.data ≠ .cell v
  keep : ∀ i h h', tn i h → (∀ b ∈ fp, ∀ o, h.get? b = some o → h'.get? b = some o) → tn i h'
  item : ∀ (X : Cx), X.prog = P → X.w = w → X.K = K → X.calm = true → ∀ (i : Nat) (pins : List (Addr × Obj)) (s : Shared) (σ : St) (H : Hp) (E : Value → Shared → Prop), Inv X pins σ H s → (∀ b ∈ fp, FpOk X pins H b) → tn i s.heap → J.go i H →
    wpAny (model P w) X.A (pyNext (.ref it)) (fun r s1 => ∃ u, r = some u ∧
      wpAny (model P w) X.A (letOwnedTupleGo tg (.ref it) u) (fun _ s2 => ∃ x H', Inv X pins σ H' s2 ∧ RelV x u ∧ J.yld i H x H' ∧ tn (i + 1) s2.heap ∧ ∀ b ∈ fp, H' b = none) E s1) E s
  done : ∀ (X : Cx), X.prog = P → X.w = w → X.K = K → X.calm = true → ∀ (i : Nat) (pins : List (Addr × Obj)) (s : Shared) (σ : St) (H : Hp) (E : Value → Shared → Prop), Inv X pins σ H s → (∀ b ∈ fp, FpOk X pins H b) → tn i s.heap → J.stop i H →
    wpAny (model P w) X.A (pyNext (.ref it)) (fun r s1 => r = none ∧ Inv X pins σ H s1) E s
  self : ∀ (A : Around) (i : Nat) (s : Shared) (Q : Value → Shared → Prop) (E : Value → Shared → Prop), tn i s.heap → Q (.ref it) s → wpAny (model P w) A (pyIter (.ref it)) Q E s
noncomputable abbrev TI := St → Hp → (It → Hp → Prop) → Prop
noncomputable def PIE (X : Cx) (pins : List (Addr × Obj)) (σ : St) (tg : Expr) (R : It → Hp → Prop) (itv : Value) (s2 : Shared) : Prop :=
  ∃ (it : Addr) (fp : List Addr) (tn : Nat → Heap → Prop) (J : It) (H' : Hp), itv = .ref it ∧ Inv X pins σ H' s2 ∧ Turn X.prog X.w X.K tg J fp it tn ∧ tn 0 s2.heap ∧ (∀ b ∈ fp, FpOk X pins H' b) ∧ R J H'
noncomputable def PI (X : Cx) (tg iter : Expr) (wi : TI) : Prop :=
  ∀ (pins : List (Addr × Obj)) (s : Shared) (σ : St) (H : Hp) (R : It → Hp → Prop), Inv X pins σ H s → wi σ H R →
    wpAny (model X.prog X.w) X.A (eval iter X.env) (fun v s1 => wpAny (model X.prog X.w) X.A (pyIter v) (PIE X pins σ tg R) X.xe s1) X.xe s
theorem go_of {M : Model} {A : Around} {E : Value → Shared → Prop} {s : Shared} {tg : Expr} {it : Addr} {u : Value} {o : Obj} {n : String} {vs : Array Value} {Q : Unit → Shared → Prop} (ho : s.heap.get? it = some o) (hc : o.cls = .type n) (hd : o.data = .fields vs)
    (hn : ["enumerate", "zip", "dict_itemiterator", "dict_reverseitemiterator", "odict_iterator", "itertools.zip_longest", "itertools.pairwise"].contains n = false) (hQ : Q () s) : wpAny M A (letOwnedTupleGo tg (.ref it) u) Q E s := by
  unfold letOwnedTupleGo
  cases tg <;> first
    | exact wpAny_pure hQ
    | (cases u <;> first
        | exact wpAny_pure hQ
        | (refine wpAny_bind (wpAny_load ho ?_)
           rw [hc, hd]
           show wpAny M A (if (["enumerate", "zip", "dict_itemiterator", "dict_reverseitemiterator", "odict_iterator", "itertools.zip_longest", "itertools.pairwise"].contains n && vs[0]? == some (rawInt _)) = true then _ else _) Q E s
           rw [if_neg (by intro h; rw [hn, Bool.false_and] at h; cases h)]
           exact wpAny_pure hQ))
noncomputable def Itl (K : PySem.W.Frag) (a : Addr) : It :=
  ⟨fun i H => ∃ xs x, SqL K H a xs ∧ xs[i]? = some x, fun i H x H' => H' = H ∧ ∀ xs, SqL K H a xs → xs[i]? = some x, fun i H => ∃ xs, SqL K H a xs ∧ xs.length ≤ i⟩
noncomputable def Itt (K : PySem.W.Frag) (a : Addr) : It :=
  ⟨fun i H => ∃ xs x, SqT K H a xs ∧ xs[i]? = some x, fun i H x H' => H' = H ∧ ∀ xs, SqT K H a xs → xs[i]? = some x, fun i H => ∃ xs, SqT K H a xs ∧ xs.length ≤ i⟩
noncomputable def Itr (lo : Int) (n : Nat) : It := ⟨fun i _ => i < n, fun i H x H' => H' = H ∧ x = .int (lo + i), fun i _ => n ≤ i⟩
theorem turn_list {P : Program} {w : World} {K : PySem.W.Frag} {tg : Expr} (a it : Addr) : Turn P w K tg (Itl K a) [it] it (fun i h => h.IsListIter it a i) where
  mem := by simp
  obj := fun i h st b hb => by
    have e : b = it := by simpa using hb
    subst e
    obtain ⟨o, e, c, d⟩ := st
    exact ⟨o, e, fun v z => by rw [d] at z; cases z⟩
  keep := fun i h h' st k => st.at fun o e => k it (by simp) o e
  item := by
    intro X hP hw hK hc i pins s σ H E I hf st hg
    subst hP hw hK
    obtain ⟨xs, x, hq, hx⟩ := hg
    obtain ⟨its, rv, p, hz⟩ := I.list hq
    obtain ⟨u, hu, ru⟩ := rv.get hx
    obtain ⟨f0, f1, f2, f3, f4, f5⟩ := hf it (by simp)
    refine wpAny_pyNext_list_item st p.isList (x := u) (by simpa using hu) fun h' st' sb => ?_
    have I1 : Inv X pins σ H { s with heap := h' } := I.turned (t' := s.toks) (fun b o hb e => (sb.2 b hb).trans e) f0 f1 f3 f4 f5
    obtain ⟨o, e, c, d⟩ := id st'
    exact ⟨u, rfl, go_of (s := { s with heap := h' }) e c d (by decide) ⟨x, H, I1, ru, ⟨rfl, fun ys hy => by rw [I.list_inj hy hq]; exact hx⟩, st', fun b hb => (hf b hb).1⟩⟩
  done := by
    intro X hP hw hK hc i pins s σ H E I hf st hg
    subst hP hw hK
    obtain ⟨xs, hq, hx⟩ := hg
    obtain ⟨its, rv, p, hz⟩ := I.list hq
    obtain ⟨f0, f1, f2, f3, f4, f5⟩ := hf it (by simp)
    have hl := rv.length
    exact wpAny_pyNext_list_end (I.ok.hd hc) st p.isList (by simp; omega) fun h' eb => ⟨rfl, I.turned (t' := s.toks) (fun b o hb e => eb b o hb e) f0 f1 f3 f4 f5⟩
  self := fun _ _ _ _ _ st h => wpAny_pyIter_listiter st h
theorem turn_tuple {P : Program} {w : World} {K : PySem.W.Frag} {tg : Expr} (a it : Addr) : Turn P w K tg (Itt K a) [it] it (fun i h => h.IsTupleIter it a i) where
  mem := by simp
  obj := fun i h st b hb => by
    have e : b = it := by simpa using hb
    subst e
    obtain ⟨o, e, c, d⟩ := st
    exact ⟨o, e, fun v z => by rw [d] at z; cases z⟩
  keep := fun i h h' st k => st.at fun o e => k it (by simp) o e
  item := by
    intro X hP hw hK hc i pins s σ H E I hf st hg
    subst hP hw hK
    obtain ⟨xs, x, hq, hx⟩ := hg
    obtain ⟨its, rv, p, hz⟩ := I.tuple hq
    obtain ⟨u, hu, ru⟩ := rv.get hx
    obtain ⟨f0, f1, f2, f3, f4, f5⟩ := hf it (by simp)
    refine wpAny_pyNext_tuple_item st (show s.heap.IsTuple a its.toArray from p) (x := u) (by simpa using hu) fun h' st' sb => ?_
    have I1 : Inv X pins σ H { s with heap := h' } := I.turned (t' := s.toks) (fun b o hb e => (sb.2 b hb).trans e) f0 f1 f3 f4 f5
    obtain ⟨o, e, c, d⟩ := id st'
    exact ⟨u, rfl, go_of (s := { s with heap := h' }) e c d (by decide) ⟨x, H, I1, ru, ⟨rfl, fun ys hy => by rw [I.tuple_inj hy hq]; exact hx⟩, st', fun b hb => (hf b hb).1⟩⟩
  done := by
    intro X hP hw hK hc i pins s σ H E I hf st hg
    subst hP hw hK
    obtain ⟨xs, hq, hx⟩ := hg
    obtain ⟨its, rv, p, hz⟩ := I.tuple hq
    obtain ⟨f0, f1, f2, f3, f4, f5⟩ := hf it (by simp)
    have hl := rv.length
    exact wpAny_pyNext_tuple_end (I.ok.hd hc) st (show s.heap.IsTuple a its.toArray from p) (by simp; omega) fun h' eb => ⟨rfl, I.turned (t' := s.toks) (fun b o hb e => eb b o hb e) f0 f1 f3 f4 f5⟩
  self := fun _ _ _ _ _ st h => wpAny_pyIter_tupleiter st h
theorem turn_range {P : Program} {w : World} {K : PySem.W.Frag} {tg : Expr} (it : Addr) (lo : Int) (n : Nat) : Turn P w K tg (Itr lo n) [it] it (fun i h => IsRangeIter h it (lo + (i : Nat) * 1) ((n : Int) - (i : Nat)) 1) where
  mem := by simp
  obj := fun i h st b hb => by
    have e : b = it := by simpa using hb
    subst e
    exact ⟨_, st, fun v z => by
      have z' : Data.fields _ = Data.cell v := z
      cases z'⟩
  keep := fun i h h' st k => k it (by simp) _ st
  item := by
    intro X hP hw hK hc i pins s σ H E I hf st hg
    subst hP hw hK
    obtain ⟨f0, f1, f2, f3, f4, f5⟩ := hf it (by simp)
    have W := Walks.range (prog := X.prog) (w := X.w) (I.ok.hd hc) it lo 1 n
    refine W.item i s _ _ hg st fun v h' tk hv st' kk => ?_
    obtain ⟨t, rfl⟩ := hv
    have I1 : Inv X pins σ H { s with heap := h', toks := tk } := I.turned (fun b o hb e => kk b o (by simpa using hb) e) f0 f1 f3 f4 f5
    refine ⟨_, rfl, go_of (s := { s with heap := h', toks := tk }) (n := "range_iterator") st' rfl rfl (by decide) ⟨.int (lo + i), H, I1, ⟨t, ?_⟩, ⟨rfl, rfl⟩, st', fun b hb => (hf b hb).1⟩⟩
    rw [Int.mul_one]
  done := by
    intro X hP hw hK hc i pins s σ H E I hf st hg
    subst hP hw hK
    obtain ⟨f0, f1, f2, f3, f4, f5⟩ := hf it (by simp)
    exact wpAny_pyNext_range_end (I.ok.hd hc) st (by have : n ≤ i := hg; omega) fun h' eb => ⟨rfl, I.turned (t' := s.toks) (fun b o hb e => eb b o hb e) f0 f1 f3 f4 f5⟩
  self := fun _ _ _ _ _ st h => wpAny_pyIter_rangeiter st h
end L2
namespace L2
open PySem PySem.Spec PyProof.Rows
section
variable {X : Cx} {tg : Expr}
noncomputable def iList (K : PySem.W.Frag) (tl : TE) : TI := fun σ H R => tl σ H fun x H1 => ∃ a, x = .ref a ∧ (∃ xs, SqL K H1 a xs) ∧ R (Itl K a) H1
noncomputable def iTup (K : PySem.W.Frag) (tl : TE) : TI := fun σ H R => tl σ H fun x H1 => ∃ a, x = .ref a ∧ (∃ xs, SqT K H1 a xs) ∧ R (Itt K a) H1
theorem pi_list {l : Expr} {tl : TE} (hl : PE X l tl) : PI X tg l (iList X.K tl) := by
  intro pins s σ H R I h
  refine thn (hl pins s σ H _ I h) fun v s1 ⟨x, H1, I1, r1, q1⟩ => ?_
  obtain ⟨a, e, ⟨xs, hq⟩, q⟩ := q1
  subst e
  cases r1
  obtain ⟨its, rv, p, hz⟩ := I1.list hq
  refine wpAny_pyIter_list p.isList ?_
  refine ⟨s1.heap.objs.size, [s1.heap.objs.size], _, _, H1, rfl, I1.kept (t' := s1.toks) fun b o e => Heap.get?_push_of_some _ e, turn_list a _, ⟨_, Heap.get?_push_size _ rfl, rfl, rfl⟩, fun b hb => ?_, q⟩
  have e : b = s1.heap.objs.size := by simpa using hb
  subst e
  exact I1.fpOk (Nat.le_refl _) (I1.hok.fresh (Nat.le_refl _))
theorem pi_tup {l : Expr} {tl : TE} (hl : PE X l tl) : PI X tg l (iTup X.K tl) := by
  intro pins s σ H R I h
  refine thn (hl pins s σ H _ I h) fun v s1 ⟨x, H1, I1, r1, q1⟩ => ?_
  obtain ⟨a, e, ⟨xs, hq⟩, q⟩ := q1
  subst e
  cases r1
  obtain ⟨its, rv, p, hz⟩ := I1.tuple hq
  refine wpAny_pyIter_tuple (show s1.heap.IsTuple a its.toArray from p) ?_
  refine ⟨s1.heap.objs.size, [s1.heap.objs.size], _, _, H1, rfl, I1.kept (t' := s1.toks) fun b o e => Heap.get?_push_of_some _ e, turn_tuple a _, ⟨_, Heap.get?_push_size _ rfl, rfl, rfl⟩, fun b hb => ?_, q⟩
  have e : b = s1.heap.objs.size := by simpa using hb
  subst e
  exact I1.fpOk (Nat.le_refl _) (I1.hok.fresh (Nat.le_refl _))
theorem range_it {pins : List (Addr × Obj)} {σ : St} {H : Hp} {s : Shared} {R : It → Hp → Prop} {E : Value → Shared → Prop} {lo hi : Int} {t u v : Tok} {tk : Nat} (I : Inv X pins σ H s) (h1 : -(2 ^ 62) ≤ lo) (h2 : lo < 2 ^ 62) (h3 : -(2 ^ 62) ≤ hi) (h4 : hi < 2 ^ 62)
    (q : R (Itr lo (hi - lo).toNat) H) : wpAny (model X.prog X.w) X.A (pyIter (.ref s.heap.objs.size)) (PIE X pins σ tg R) E { s with heap := s.heap.push { cls := .type "range", data := .fields #[.int lo t, .int hi u, .int 1 v] }, toks := tk } := by
  refine wpAny_pyIter_range (IsRange.new ..) (small_one h1 h2 h3 h4) ?_
  have I1 : Inv X pins σ H { s with heap := s.heap.push { cls := .type "range", data := .fields #[.int lo t, .int hi u, .int 1 v] }, toks := tk } := I.kept fun b o e => Heap.get?_push_of_some _ e
  refine ⟨(s.heap.push { cls := .type "range", data := .fields #[.int lo t, .int hi u, .int 1 v] }).objs.size, [(s.heap.push { cls := .type "range", data := .fields #[.int lo t, .int hi u, .int 1 v] }).objs.size], _, _, H, rfl,
    I1.kept (t' := tk) fun b o e => Heap.get?_push_of_some _ e, turn_range _ lo (hi - lo).toNat, ?_, fun b hb => ?_, q⟩
  · have e1 : lo + ((0 : Nat) : Int) * 1 = lo := by simp
    have e2 : (((hi - lo).toNat : Nat) : Int) - ((0 : Nat) : Int) = Builtin.Range.rangeSize lo hi 1 := by rw [rangeSize_one]; split <;> omega
    show IsRangeIter _ _ (lo + ((0 : Nat) : Int) * 1) ((((hi - lo).toNat : Nat) : Int) - ((0 : Nat) : Int)) 1
    rw [e1, e2]
    exact Heap.get?_push_size _ rfl
  · have e : b = (s.heap.push { cls := .type "range", data := .fields #[.int lo t, .int hi u, .int 1 v] }).objs.size := by simpa using hb
    subst e
    exact I1.fpOk (Nat.le_refl _) (I1.hok.fresh (Nat.le_refl _))
noncomputable def iRng1 (ta : TA) : TI := fun σ H R => ta σ H fun vs H1 => ∃ j : Int, vs = [.int j] ∧ -(2 ^ 62) ≤ j ∧ j < 2 ^ 62 ∧ R (Itr 0 j.toNat) H1
noncomputable def iRng2 (ta : TA) : TI := fun σ H R => ta σ H fun vs H1 => ∃ i j : Int, vs = [.int i, .int j] ∧ (-(2 ^ 62) ≤ i ∧ i < 2 ^ 62 ∧ -(2 ^ 62) ≤ j ∧ j < 2 ^ 62) ∧ R (Itr i (j - i).toNat) H1
theorem pi_range1 {a : Expr} {ta : TA} {p pos : Pos} (hg : Gl X "range") (hm : X.mg "range" = none) (ha : PA X [a] ta) (hs : starEach [a] X.env = [(false, eval a X.env)] := by rfl) : PI X tg (.Call (.Name "range" p) [a] [] pos) (iRng1 ta) := by
  intro pins s σ H R I h
  refine Call_ (ld_blt I hg hm boot_range (PyProof.Rows.callWith_type1 (thn (ha pos pins s σ H _ I h) fun us s1 ⟨vs, H1, I1, r1, q1⟩ => ?_) hs rfl))
  obtain ⟨j, e, q1, q2, q⟩ := q1
  subst e
  cases r1 with
  | cons r rr =>
    cases rr
    obtain ⟨t, rfl⟩ := r
    exact call_range_1 (range_it I1 (by omega) (by omega) q1 q2 (by simpa using q))
theorem pi_range2 {a b : Expr} {ta : TA} {p pos : Pos} (hg : Gl X "range") (hm : X.mg "range" = none) (ha : PA X [a, b] ta) (hs : starEach [a, b] X.env = [(false, eval a X.env), (false, eval b X.env)] := by rfl) (hs2 : starEach [b] X.env = [(false, eval b X.env)] := by rfl) :
    PI X tg (.Call (.Name "range" p) [a, b] [] pos) (iRng2 ta) := by
  intro pins s σ H R I h
  refine Call_ (ld_blt I hg hm boot_range (PyProof.Rows.callWith_type1 (thn (ha pos pins s σ H _ I h) fun us s1 ⟨vs, H1, I1, r1, q1⟩ => ?_) (by rw [hs, hs2]) (by rw [hs2]; rfl)))
  obtain ⟨i, j, e, ⟨q1, q2, q3, q4⟩, q⟩ := q1
  subst e
  cases r1 with
  | cons r rr =>
    cases rr with
    | cons r' rr =>
      cases rr
      obtain ⟨t, rfl⟩ := r
      obtain ⟨t', rfl⟩ := r'
      exact call_range_2 (range_it I1 q1 q2 q3 q4 q)
noncomputable def tFor (wi : TI) (g : TG) (tb : TS) : TS := fun D σ H => wi σ H fun J H1 => ∃ W : Nat → Nat → St → Hp → Prop, (∃ m, W 0 m σ H1) ∧ ∀ i m σ H, W i m σ H →
  (J.stop i H ∧ D.nx σ H) ∨ (J.go i H ∧ ∃ N : St → Hp → Prop, (∀ σ' H', N σ' H' → ∃ m', m' < m ∧ W (i + 1) m' σ' H') ∧ ∀ x H', J.yld i H x H' → g x σ H' fun σ2 H2 => tb { D with nx := N, ct := N, bk := D.nx } σ2 H2)
noncomputable def pinsAt (fp : List Addr) (h : Heap) : List (Addr × Obj) := fp.filterMap fun b => (h.get? b).map fun o => (b, o)
theorem mem_pinsAt {fp : List Addr} {h : Heap} {b : Addr} {o : Obj} (hb : b ∈ fp) (e : h.get? b = some o) : (b, o) ∈ pinsAt fp h := List.mem_filterMap.mpr ⟨b, hb, by rw [e]; rfl⟩
theorem of_pinsAt {fp : List Addr} {h : Heap} {p : Addr × Obj} (hp : p ∈ pinsAt fp h) : p.1 ∈ fp ∧ h.get? p.1 = some p.2 := by
  obtain ⟨b, hb, e⟩ := List.mem_filterMap.mp hp
  cases q : h.get? b with
  | none => rw [q] at e; cases e
  | some o =>
    rw [q] at e
    have e' : (b, o) = p := Option.some.inj e
    subst e'
    exact ⟨hb, q⟩
theorem Inv.pinned {pins : List (Addr × Obj)} {σ : St} {H : Hp} {s : Shared} {fp : List Addr} (I : Inv X pins σ H s) (hf : ∀ b ∈ fp, FpOk X pins H b) (ho : ∀ b ∈ fp, ∃ o, s.heap.get? b = some o ∧ ∀ v, o.data ≠ .cell v) : Inv X (pins ++ pinsAt fp s.heap) σ H s :=
  I.pins_of fun p hp => (List.mem_append.mp hp).elim (fun z => I.pin p (List.mem_append_right _ z)) fun z => by
    obtain ⟨hb, e⟩ := of_pinsAt z
    obtain ⟨f0, f1, f2, _⟩ := hf p.1 hb
    obtain ⟨o, e', d⟩ := ho p.1 hb
    rw [e] at e'; cases e'
    exact ⟨e, f0, f1, f2, d⟩
theorem Inv.unpinned {pins pl : List (Addr × Obj)} {σ : St} {H : Hp} {s : Shared} (I : Inv X (pins ++ pl) σ H s) : Inv X pins σ H s := I.pins_of fun p hp => I.pin p (List.mem_append_right _ (List.mem_append_left _ hp))
theorem ps_for {iter : Expr} {body : List Stmt} {wi : TI} {g : TG} {tb : TS} {pos : Pos} (hp : PassesOwn (model X.prog X.w) X.A X.env X.xe) (hc : X.calm = true) (hi : PI X tg iter wi) (hg : PG X tg g) (hb : PSs X body tb)
    (hs : ∀ x, foldedSetIterable iter X.env x = pure x := by intro _; rfl) : PS X (.For tg iter body [] pos) (tFor wi g tb) := by
  intro pins s σ H D I h
  refine wpAny_For (thn (hi pins s σ H _ I h) fun v s1 h1 => thn h1 fun itv s2 h2 => ?_) hs
  obtain ⟨it, fp, tn, J, H2, e, I2, T, st2, f2, W, ⟨m0, w0⟩, turn⟩ := h2
  subst e
  -- what stays true of the iterator's objects through the loop
  have stat : ∀ {H' : Hp}, (∀ b ∈ fp, H' b = none) → ∀ b ∈ fp, FpOk X pins H' b := fun hn b hb => ⟨hn b hb, (f2 b hb).2⟩
  refine codeAny_forLoop_any (fun n s' => ∃ i σ' H', Inv X pins σ' H' s' ∧ tn i s'.heap ∧ (∀ b ∈ fp, H' b = none) ∧ W i n σ' H') ?_ m0 ⟨0, σ, H2, I2, st2, fun b hb => (f2 b hb).1, w0⟩
  rintro n s3 ⟨i, σ3, H3, I3, st3, fr3, w3⟩
  rcases turn i n σ3 H3 w3 with ⟨stop, qn⟩ | ⟨go, N, hN, step⟩
  · refine wpAny_passesOwn hp (thn (T.done X rfl rfl rfl hc i pins s3 σ3 H3 X.xe I3 (stat fr3) st3 stop) fun r s4 ⟨hr, I4⟩ => ?_)
    subst hr
    exact wpAny_execs_nil ⟨σ3, H3, I4, qn⟩
  · refine wpAny_passesOwn hp (thn (T.item X rfl rfl rfl hc i pins s3 σ3 H3 X.xe I3 (stat fr3) st3 go) fun r s4 ⟨u, hr, h4⟩ => ?_)
    subst hr
    refine wpAny_passesOwn hp (thn h4 fun _ s5 ⟨x, H5, I5, r5, y5, st5, fr5⟩ => ?_)
    have I5' := I5.pinned (stat fr5) (T.obj _ _ st5)
    refine wpAny_passesOwn hp (thn (hg _ s5 σ3 H5 x u _ I5' r5 (step x H5 y5)) fun _ s6 ⟨σ6, H6, I6, q6⟩ => ?_)
    refine wpAny_passesOwn hp (thn (hb _ s6 σ6 H6 _ I6 q6) fun f s7 q7 => ?_)
    have again : ∀ {σ7 : St} {H7 : Hp}, Inv X (pins ++ pinsAt fp s5.heap) σ7 H7 s7 → N σ7 H7 → ∃ m, m < n ∧ ∃ i σ' H', Inv X pins σ' H' s7 ∧ tn i s7.heap ∧ (∀ b ∈ fp, H' b = none) ∧ W i m σ' H' := fun {σ7 H7} I7 n7 => by
      obtain ⟨m', hm, w7⟩ := hN σ7 H7 n7
      refine ⟨m', hm, i + 1, σ7, H7, I7.unpinned, T.keep _ _ _ st5 fun b hb o e => (I7.pin (b, o) (List.mem_append_right _ (List.mem_append_right _ (mem_pinsAt hb e)))).1, fun b hb => ?_, w7⟩
      obtain ⟨o, e, d⟩ := T.obj _ _ st5 b hb
      exact (I7.pin (b, o) (List.mem_append_right _ (List.mem_append_right _ (mem_pinsAt hb e)))).2.1
    cases f with
    | next => obtain ⟨σ7, H7, I7, n7⟩ := q7; exact again I7 n7
    | cont => obtain ⟨σ7, H7, I7, n7⟩ := q7; exact again I7 n7
    | brk => obtain ⟨σ7, H7, I7, q7⟩ := q7; exact ⟨σ7, H7, I7.unpinned, q7⟩
    | ret v => obtain ⟨x7, σ7, H7, I7, r7, q7⟩ := q7; exact ⟨x7, σ7, H7, I7.unpinned, r7, q7⟩
end
end L2
namespace L2
open PySem PySem.Spec PyProof.Rows
noncomputable abbrev R2 := V → V → Hp → VK → Prop
noncomputable def OpR (X : Cx) (f : Value → Value → Sem Value) (r : R2) : Prop :=
  ∀ (pins : List (Addr × Obj)) (s : Shared) (σ : St) (H : Hp) (x y : V) (v u : Value) (Q : VK), Inv X pins σ H s → RelV x v → RelV y u → r x y H Q →
    wpAny (model X.prog X.w) X.A (f v u) (EP X pins σ Q) X.xe s
noncomputable def UnR (X : Cx) (f : Value → Sem Value) (r : V → Hp → VK → Prop) : Prop :=
  ∀ (pins : List (Addr × Obj)) (s : Shared) (σ : St) (H : Hp) (x : V) (v : Value) (Q : VK), Inv X pins σ H s → RelV x v → r x H Q →
    wpAny (model X.prog X.w) X.A (f v) (EP X pins σ Q) X.xe s
noncomputable def CallR (X : Cx) (f : Value) (r : List V → Hp → VK → Prop) : Prop :=
  ∀ (pins : List (Addr × Obj)) (s : Shared) (σ : St) (H : Hp) (xs : List V) (us : List Value) (Q : VK), Inv X pins σ H s → Vals xs us → r xs H Q →
    wpAny (model X.prog X.w) X.A (call f us) (EP X pins σ Q) X.xe s
noncomputable def TruR (X : Cx) (r : V → Hp → (Bool → Hp → Prop) → Prop) : Prop :=
  ∀ (pins : List (Addr × Obj)) (s : Shared) (σ : St) (H : Hp) (x : V) (v : Value) (Q : Bool → Hp → Prop), Inv X pins σ H s → RelV x v → r x H Q →
    wpAny (model X.prog X.w) X.A (truthy v) (TP X pins σ Q) X.xe s
noncomputable def tOp (r : R2) (ta tb : TE) : TE := fun σ H Q => ta σ H fun x H1 => tb σ H1 fun y H2 => r x y H2 Q
noncomputable def tUn (r : V → Hp → VK → Prop) (ta : TE) : TE := fun σ H Q => ta σ H fun x H1 => r x H1 Q
noncomputable def rI (C : Int → Int → Prop) (g : Int → Int → V) : R2 := fun x y H Q => ∃ i j, x = .int i ∧ y = .int j ∧ C i j ∧ Q (g i j) H
noncomputable def rI0 (g : Int → Int → V) : R2 := fun x y H Q => ∃ i j, x = .int i ∧ y = .int j ∧ Q (g i j) H
noncomputable def rU (g : Int → V) : V → Hp → VK → Prop := fun x H Q => ∃ i, x = .int i ∧ Q (g i) H
section
variable {X : Cx} {a b c : Expr} {ta tb tc : TE} {pos : Pos}
theorem binT (ha : PE X a ta) (hb : PE X b tb) {pins : List (Addr × Obj)} {s : Shared} {σ : St} {H : Hp} {R : V → V → Hp → Prop} (I : Inv X pins σ H s)
    (h : ta σ H fun x H1 => tb σ H1 fun y H2 => R x y H2) {Q : Value → Shared → Prop} {f : Value → Value → Sem Value}
    (hf : ∀ v u s2 x y H2, Inv X pins σ H2 s2 → RelV x v → RelV y u → R x y H2 → wpAny (model X.prog X.w) X.A (f v u) Q X.xe s2) :
    wpAny (model X.prog X.w) X.A (eval a X.env) (fun v s₁ => wpAny (model X.prog X.w) X.A (eval b X.env) (fun u s₂ => wpAny (model X.prog X.w) X.A (f v u) Q X.xe s₂) X.xe s₁) X.xe s := by
  refine thn (ha pins s σ H _ I h) fun v s1 ⟨x, H1, I1, r1, q1⟩ => ?_
  refine thn (hb pins s1 σ H1 _ I1 q1) fun u s2 ⟨y, H2, I2, r2, q2⟩ => ?_
  exact hf v u s2 x y H2 I2 r1 r2 q2
theorem pe_op {op : Operator} {r : R2} (ho : OpR X (binaryOp op) r) (ha : PE X a ta) (hb : PE X b tb) : PE X (.BinOp a op b pos) (tOp r ta tb) := by
  intro pins s σ H Q I h
  exact wpAny_BinOp (binT ha hb I h fun v u s2 x y H2 I2 rx ry q => ho pins s2 σ H2 x y v u Q I2 rx ry q)
theorem pe_un {op : UnaryOp} {r : V → Hp → VK → Prop} (ho : UnR X (unaryOp op) r) (ha : PE X a ta) : PE X (.UnaryOp op a pos) (tUn r ta) := by
  intro pins s σ H Q I h
  exact UnaryOp_ (thn (ha pins s σ H _ I h) fun v s1 ⟨x, H1, I1, r1, q1⟩ => ho pins s1 σ H1 x v Q I1 r1 q1)
theorem opI {f : Value → Value → Sem Value} {C : Int → Int → Prop} {g : Int → Int → Int}
    (rule : ∀ (i j : Int) (t u : Tok) (s : Shared) (Q : Value → Shared → Prop) (E : Value → Shared → Prop), C i j → Q (.int (g i j) s.toks) { s with toks := s.toks + 1 } → wpAny (model X.prog X.w) X.A (f (.int i t) (.int j u)) Q E s) :
    OpR X f (rI C fun i j => .int (g i j)) := by
  intro pins s σ H x y v u Q I rx ry h
  obtain ⟨i, j, rfl, rfl, hc, q⟩ := h
  obtain ⟨t, rfl⟩ := rx
  obtain ⟨t', rfl⟩ := ry
  exact rule i j t t' s _ _ hc ⟨.int (g i j), H, I.tok _, ⟨_, rfl⟩, q⟩
theorem opI0 {f : Value → Value → Sem Value} {g : Int → Int → Int}
    (rule : ∀ (i j : Int) (t u : Tok) (s : Shared) (Q : Value → Shared → Prop) (E : Value → Shared → Prop), Q (.int (g i j) s.toks) { s with toks := s.toks + 1 } → wpAny (model X.prog X.w) X.A (f (.int i t) (.int j u)) Q E s) :
    OpR X f (rI0 fun i j => .int (g i j)) := by
  intro pins s σ H x y v u Q I rx ry h
  obtain ⟨i, j, rfl, rfl, q⟩ := h
  obtain ⟨t, rfl⟩ := rx
  obtain ⟨t', rfl⟩ := ry
  exact rule i j t t' s _ _ ⟨.int (g i j), H, I.tok _, ⟨_, rfl⟩, q⟩
theorem opB0 {f : Value → Value → Sem Value} {g : Int → Int → Bool}
    (rule : ∀ (i j : Int) (t u : Tok) (s : Shared) (Q : Value → Shared → Prop) (E : Value → Shared → Prop), Q (.bool (g i j)) s → wpAny (model X.prog X.w) X.A (f (.int i t) (.int j u)) Q E s) :
    OpR X f (rI0 fun i j => .bl (g i j)) := by
  intro pins s σ H x y v u Q I rx ry h
  obtain ⟨i, j, rfl, rfl, q⟩ := h
  obtain ⟨t, rfl⟩ := rx
  obtain ⟨t', rfl⟩ := ry
  exact rule i j t t' s _ _ ⟨.bl (g i j), H, I, rfl, q⟩
noncomputable def CDiv (i j : Int) : Prop := 0 < j ∧ j < 1073741824
noncomputable def CPow (i j : Int) : Prop := 0 ≤ j ∧ j ≤ 1000000 ∧ i.natAbs < 2 ^ 64
noncomputable def CMul (i j : Int) : Prop := (-(2 ^ 64) < i ∧ i < 2 ^ 64) ∨ (-(2 ^ 64) < j ∧ j < 2 ^ 64)
theorem CMul.ok {i j : Int} (h : CMul i j) : IntMulOk i j := by
  rcases h with ⟨h1, h2⟩ | ⟨h1, h2⟩
  · exact .of_left (intBits_le_64 h1 h2)
  · exact .of_right (intBits_le_64 h1 h2)
theorem two_pow_nn (k : Nat) : (0 : Int) ≤ 2 ^ k := by
  rw [two_pow_cast]
  exact Int.natCast_nonneg _
theorem op_add : OpR X (binaryOp .Add) (rI0 fun i j => .int (i + j)) := opI0 fun _ _ _ _ _ _ _ q => add_int q
theorem op_sub : OpR X (binaryOp .Sub) (rI0 fun i j => .int (i - j)) := opI0 fun _ _ _ _ _ _ _ q => sub_int q
theorem op_mul : OpR X (binaryOp .Mult) (rI CMul fun i j => .int (i * j)) := opI fun _ _ _ _ _ _ _ hc q => mul_int q hc.ok
theorem op_fdiv : OpR X (binaryOp .FloorDiv) (rI CDiv fun i j => .int (i / j)) := opI fun i j _ _ _ _ _ hc q => by
  have h1 : (0 : Int) < j := hc.1
  have h2 : j < 1073741824 := hc.2
  exact floordiv_int (by omega) (by rw [Int.fdiv_eq_ediv_of_nonneg i (by omega)]; exact q) (.inl (PyProof.noPylong_small (by omega)))
theorem op_mod : OpR X (binaryOp .Mod) (rI (fun _ j => 0 < j) fun i j => .int (i % j)) := opI fun i j _ _ _ _ _ hc q => by
  have h1 : (0 : Int) < j := hc
  exact mod_int' (by omega) (by rw [Int.fmod_eq_emod_of_nonneg i (by omega)]; exact q)
theorem op_pow : OpR X (binaryOp .Pow) (rI CPow fun i j => .int (i ^ j.toNat)) := opI fun _ _ _ _ _ _ _ hc q => pow_int_small hc.1 hc.2.1 hc.2.2 q
theorem op_shl : OpR X (binaryOp .LShift) (rI CPow fun i j => .int (i * 2 ^ j.toNat)) := opI fun _ _ _ _ _ _ _ hc q => lshift_int_small hc.1 hc.2.1 hc.2.2 q
theorem op_shr : OpR X (binaryOp .RShift) (rI (fun _ j => 0 ≤ j) fun i j => .int (i / 2 ^ j.toNat)) := opI fun i j _ _ _ _ _ hc q =>
  rshift_int hc (by rw [Int.fdiv_eq_ediv_of_nonneg i (two_pow_nn _)]; exact q)
theorem unI {f : Value → Sem Value} {g : Int → Int}
    (rule : ∀ (i : Int) (t : Tok) (s : Shared) (Q : Value → Shared → Prop) (E : Value → Shared → Prop), Q (.int (g i) s.toks) { s with toks := s.toks + 1 } → wpAny (model X.prog X.w) X.A (f (.int i t)) Q E s) :
    UnR X f (rU fun i => .int (g i)) := by
  intro pins s σ H x v Q I rx h
  obtain ⟨i, rfl, q⟩ := h
  obtain ⟨t, rfl⟩ := rx
  exact rule i t s _ _ ⟨.int (g i), H, I.tok _, ⟨_, rfl⟩, q⟩
theorem un_neg : UnR X (unaryOp .USub) (rU fun i => .int (-i)) := unI fun _ _ _ _ _ q => neg_int q
end
section
variable {X : Cx} {a b c : Expr} {ta tb tc : TE} {pos : Pos}
theorem fin_bl {pins : List (Addr × Obj)} {σ : St} {H : Hp} {s : Shared} {Q : VK} {k k' : Bool} (I : Inv X pins σ H s) (q : Q (.bl k) H) (e : k = k') : EP X pins σ Q (.bool k') s := by
  subst e
  exact ⟨.bl k, H, I, rfl, q⟩
theorem op_lt : OpR X (compareOp .Lt) (rI0 fun i j => .bl (decide (i < j))) := opB0 fun _ _ _ _ _ _ _ q => lt_int q
theorem op_le : OpR X (compareOp .LtE) (rI0 fun i j => .bl (decide (i ≤ j))) := opB0 fun _ _ _ _ _ _ _ q => le_int q
theorem op_gt : OpR X (compareOp .Gt) (rI0 fun i j => .bl (decide (j < i))) := opB0 fun _ _ _ _ _ _ _ q => gt_int q
theorem op_ge : OpR X (compareOp .GtE) (rI0 fun i j => .bl (decide (j ≤ i))) := opB0 fun _ _ _ _ _ _ _ q => ge_int q
theorem op_in_str : OpR X (compareOp .In) (fun x y H Q => ∃ i j, x = .str i ∧ y = .str j ∧ Q (.bl (!(Builtin.Str.occurrences j i 0 j.length 1).isEmpty)) H) := by
  intro pins s σ H x y v u Q I rx ry h
  obtain ⟨i, j, rfl, rfl, q⟩ := h
  obtain ⟨t, rfl⟩ := rx
  obtain ⟨t', rfl⟩ := ry
  exact in_str (fin_bl I q rfl)
theorem op_isN : OpR X (compareOp .Is) (fun x y H Q => y = .non ∧ Q (.bl (decide (x = .non))) H) := by
  intro pins s σ H x y v u Q I rx ry h
  obtain ⟨rfl, q⟩ := h
  cases ry
  refine is_none_gen (fin_bl I q ?_)
  cases x <;> first
    | (cases rx; rfl)
    | (obtain ⟨t, rfl⟩ := rx; rfl)
theorem op_notN : OpR X (compareOp .IsNot) (fun x y H Q => y = .non ∧ Q (.bl (!decide (x = .non))) H) := by
  intro pins s σ H x y v u Q I rx ry h
  obtain ⟨rfl, q⟩ := h
  cases ry
  refine isnot_none_gen (fin_bl I q ?_)
  cases x <;> first
    | (cases rx; rfl)
    | (obtain ⟨t, rfl⟩ := rx; rfl)
theorem OpR.or {f : Value → Value → Sem Value} {r r' : R2} (h : OpR X f r) (h' : OpR X f r') : OpR X f (fun x y H Q => r x y H Q ∨ r' x y H Q) := by
  intro pins s σ H x y v u Q I rx ry q
  rcases q with q | q
  · exact h pins s σ H x y v u Q I rx ry q
  · exact h' pins s σ H x y v u Q I rx ry q
theorem pe_cmpR {op : CmpOp} {r : R2} (ho : OpR X (compareOp op) r) (ha : PE X a ta) (hb : PE X b tb) (hm : behindInMarks op b = false) : PE X (.Compare a [op] [b] pos) (tOp r ta tb) := by
  intro pins s σ H Q I h
  exact wpAny_Compare1 (binT ha hb I h fun v u s2 x y H2 I2 rx ry q => ho pins s2 σ H2 x y v u Q I2 rx ry q) hm
noncomputable def tTest (t : TE) : TT := fun σ H Q => t σ H fun x H' => ∃ k, x = .bl k ∧ Q k H'
theorem pt_cmpR {op : CmpOp} {r : R2} (ho : OpR X (compareOp op) r) (ha : PE X a ta) (hb : PE X b tb) (hm : behindInMarks op b = false) : PT X (.Compare a [op] [b] pos) (tTest (tOp r ta tb)) := by
  intro pins s σ H Q I h
  refine wpAny_isTrue_Compare1 (thn (ha pins s σ H _ I h) fun v s1 ⟨x, H1, I1, r1, q1⟩ => thn (hb pins s1 σ H1 _ I1 q1) fun u s2 ⟨y, H2, I2, r2, q2⟩ =>
    thn (ho pins s2 σ H2 x y v u _ I2 r1 r2 q2) fun c s3 ⟨z, H3, I3, r3, k, e, q3⟩ => ?_) hm
  subst e
  cases r3
  exact wpAny_truthy_bool ⟨H3, I3, q3⟩
noncomputable def tChain (r r' : R2) (ta tb tc : TE) : TE := fun σ H Q => ta σ H fun x H1 => tb σ H1 fun y H2 => r x y H2 fun z H3 => ∃ k, z = .bl k ∧
  (if k = true then tc σ H3 fun w' H4 => r' y w' H4 Q else Q (.bl false) H3)
theorem pe_chain {op op' : CmpOp} {r r' : R2} (ho : OpR X (compareOp op) r) (ho' : OpR X (compareOp op') r') (ha : PE X a ta) (hb : PE X b tb) (hc : PE X c tc)
    (hm : lastMarks [op, op'] [b, c] = false := by with_unfolding_all rfl) : PE X (.Compare a [op, op'] [b, c] pos) (tChain r r' ta tb tc) := by
  intro pins s σ H Q I h
  refine Compare_chain (thn (ha pins s σ H _ I h) fun v s1 ⟨x, H1, I1, r1, q1⟩ => chain_link (thn (hb pins s1 σ H1 _ I1 q1) fun u s2 ⟨y, H2, I2, r2, q2⟩ =>
    thn (ho pins s2 σ H2 x y v u _ I2 r1 r2 q2) fun d s3 ⟨z, H3, I3, r3, k, e, q3⟩ => ?_)) hm
  subst e
  cases r3
  refine wpAny_truthy_bool ?_
  cases k with
  | false => exact ite_ff ⟨.bl false, H3, I3, rfl, q3⟩
  | true => exact ite_tt (chain_last (thn (hc pins s3 σ H3 _ I3 q3) fun w' s4 ⟨z', H4, I4, r4, q4⟩ => ho' pins s4 σ H4 y z' u w' Q I4 r2 r4 q4))
theorem pt_chain {op op' : CmpOp} {r r' : R2} (ho : OpR X (compareOp op) r) (ho' : OpR X (compareOp op') r') (ha : PE X a ta) (hb : PE X b tb) (hc : PE X c tc)
    (hm : lastMarks [op, op'] [b, c] = false := by with_unfolding_all rfl) : PT X (.Compare a [op, op'] [b, c] pos) (tTest (tChain r r' ta tb tc)) := by
  intro pins s σ H Q I h
  refine isTrue_chain (thn (ha pins s σ H _ I h) fun v s1 ⟨x, H1, I1, r1, q1⟩ => test_link (thn (hb pins s1 σ H1 _ I1 q1) fun u s2 ⟨y, H2, I2, r2, q2⟩ =>
    thn (ho pins s2 σ H2 x y v u _ I2 r1 r2 q2) fun d s3 ⟨z, H3, I3, r3, k, e, q3⟩ => ?_)) hm
  subst e
  cases r3
  refine wpAny_truthy_bool ?_
  cases k with
  | false =>
    obtain ⟨k', e', q'⟩ := q3
    cases e'
    exact ite_ff ⟨H3, I3, q'⟩
  | true =>
    refine ite_tt (test_last (thn (hc pins s3 σ H3 _ I3 q3) fun w' s4 ⟨z', H4, I4, r4, q4⟩ => thn (ho' pins s4 σ H4 y z' u w' _ I4 r2 r4 q4) fun d' s5 ⟨z2, H5, I5, r5, k2, e2, q5⟩ => ?_))
    subst e2
    cases r5
    exact wpAny_truthy_bool ⟨H5, I5, q5⟩
noncomputable def TruV (K : PySem.W.Frag) (x : V) (H : Hp) (k : Bool) : Prop :=
  match x with
  | .non => k = false
  | .bl b => k = b
  | .int i => k = (i != 0)
  | .str y => y.length ≤ sizeLine ∧ k = ((y.length : Int) != 0)
  | .byt y => y.size ≤ sizeLine ∧ k = ((y.size : Int) != 0)
  | .ref p => (∃ xs, SqL K H p xs ∧ k = !xs.isEmpty) ∨ (∃ xs, SqT K H p xs ∧ k = !xs.isEmpty) ∨ ∃ kvs, H p = some (.dK kvs) ∧ k = !kvs.isEmpty
  | _ => False
theorem isEmpty_kv {κ : Type} {kvs : List (κ × V)} {vs : List (κ × Value)} (r : KV kvs vs) : (!vs.isEmpty) = !kvs.isEmpty := by
  cases r <;> rfl
theorem isEmpty_of {xs : List V} {its : List Value} (r : Vals xs its) : (!its.toArray.isEmpty) = !xs.isEmpty := by
  cases r <;> simp
theorem line63 : (sizeLine : Nat) < 2 ^ 63 := by rw [sizeLine_eq]; decide
theorem tru_ok : TruR X (fun x H Q => ∃ k, TruV X.K x H k ∧ Q k H) := by
  intro pins s σ H x v Q I rx h
  obtain ⟨k, e, q⟩ := h
  have hl := line63
  have hs : sizeLine = 16777216 := sizeLine_eq
  cases x with
  | non =>
    cases rx
    have e' : k = false := e
    subst e'
    exact truthy_none ⟨H, I, q⟩
  | bl b =>
    cases rx
    have e' : k = b := e
    subst e'
    exact wpAny_truthy_bool ⟨H, I, q⟩
  | int i =>
    obtain ⟨t, rfl⟩ := rx
    have e' : k = (i != 0) := e
    subst e'
    exact PySem.P.truthy_int ⟨H, I, q⟩
  | str y =>
    obtain ⟨t, rfl⟩ := rx
    obtain ⟨hy, e'⟩ : y.length ≤ sizeLine ∧ k = ((y.length : Int) != 0) := e
    subst e'
    exact PySem.P.truthy_str (by omega) ⟨H, I.tok _, q⟩
  | byt y =>
    obtain ⟨t, rfl⟩ := rx
    obtain ⟨hy, e'⟩ : y.size ≤ sizeLine ∧ k = ((y.size : Int) != 0) := e
    subst e'
    exact PySem.W.truthy_bytes (by omega) ⟨H, I.tok _, q⟩
  | ref p =>
    cases rx
    have e' : (∃ xs, SqL X.K H p xs ∧ k = !xs.isEmpty) ∨ (∃ xs, SqT X.K H p xs ∧ k = !xs.isEmpty) ∨ ∃ kvs, H p = some (.dK kvs) ∧ k = !kvs.isEmpty := e
    rcases e' with ⟨xs, hx, e'⟩ | ⟨xs, hx, e'⟩ | ⟨kvs, hx, e'⟩
    · subst e'
      obtain ⟨its, r, pl, hz⟩ := I.list hx
      have hlen := r.length
      exact wpAny_truthy_list pl.isList (by simp only [List.size_toArray]; omega) ⟨H, I.tok _, by rw [isEmpty_of r]; exact q⟩
    · subst e'
      obtain ⟨its, r, pl, hz⟩ := I.tuple hx
      have hlen := r.length
      exact truthy_tuple pl (by simp only [List.size_toArray]; omega) ⟨H, I.tok _, by rw [isEmpty_of r]; exact q⟩
    · subst e'
      obtain ⟨hz, hS, vs, r, m⟩ : kvs.length ≤ sizeLine ∧ (p == sysModules) = false ∧ ∃ vs, KV kvs vs ∧ s.heap.DictOf (mixKind X.prog X.w) p vs := I.hok p _ hx
      have hlen : kvs.length = vs.length := Paired.length r
      exact wpAny_truthy_dict hS m (by omega) ⟨H, I.tok _, by rw [isEmpty_kv r]; exact q⟩
  | _ => exact (show False from e).elim
theorem pt_truth (ha : PE X a ta) (he : ∀ whole, isTrue a X.env whole = (do let v ← whole; standAt a.pos; holding [v] (truthy v))) :
    PT X a (fun σ H Q => ta σ H fun x H' => ∃ k, TruV X.K x H' k ∧ Q k H') := by
  intro pins s σ H Q I h
  exact isTrue_plain (thn (ha pins s σ H _ I h) fun v s1 ⟨x, H1, I1, r1, q1⟩ => tru_ok pins s1 σ H1 x v Q I1 r1 q1) (he _)
theorem op_add_str : OpR X (binaryOp .Add) (fun x y H Q => ∃ i j, x = .str i ∧ y = .str j ∧ i.length + j.length ≤ sizeLine ∧ Q (.str (i ++ j)) H) := by
  intro pins s σ H x y v u Q I rx ry h
  obtain ⟨i, j, rfl, rfl, hz, q⟩ := h
  obtain ⟨t, rfl⟩ := rx
  obtain ⟨t', rfl⟩ := ry
  exact add_str (fun t' tk => ⟨.str (i ++ j), H, I.tok _, ⟨_, rfl⟩, q⟩) hz
theorem vals1 {x : V} {us : List Value} (r : Vals [x] us) : ∃ u, us = [u] ∧ RelV x u := by
  cases r with
  | cons r1 r2 => cases r2; exact ⟨_, rfl, r1⟩
theorem vals2 {x y : V} {us : List Value} (r : Vals [x, y] us) : ∃ u w', us = [u, w'] ∧ RelV x u ∧ RelV y w' := by
  cases r with
  | cons r1 r2 =>
    cases r2 with
    | cons r3 r4 => cases r4; exact ⟨_, _, rfl, r1, r3⟩
theorem call_min2 (hc : X.calm = true) : CallR X (.builtin "min") (fun xs H Q => ∃ i j, xs = [.int i, .int j] ∧ Q (.int (if j < i then j else i)) H) := by
  intro pins s σ H xs us Q I r h
  obtain ⟨i, j, rfl, q⟩ := h
  obtain ⟨u, w', rfl, ⟨t, rfl⟩, ⟨t', rfl⟩⟩ := vals2 r
  refine min_two_ints (I.ok.hd hc) fun h' tk k => ⟨_, H, I.kept k, ?_, q⟩
  by_cases hj : j < i
  · rw [if_pos hj, if_pos hj]; exact ⟨_, rfl⟩
  · rw [if_neg hj, if_neg hj]; exact ⟨_, rfl⟩
theorem call_int1 : CallR X (.type "int") (fun xs H Q => (∃ i, xs = [.int i] ∧ Q (.int i) H) ∨ ∃ k, xs = [.bl k] ∧ Q (.int (if k then 1 else 0)) H) := by
  intro pins s σ H xs us Q I r h
  rcases h with ⟨i, rfl, q⟩ | ⟨k, rfl, q⟩
  · obtain ⟨u, rfl, t, rfl⟩ := vals1 r
    exact call_int_int ⟨.int i, H, I, ⟨_, rfl⟩, q⟩
  · obtain ⟨u, rfl, r1⟩ := vals1 r
    cases r1
    exact call_int_bool ⟨.int (if k then 1 else 0), H, I.tok _, ⟨_, rfl⟩, q⟩
theorem call_str_int : CallR X (.type "str") (fun xs H Q => ∃ i, xs = [.int i] ∧ i.natAbs.log2 < 1920 ∧ Q (.str (toString i)) H) := by
  intro pins s σ H xs us Q I r h
  obtain ⟨i, rfl, hz, q⟩ := h
  obtain ⟨u, rfl, t, rfl⟩ := vals1 r
  exact PySem.P.str_of_int hz ⟨.str _, H, I.tok _, ⟨_, rfl⟩, q⟩
end
end L2
namespace L2
open PySem PySem.Spec PyProof.Rows
structure ObjM (h : Heap) (x dx C : Addr) (mA : Str → Option Value) : Prop where
  obj : h.get? x = some (PySem.W.instObj C dx)
  ns : h.Ns1 dx mA
  ne : dx ≠ x
theorem lookIn_ns {h : Heap} {dx : Addr} {mA : Str → Option Value} (n : h.Ns1 dx mA) : ∃ od, h.get? dx = some od ∧ ∀ name, PySem.W.lookIn name od = some (mA name) := by
  obtain ⟨o, es, ep, ho, hd, hk, _, hm⟩ := n
  refine ⟨o, ho, fun name => ?_⟩
  have e := hm name
  unfold nsFind findBy at e
  rw [← Array.find?_toList] at e
  unfold PySem.W.lookIn
  rw [hd]
  dsimp only
  split
  · rename_i y q
    rw [q] at e
    exact congrArg some e
  · rename_i q
    rw [q] at e
    have a : es.toList.any (·.refKey) = false := by
      rw [List.any_eq_false]
      intro y hy
      obtain ⟨z, t, hkey⟩ := hk y (Array.mem_toList_iff.mp hy)
      simp [DictEntry.refKey, hkey]
    have a' : ¬ es.toList.any (·.refKey) = true := by rw [a]; exact Bool.false_ne_true
    rw [if_neg a']
    exact congrArg some e
theorem ObjM.look {h : Heap} {x dx C : Addr} {mA : Str → Option Value} (I : ObjM h x dx C mA) : ∃ od, PySem.W.InstAt h x (PySem.W.instObj C dx) C (some od) ∧ ∀ name, PySem.W.lookIn name od = some (mA name) :=
  let ⟨od, ho, hl⟩ := lookIn_ns I.ns
  ⟨od, ⟨I.obj, rfl, rfl, ho⟩, hl⟩
section
variable {prog : Program} {w : World} {A : Around} {E : Value → Shared → Prop} {s : Shared} {K : PySem.W.Frag} {x dx C f : Addr} {mA : Str → Option Value} {name : Str} {v : Value}
end
noncomputable def putF (f : Str) (v : V) : List (Str × V) → List (Str × V)
  | [] => [(f, v)]
  | (g, x) :: r => if g = f then (g, v) :: r else (g, x) :: putF f v r
theorem lookup_putF (f g : Str) (v : V) : ∀ fs : List (Str × V), (putF f v fs).lookup g = if g = f then some v else fs.lookup g
  | [] => by
    show List.lookup g [(f, v)] = _
    by_cases h : g = f
    · have hb : (g == f) = true := beq_iff_eq.mpr h
      simp only [List.lookup, hb, if_pos h]
    · have hb : (g == f) = false := beq_eq_false_iff_ne.mpr h
      simp only [List.lookup, hb, if_neg h]
  | (k, x) :: r => by
    have ih := lookup_putF f g v r
    rw [show putF f v ((k, x) :: r) = (if k = f then (k, v) :: r else (k, x) :: putF f v r) from rfl]
    by_cases hk : k = f
    · rw [if_pos hk]
      by_cases h : g = k
      · have hb : (g == k) = true := beq_iff_eq.mpr h
        simp only [List.lookup, hb, if_pos (h.trans hk)]
      · have hb : (g == k) = false := beq_eq_false_iff_ne.mpr h
        simp only [List.lookup, hb, if_neg (fun e : g = f => h (e.trans hk.symm))]
    · rw [if_neg hk]
      by_cases h : g = k
      · have hb : (g == k) = true := beq_iff_eq.mpr h
        simp only [List.lookup, hb, if_neg (fun e : g = f => hk (h.symm.trans e))]
      · have hb : (g == k) = false := beq_eq_false_iff_ne.mpr h
        simp only [List.lookup, hb]
        exact ih
theorem keys_putF (f : Str) (v : V) : ∀ fs : List (Str × V), f ∈ (putF f v fs).map (·.1) ∧ ∀ g, g ∈ fs.map (·.1) → g ∈ (putF f v fs).map (·.1)
  | [] => ⟨by simp [putF], fun g h => by simp at h⟩
  | (k, x) :: r => by
    obtain ⟨i1, i2⟩ := keys_putF f v r
    rw [show putF f v ((k, x) :: r) = (if k = f then (k, v) :: r else (k, x) :: putF f v r) from rfl]
    by_cases hk : k = f
    · rw [if_pos hk]
      subst hk
      exact ⟨by simp, fun g h => by simpa using h⟩
    · rw [if_neg hk]
      refine ⟨?_, fun g h => ?_⟩
      · rw [List.map_cons]
        exact List.mem_cons_of_mem _ i1
      · rw [List.map_cons] at h ⊢
        rcases List.mem_cons.mp h with e | e
        · exact List.mem_cons.mpr (.inl e)
        · exact List.mem_cons_of_mem _ (i2 g e)
theorem RelO.some_of {v : V} {o : Option Value} (r : RelO (some v) o) : ∃ u, o = some u ∧ RelV v u := by
  cases o with
  | none => exact (show False from r).elim
  | some u => exact ⟨u, rfl, r⟩
section
variable {P : Program} {w : World} {H H' : Hp} {h h' : Heap} {a C dx : Addr} {fs fs' : List (Str × V)}
theorem ins_get (hok : HOk P w H h) (e : H a = some (.ins C dx fs)) : ∃ mA, ObjM h a dx C mA ∧ (∀ f, RelO (fs.lookup f) (mA f)) ∧ PySem.Within mA (fs.map (·.1)) ∧ fs.length ≤ 1000 ∧ H dx = some (.own a) := by
  obtain ⟨d, z, ne, ob, mA, n, r, q⟩ := (show ObjOk P w H h a (.ins C dx fs) from hok a _ e)
  exact ⟨mA, ⟨ob, n, ne⟩, r, q, z, d⟩
end
structure Cls (K : PySem.W.Frag) (C : Addr) : Prop where
  pg : PySem.W.plainGet K C Str.empty = true
  hd : PySem.W.hasDictIn K C = true
  po : PySem.W.plainOver K C = true
  sa : PySem.W.findIn K (.ref C) "__setattr__" = some (some (.builtin "object.__setattr__"))
theorem Cls.get {K : PySem.W.Frag} {C : Addr} (c : Cls K C) (f : Str) : PySem.W.plainGet K C f = true := c.pg
section
variable {X : Cx} {pins : List (Addr × Obj)} {σ : St} {H : Hp} {s : Shared} {a C dx : Addr} {fs : List (Str × V)} {f : Str} {v : V} {A : Around} {E : Value → Shared → Prop}
end
section
variable {X : Cx} {o e value : Expr} {f : Str} {pos pos' tpos : Pos} {ta tv : TE}
end
section
variable {X : Cx} {pins : List (Addr × Obj)} {σ : St} {H : Hp} {s : Shared} {A : Around} {E : Value → Shared → Prop} {Q : Value → Shared → Prop} {c : Value} {b : Bool}
inductive TyOf (K : PySem.W.Frag) (H : Hp) : V → Value → Prop where
  | non : TyOf K H .non (.type "NoneType")
  | bl (x : Bool) : TyOf K H (.bl x) (.type "bool")
  | int (i : Int) : TyOf K H (.int i) (.type "int")
  | str (x : Str) : TyOf K H (.str x) (.type "str")
  | flt (x : UInt64) : TyOf K H (.flt x) (.type "float")
  | lst {a : Addr} {xs : List V} (e : H a = some (.lst xs)) : TyOf K H (.ref a) (.type "list")
  | frz {a : Addr} {o : Obj} {xs : List V} (e : H a = some (.frz o (.lst xs))) : TyOf K H (.ref a) (.type "list")
  | tup {a : Addr} {xs : List V} (e : H a = some (.tup xs)) : TyOf K H (.ref a) (.type "tuple")
  | dK {a : Addr} {kvs : List (Key × V)} (e : H a = some (.dK kvs)) : TyOf K H (.ref a) (.type "dict")
  | dT {a : Addr} {kvs : List (List Key × V)} (e : H a = some (.dT kvs)) : TyOf K H (.ref a) (.type "dict")
  | ins {a C dx : Addr} {fs : List (Str × V)} (e : H a = some (.ins C dx fs)) (cl : Cls K C) (ha : PySem.W.findIn K (.ref C) "__class__" = some (some (.builtin "object.__class__")))
      (hn : PySem.W.specialIn K (.builtin "object.__class__") "__get__" = some (some (.builtin "getset_descriptor.__get__"))) (htk : PySem.W.takesIn K (.builtin "object.__class__") = some true)
      (hm : PySem.W.mroIn K C (.type "object") = some true) : TyOf K H (.ref a) (.ref C)
theorem isinst_ok {x : V} {u t : Value} (I : Inv X pins σ H s) (rx : RelV x u) (ty : TyOf X.K H x t) (e : PySem.W.kitOne X.K t c = some b) (h : ∀ tk, Q (.bool b) { s with toks := tk }) :
    wpAny (model X.prog X.w) A (call (.builtin "isinstance") [u, c]) Q E s := by
  cases ty with
  | non => cases (show u = Value.none from rx); exact PySem.W.kia_one PySem.W.kitx_none I.kIn True.intro e (fun z => nomatch z) h
  | bl y => cases (show u = Value.bool y from rx); exact PySem.W.kia_one PySem.W.kitx_bool I.kIn True.intro e (fun z => nomatch z) h
  | int i => obtain ⟨t, q⟩ := (show ∃ t, u = Value.int i t from rx); cases q; exact PySem.W.kia_one PySem.W.kitx_int I.kIn True.intro e (fun z => nomatch z) h
  | str y => obtain ⟨t, q⟩ := (show ∃ t, u = Value.str y t from rx); cases q; exact PySem.W.kia_one PySem.W.kitx_str I.kIn True.intro e (fun z => nomatch z) h
  | flt y => obtain ⟨t, q⟩ := (show ∃ t, u = Value.float y t from rx); cases q; exact PySem.W.kia_one PySem.W.kitx_float I.kIn True.intro e (fun z => nomatch z) h
  | @lst a xs ea =>
    cases (show u = Value.ref a from rx)
    obtain ⟨_, _, n, _, h1⟩ := (show ObjOk X.prog X.w H s.heap a (.lst xs) from I.hok a _ ea)
    exact PySem.W.kia_one PySem.W.kitx_list I.kIn ⟨_, h1, rfl⟩ e (fun z => nomatch z) h
  | @frz a ob xs ea =>
    cases (show u = Value.ref a from rx)
    obtain ⟨_, _, _, n, _, h1⟩ := (show ObjOk X.prog X.w H s.heap a (.frz ob (.lst xs)) from I.hok a _ ea)
    exact PySem.W.kia_one PySem.W.kitx_list I.kIn ⟨_, h1, rfl⟩ e (fun z => nomatch z) h
  | @tup a xs ea =>
    cases (show u = Value.ref a from rx)
    obtain ⟨_, _, _, p⟩ := (show ObjOk X.prog X.w H s.heap a (.tup xs) from I.hok a _ ea)
    obtain ⟨o, h1, h2, _⟩ := p
    exact PySem.W.kia_one PySem.W.kitx_tuple I.kIn ⟨o, h1, h2⟩ e (fun z => nomatch z) h
  | @dK a kvs ea =>
    cases (show u = Value.ref a from rx)
    obtain ⟨_, _, vs, _, p⟩ := (show ObjOk X.prog X.w H s.heap a (.dK kvs) from I.hok a _ ea)
    obtain ⟨o, es, ep, h1, h2, _⟩ := p
    exact PySem.W.kia_one PySem.W.kitx_dict I.kIn ⟨o, h1, h2.1⟩ e (fun z => nomatch z) h
  | @dT a kvs ea =>
    cases (show u = Value.ref a from rx)
    obtain ⟨_, _, xs, _, o, es, ep, h1, h2, _⟩ := (show ObjOk X.prog X.w H s.heap a (.dT kvs) from I.hok a _ ea)
    exact PySem.W.kia_one PySem.W.kitx_dict I.kIn ⟨o, h1, h2.1⟩ e (fun z => nomatch z) h
  | @ins a C dx fs ea cl ha hn htk hm =>
    cases (show u = Value.ref a from rx)
    obtain ⟨mA, O, _⟩ := ins_get I.hok ea
    obtain ⟨od, J, _⟩ := O.look
    exact PySem.W.kia_one (PySem.W.kitx_own (cl.get _) cl.hd ha hn htk hm) I.kIn J e (fun z => nomatch z) h
end
end L2
namespace L2
open PySem PySem.Spec PyProof.Rows
structure Room (k : Nat) (A : Around) : Prop where
  hd : A.handled = none
  dp : A.depth + 3 * k + 5 < recursionLimit
  un : A.units + 16 * k + 200 < cLine
theorem Room.mono {j k : Nat} {A : Around} (r : Room k A) (h : j ≤ k) : Room j A := ⟨r.hd, by have := r.dp; omega, by have := r.un; omega⟩
theorem Room.deeper {k : Nat} {A : Around} (r : Room (k + 1) A) (env : Env) : Room k (A.deeper env) :=
  ⟨r.hd, by have := r.dp; show A.depth + 1 + 3 * k + 5 < _; omega, by have := r.un; show A.units + 3 + 16 * k + 200 < _; omega⟩
theorem make_depth {A : Around} {C : Addr} {us : List Value} {kw : List (Str × Value)} : (A.under (.builtin "type.__call__" ⟨.ref C :: us, kw⟩)).depth = A.depth + 1 := by
  first | rfl | simp [Around.under, Code.weight, Code.isCreation, Code.isGuard, Code.isCaller, Code.frames, Code.isFrame, guardIds]
theorem make_units {A : Around} {C : Addr} {us : List Value} {kw : List (Str × Value)} : (A.under (.builtin "type.__call__" ⟨.ref C :: us, kw⟩)).units = A.units + 1 := by
  first | rfl | simp [Around.under, Code.cUnits, Code.frames, Code.isFrame]
theorem Room.make {k : Nat} {A : Around} (r : Room (k + 1) A) (C : Addr) (us : List Value) (kw : List (Str × Value)) : Room k (A.under (.builtin "type.__call__" ⟨.ref C :: us, kw⟩)) :=
  ⟨r.hd, by have := r.dp; rw [make_depth]; omega, by have := r.un; rw [make_units]; omega⟩
theorem Room.depth {k : Nat} {A : Around} (r : Room k A) : A.depth < recursionLimit := by have := r.dp; omega
theorem Room.units {k : Nat} {A : Around} (r : Room k A) : A.units + 64 < cLine := by have := r.un; omega
noncomputable def tNil : TA := fun _ H Q => Q [] H
noncomputable def tCons (ta : TE) (tr : TA) : TA := fun σ H Q => ta σ H fun x H1 => tr σ H1 fun xs H2 => Q (x :: xs) H2
section
variable {X : Cx} {e : Expr} {es : List Expr} {te : TE} {t : TA} {pos : Pos}
theorem pa_nil : PA X [] tNil := fun _ _ _ _ H Q I h => Calls.spliced_nil ⟨[], H, I, .nil, h⟩
theorem pa_cons (ha : PE X e te) (hr : PA X es t) (hs : starEach (e :: es) X.env = (false, eval e X.env) :: starEach es X.env := by rfl) : PA X (e :: es) (tCons te t) := by
  intro pos pins s σ H Q I h
  rw [hs]
  show wpAny _ _ (spliced ((false, eval e X.env) :: backTo pos (starEach es X.env))) _ _ s
  refine Calls.spliced_cons (thn (ha pins s σ H _ I h) fun u s1 ⟨x, H1, I1, r1, q1⟩ => ?_)
  exact thn (hr pos pins s1 σ H1 _ I1 q1) fun us s2 ⟨xs, H2, I2, r2, q2⟩ => ⟨x :: xs, H2, I2, .cons r1 r2, q2⟩
noncomputable def tTup (t : TA) : TE := fun σ H Q => t σ H fun xs H1 => xs.length ≤ sizeLine ∧ ∀ p, H1 p = none → Q (.ref p) (upd H1 p (.tup xs))
noncomputable def tLst (t : TA) : TE := fun σ H Q => t σ H fun xs H1 => xs.length ≤ sizeLine ∧ ∀ p, H1 p = none → Q (.ref p) (upd H1 p (.lst xs))
theorem pe_tup {x1} (h : PA X es t) : PE X (.Tuple es x1 pos) (tTup t) := by
  intro pins s σ H Q I hq
  refine wpAny_Tuple_spliced (thn (h pos pins s σ H _ I hq) fun us s1 ⟨xs, H1, I1, r, z, q⟩ => ⟨by rw [← r.length]; exact z, ?_⟩)
  have hf : H1 s1.heap.objs.size = none := I1.hok.fresh (Nat.le_refl _)
  refine ⟨.ref s1.heap.objs.size, upd H1 s1.heap.objs.size (.tup xs), I1.laid (t' := s1.toks) (fun b u e => Heap.get?_push_of_some _ e) (Nat.le_refl _) ?_, rfl, q _ hf⟩
  exact ⟨z, us, r, ⟨_, Heap.get?_push_size _ rfl, rfl, _, rfl⟩⟩
theorem pe_lst (h : PA X es t) : PE X (.List es pos) (tLst t) := by
  intro pins s σ H Q I hq
  refine wpAny_List_spliced (thn (h pos pins s σ H _ I hq) fun us s1 ⟨xs, H1, I1, r, z, q⟩ => ⟨by rw [← r.length]; exact z, ?_⟩)
  have hf : H1 s1.heap.objs.size = none := I1.hok.fresh (Nat.le_refl _)
  refine ⟨.ref s1.heap.objs.size, upd H1 s1.heap.objs.size (.lst xs), I1.laid (t' := s1.toks) (fun b u e => Heap.get?_push_of_some _ e) (Nat.le_refl _) ?_, rfl, q _ hf⟩
  exact ⟨z, us, 0, r, Heap.get?_push_size _ rfl⟩
end
noncomputable abbrev Sp := List V → Hp → VK → XK → Prop
noncomputable abbrev CXT := List Env → Hp → Shared → XK → Value → Shared → Prop
structure Env0 (P : Program) (w : World) (K : PySem.W.Frag) (mg : Str → Option Value) (base : Heap) (A : Around) (outer : List Env) (s : Shared) (H : Hp) : Prop where
  frames : A.frames = some outer
  mod : Mod K mg base
  bs : ∀ b o, base.get? b = some o → s.heap.get? b = some o ∧ H b = none
  bsz : base.objs.size ≤ s.heap.objs.size
  funs : s.heap.FunFrames base outer
  frf : ∀ b ∈ frs outer, H b = none
  hok : HOk P w H s.heap
  bare : AllBare s.gens
noncomputable def CE (outer : List Env) (P : Program) (w : World) (H : Hp) (s : Shared) (Q : VK) (u : Value) (s' : Shared) : Prop :=
  ∃ v H', s'.os = s.os ∧ AllBare s'.gens ∧ Un (frs outer) [] H H' s.heap s'.heap ∧ HOk P w H' s'.heap ∧ RelV v u ∧ Q v H'
noncomputable def CR (CX : CXT) (outer : List Env) (P : Program) (w : World) (H : Hp) (s : Shared) (Q : VK) (E : XK) (r : Result) (s' : Shared) : Prop :=
  match r with
  | .ok (.ret u) => CE outer P w H s Q u s'
  | .ok _ => False
  | .error e => CX outer H s E e s'
structure FnOk (P : Program) (w : World) (K : PySem.W.Frag) (mg : Str → Option Value) (base : Heap) (CX : CXT) (k : Nat) (f : Addr) (fd : FuncData) (ps : List Str) (sp : Sp) : Prop where
  len : ∀ vs H Q E, sp vs H Q E → vs.length = ps.length
  run : ∀ (A : Around) (outer : List Env) (s : Shared) (H : Hp) (args : Args) (us : List Value) (vs : List V) (Q : VK) (E : XK), Room k A → Env0 P w K mg base A outer s H → BindsTo s fd args (ps.zip us) → Vals vs us → sp vs H Q E →
    codeAny (model P w) A (.call (.ref f) args) (CR CX outer P w H s Q E) s
theorem Env0.make {P : Program} {w : World} {K : PySem.W.Frag} {mg : Str → Option Value} {base : Heap} {A : Around} {outer : List Env} {s : Shared} {H : Hp} (e : Env0 P w K mg base A outer s H) (C : Addr) (us : List Value) (kw : List (Str × Value)) :
    Env0 P w K mg base (A.under (.builtin "type.__call__" ⟨.ref C :: us, kw⟩)) outer s H := ⟨by first | exact e.frames | (simpa [Around.under, Code.envs, Code.isFrame, pushEnvs] using e.frames), e.mod, e.bs, e.bsz, e.funs, e.frf, e.hok, e.bare⟩
section
variable {X : Cx} {pins : List (Addr × Obj)} {σ : St} {H : Hp} {s s' : Shared}
theorem Inv.env0 (I : Inv X pins σ H s) : Env0 X.prog X.w X.K X.mg X.base X.A X.stack s H :=
  ⟨I.ok.frames, I.ok.mod, I.bs, Nat.le_trans I.ok.bsz I.sz, I.stack, I.stkFree, I.hok, I.bare⟩
theorem Inv.after {Q : VK} {u : Value} (I : Inv X pins σ H s) (h : CE X.stack X.prog X.w H s Q u s') : EP X pins σ Q u s' := by
  obtain ⟨v, H', os, bare, un, hok, r, q⟩ := h
  obtain ⟨hh, g, d, t, os'⟩ := s'
  obtain rfl : os' = s.os := os
  exact ⟨v, H', I.call (h' := hh) (g' := g) (d' := d) (t' := t) (ch := []) un hok bare (fun b z => absurd z (by simp)), r, q⟩
end
noncomputable def tCall (sp : Sp) (dvs : List V) (E : XK) (t : TA) : TE := fun σ H Q => t σ H fun vs H1 => sp (vs ++ dvs) H1 Q E
noncomputable def Binds (K : PySem.W.Frag) (fd : FuncData) (ps : List Str) (ds : List Value) : Prop :=
  ∀ (s : Shared) (us : List Value), K.In s.heap → (us ++ ds).length = ps.length → BindsTo s fd ⟨us, []⟩ (ps.zip (us ++ ds))
theorem Binds.all {K : PySem.W.Frag} {fd : FuncData} {ps : List Str} (h : ∀ us : List Value, us.length = ps.length → bindArgs fd ⟨us, []⟩ = pure (ps.zip us)) : Binds K fd ps [] := fun s us _ hl => by
  rw [List.append_nil] at hl ⊢
  exact .of_eq (h us hl)
section
variable {X : Cx} {CX : CXT} {k : Nat} {f C : Addr} {fd : FuncData} {ps : List Str} {sp : Sp} {dvs : List V} {ds : List Value} {E : XK} {x m : Str} {p pos apos : Pos} {e o : Expr} {es : List Expr} {ta : TE} {t : TA}
end
section
variable {X : Cx} {CX : CXT} {k : Nat} {f C : Addr} {fd : FuncData} {ps ks : List Str} {sp : Sp} {E : XK} {x m : Str} {p pos apos kpos : Pos} {e o : Expr} {es : List Expr} {kws : List Keyword} {te ta : TE} {t tk : TA} {nm : Option Str}
variable {g : List Value → List Value → List Value} {gV : List V → List V → List V}
end
structure FnScope (N P : List Str) (sc : Scope) : Prop where
  kind : sc.kind = .function
  co : sc.isCoroutine = false
  gen : sc.isGenerator = false
  nd : N.Nodup
  pre : N.take P.length = P
  par : ∀ x ∈ P, sc.names.lookup x = some .local ∨ sc.names.lookup x = some .cell
  nofree : ∀ y ∈ sc.names, y.2 ≠ .free
theorem bindL_out {kindOf : Str → Option NameKind} {x : Str} : ∀ {binds : List (Str × Value)} {m : Str → Option Value}, (∀ v, (x, v) ∉ binds) → bindL kindOf binds m x = m x
  | [], _, _ => rfl
  | (n, v) :: r, m, h => by
    unfold bindL
    rw [bindL_out fun w hw => h w (List.mem_cons_of_mem _ hw)]
    split
    · have : x ≠ n := by rintro rfl; exact h v List.mem_cons_self
      simp [this]
    · rfl
theorem bindC_out {kindOf : Str → Option NameKind} {x : Str} : ∀ {binds : List (Str × Value)} {m : Str → Option Value}, (∀ v, (x, v) ∉ binds) → bindC kindOf binds m x = m x
  | [], _, _ => rfl
  | (n, v) :: r, m, h => by
    unfold bindC
    rw [bindC_out fun w hw => h w (List.mem_cons_of_mem _ hw)]
    split
    · rfl
    · have : x ≠ n := by rintro rfl; exact h v List.mem_cons_self
      simp [this]
theorem bindL_get {kindOf : Str → Option NameKind} {x : Str} {v : Value} : ∀ {P : List Str} {vs : List Value} {i : Nat} {m : Str → Option Value}, P.Nodup → P[i]? = some x → vs[i]? = some v → kindOf x = some .local →
    bindL kindOf (P.zip vs) m x = some v
  | [], _, _, _, _, h, _, _ => by simp at h
  | _ :: _, [], _, _, _, _, h, _ => by simp at h
  | p :: P, w :: vs, 0, m, nd, h1, h2, hk => by
    simp at h1 h2; subst h1; subst h2
    show bindL kindOf ((p, w) :: P.zip vs) m p = _
    unfold bindL
    rw [bindL_out fun v hv => (List.nodup_cons.mp nd).1 (List.of_mem_zip hv).1, if_pos hk]
    simp
  | p :: P, w :: vs, i + 1, m, nd, h1, h2, hk => by
    show bindL kindOf ((p, w) :: P.zip vs) m x = _
    unfold bindL
    exact bindL_get (i := i) (List.nodup_cons.mp nd).2 (by simpa using h1) (by simpa using h2) hk
theorem bindC_get {kindOf : Str → Option NameKind} {x : Str} {v : Value} : ∀ {P : List Str} {vs : List Value} {i : Nat} {m : Str → Option Value}, P.Nodup → P[i]? = some x → vs[i]? = some v → kindOf x ≠ some .local →
    bindC kindOf (P.zip vs) m x = some v
  | [], _, _, _, _, h, _, _ => by simp at h
  | _ :: _, [], _, _, _, _, h, _ => by simp at h
  | p :: P, w :: vs, 0, m, nd, h1, h2, hk => by
    simp at h1 h2; subst h1; subst h2
    show bindC kindOf ((p, w) :: P.zip vs) m p = _
    unfold bindC
    rw [bindC_out fun v hv => (List.nodup_cons.mp nd).1 (List.of_mem_zip hv).1, if_neg hk]
    simp
  | p :: P, w :: vs, i + 1, m, nd, h1, h2, hk => by
    show bindC kindOf ((p, w) :: P.zip vs) m x = _
    unfold bindC
    exact bindC_get (i := i) (List.nodup_cons.mp nd).2 (by simpa using h1) (by simpa using h2) hk
noncomputable def start (N : List Str) (vs : List V) : St := vs.map some ++ List.replicate (N.length - vs.length) none
noncomputable def cxOf (CX : CXT) (P : Program) (w : World) (K : PySem.W.Frag) (mg : Str → Option Value) (base : Heap) (N : List Str) (qual : Str) (scope : Scope) (f : Addr) (cd : Value) (A : Around) (outer : List Env) (s : Shared) (H : Hp) (E : XK) : Cx where
  prog := P
  w := w
  K := K
  mg := mg
  base := base
  A := A.deeper (envOfC qual scope s.heap.objs.size f cd)
  N := N
  s₀ := s
  H₀ := H
  env := envOfC qual scope s.heap.objs.size f cd
  outer := outer
  stack := envOfC qual scope s.heap.objs.size f cd :: outer
  ex := []
  calm := true
  fn := fun _ => true
  pn := []
  xe := fun e s' => wpAny (model P w) (A.deeper (envOfC qual scope s.heap.objs.size f cd)) (leaving (envOfC qual scope s.heap.objs.size f cd) e) (fun _ s'' => CX outer H s E e s'') (fun e' s'' => CX outer H s E e' s'') s'
theorem cell_has {sc : Scope} {n : Nat} {x : Str} (h : sc.names.lookup x = some .cell) : ∃ c, (cellsFrom n sc.names []).lookup x = some c := by
  have q := PySem.W.cellsFrom_some sc.names n [] (.inl h)
  exact Option.isSome_iff_exists.mp q
theorem inv_start {CX : CXT} {P : Program} {w : World} {K : PySem.W.Frag} {mg : Str → Option Value} {base : Heap} {N ps : List Str} {qual : Str} {scope : Scope} {f : Addr} {cd : Value} {A : Around} {outer : List Env} {s s1 : Shared} {H : Hp} {E : XK} {us : List Value} {vs : List V}
    (S : FnScope N ps scope) (hd : A.handled = none) (e0 : Env0 P w K mg base A outer s H) (hl : vs.length = ps.length) (r : Vals vs us)
    (x : InCallC s s.heap.objs.size (bindL (envOfC qual scope s.heap.objs.size f cd).kindOf (ps.zip us) fun _ => none) (cellsFrom (s.heap.objs.size + 1) scope.names []) (bindC (envOfC qual scope s.heap.objs.size f cd).kindOf (ps.zip us) fun _ => none) s1) :
    Inv (cxOf CX P w K mg base N qual scope f cd A outer s H E) [] (start N vs) H s1 := by
  have hpl : ps.length ≤ N.length := by have := congrArg List.length S.pre; rw [List.length_take] at this; omega
  obtain ⟨h1, tk, rfl, hk⟩ := x.done
  have noA : ∀ b : Addr, b ∉ (cxOf CX P w K mg base N qual scope f cd A outer s H E).ex := fun b z => absurd (show b ∈ ([] : List Addr) from z) (by simp)
  refine ⟨⟨e0.mod, S.kind, rfl, rfl, Nat.le_refl _, fun y z c h1 h2 => ?_, fun y hy => ?_, fun y c _ h => ?_, fun _ => hd, Around.frames_deeper e0.frames, .inr ⟨rfl, rfl⟩, fun b z => absurd z (noA b), e0.bs, e0.bsz, fun b _ _ => noA b, fun b z => absurd z (noA b), e0.funs, e0.frf⟩,
    rfl, e0.bare, Un.kept hk, ⟨_, x.toInCall.ns, fun i y v h1 h2 h3 => ?_⟩, fun y c h => ⟨_, x.cell y c h⟩, e0.hok.fresh (Nat.le_refl _), fun y c h => ?_, fun p hp => absurd (show p ∈ ([] : List (Addr × Obj)) from hp) (by simp), e0.hok.kept hk, ?_⟩
  · exact name_of_addr x.apart (PySem.mem_of_lookup h1) (PySem.mem_of_lookup h2)
  · have hy : scope.names.lookup y = some .cell ∨ scope.names.lookup y = some .free := hy
    rcases hy with hy | hy
    · exact cell_has hy
    · exact absurd rfl (S.nofree _ (PySem.mem_of_lookup hy))
  · exact Nat.le_of_lt (x.above y c (PySem.mem_of_lookup h))
  · have hi : i < vs.length := by
      unfold start at h2
      by_cases hi : i < vs.length
      · exact hi
      · rw [List.getElem?_append_right (by simpa using hi)] at h2
        rw [List.getElem?_replicate] at h2
        split at h2 <;> cases h2
    have ha : vs[i]? = some v := by
      unfold start at h2
      rw [List.getElem?_append_left (by simpa using hi), List.getElem?_map] at h2
      cases e : vs[i]? with
      | none => rw [e] at h2; cases h2
      | some a => rw [e] at h2; cases h2; rfl
    obtain ⟨u, hu, rv⟩ := r.get ha
    have hp : ps[i]? = some y := by
      rw [← S.pre, List.getElem?_take_of_lt (by omega)]; exact h1
    have ndP : ps.Nodup := by rw [← S.pre]; exact S.nd.sublist (List.take_sublist _ _)
    refine ⟨u, rv, ?_⟩
    rcases S.par y (List.mem_of_getElem? hp) with k | k
    · exact .inl ⟨k, bindL_get ndP hp hu k⟩
    · obtain ⟨c, e⟩ := cell_has (n := s.heap.objs.size + 1) k
      refine .inr ⟨.inl k, c, e, ?_⟩
      have q := x.cell y c e
      rw [bindC_get ndP hp hu (by show scope.names.lookup y ≠ _; rw [k]; decide)] at q
      exact q
  · exact e0.hok.fresh (Nat.le_of_lt (x.above y c (PySem.mem_of_lookup h)))
  · unfold start
    show _ = N.length
    rw [List.length_append, List.length_map, List.length_replicate]
    omega
theorem fn_of {CX : CXT} {P : Program} {w : World} {K : PySem.W.Frag} {mg : Str → Option Value} {base : Heap} {k : Nat} {f : Addr} {name qual : Str} {params : Arguments} {body : List Stmt} {scope : Scope} {dV kV doc pm cdv ct oc : Value} {an od : Option Addr}
    {osl : Array (Option Value)} {N ps : List Str} {sp : Sp} (lk : K.lookup f = some ⟨oc, od, .func (PySem.W.fnOf name qual params body scope dV kV doc pm an cdv ct), osl⟩) (hcd : PySem.W.codeIn K cdv qual = true) (S : FnScope N ps scope)
    (len : ∀ vs H Q E, sp vs H Q E → vs.length = ps.length)
    (hbody : ∀ (A : Around) (outer : List Env) (s : Shared) (H : Hp) (vs : List V) (Q : VK) (E : XK), Room k (A.deeper (envOfC qual scope s.heap.objs.size f cdv)) → sp vs H Q E →
      ∃ t, PSs (cxOf CX P w K mg base N qual scope f cdv A outer s H E) body t ∧ t { nx := fun _ H' => Q .non H', rt := Q } (start N vs) H) :
    FnOk P w K mg base CX (k + 1) f (PySem.W.fnOf name qual params body scope dV kV doc pm an cdv ct) ps sp := by
  refine ⟨len, fun A outer s H args us vs Q E hr e0 hb r hsp => ?_⟩
  have hl := len _ _ _ _ hsp
  have KX : K.In s.heap := e0.mod.kin.keeps fun b o e => (e0.bs b o e).1
  have lim : s.heap.NoLimit := e0.mod.nolimit.keeps fun b o e => (e0.bs b o e).1
  have hkind : ∀ y ∈ ps.zip us, scope.names.lookup y.1 = some .local ∨ (scope.names.lookup y.1 = some .cell ∧ ((cellsFrom (s.heap.objs.size + 1) scope.names []).lookup y.1).isSome = true) := fun ⟨n, v⟩ hy => by
    rcases S.par n (List.of_mem_zip hy).1 with q | q
    · exact .inl q
    · exact .inr ⟨q, PySem.W.cellsFrom_some _ _ _ (.inl q)⟩
  refine codeAny_call_function hr.depth (KX _ _ lk) rfl S.co S.gen rfl (PySem.W.codeRec_of KX hcd) (hb _ _ _ _ ?_)
  refine wpAny_newFunctionEnv_cells S.kind hkind fun env he s1 x => ?_
  subst he
  refine ⟨lim.keeps x.toInCall.keep, codeAny_func ?_⟩
  obtain ⟨t, ht, hq⟩ := hbody A outer s H vs Q E (hr.deeper _) hsp
  have I : Inv (cxOf CX P w K mg base N qual scope f cdv A outer s H E) [] (start N vs) H s1 := inv_start S hr.hd e0 hl r x
  refine wpAny_mono (ht [] s1 (start N vs) H _ I hq) (fun fl s' hs => ?_) fun e s' hs => hs
  have fin : ∀ {σ' : St} {H' : Hp} {v : V} {u : Value}, Inv (cxOf CX P w K mg base N qual scope f cdv A outer s H E) [] σ' H' s' → RelV v u → Q v H' → CE outer P w H s Q u s' :=
    fun {σ' H' v u} J rv q => ⟨v, H', J.os, J.bare, J.base, J.hok, rv, q⟩
  cases fl with
  | ret u =>
    obtain ⟨v, σ', H', J, rv, q⟩ := hs
    exact fin J rv q
  | next =>
    obtain ⟨σ', H', J, q⟩ := hs
    exact fin (v := V.non) (u := Value.none) J rfl q
  | brk =>
    obtain ⟨_, _, _, q⟩ := hs
    exact False.elim q
  | cont =>
    obtain ⟨_, _, _, q⟩ := hs
    exact False.elim q
end L2
namespace L2
open PySem PySem.Spec PyProof.Rows
section
variable {X : Cx} {x : Str} {p pos : Pos} {e : Expr} {es : List Expr} {t : TA} {id T : String} {r : List V → Hp → VK → Prop}
noncomputable def tCB (r : List V → Hp → VK → Prop) (t : TA) : TE := fun σ H Q => t σ H fun vs H1 => r vs H1 Q
theorem pe_callB (hc : CallR X (.builtin id) r) (hg : Gl X x) (hm : X.mg x = none) (hv : bootBuiltins x = some (.builtin id)) (ha : PA X (e :: es) t) (hn : x ≠ "__name__" := by decide) (hdb : (x == ("__debug__" : Str)) = false := by decide)
    (he : starEach (e :: es) X.env = (false, eval e X.env) :: starEach es X.env := by rfl) (hpl : (backTo pos (starEach es X.env)).any (·.1) = false := by rfl) : PE X (.Call (.Name x p) (e :: es) [] pos) (tCB r t) := by
  intro pins s σ H Q I h
  refine wpAny_Call_Name_kw (ld_blt I hg hm hv ?_ hn hdb)
  exact PyProof.Rows.callWith_builtin1 (thn (ha pos pins s σ H _ I h) fun us s1 ⟨vs, H1, I1, r1, q1⟩ => hc pins s1 σ H1 vs us Q I1 r1 q1) he hpl
theorem pe_callTy (hc : CallR X (.type T) r) (hg : Gl X x) (hm : X.mg x = none) (hv : bootBuiltins x = some (.type T)) (ha : PA X (e :: es) t) (hn : x ≠ "__name__" := by decide) (hdb : (x == ("__debug__" : Str)) = false := by decide)
    (he : starEach (e :: es) X.env = (false, eval e X.env) :: starEach es X.env := by rfl) (hpl : (backTo pos (starEach es X.env)).any (·.1) = false := by rfl) : PE X (.Call (.Name x p) (e :: es) [] pos) (tCB r t) := by
  intro pins s σ H Q I h
  refine wpAny_Call_Name_kw (ld_blt I hg hm hv ?_ hn hdb)
  exact PyProof.Rows.callWith_type1 (thn (ha pos pins s σ H _ I h) fun us s1 ⟨vs, H1, I1, r1, q1⟩ => hc pins s1 σ H1 vs us Q I1 r1 q1) he hpl
end
end L2
namespace HT
open PySem PyProof.Rows
section
open PySem.SeqAt
open PySem.AutoSeq1 (wpAny_loadPart')
open PySem.MeetsSeq PySem.MeetsSeq2 PySem.MeetsSeq3
end
section
variable {prog : Program} {w : World} {A : Around} {E : Value → Shared → Prop} {s : Shared}
theorem cat_tup {t b : Addr} {vs ws : List Value} {Q : Value → Shared → Prop} (ht : IsTup s.heap t vs.toArray) (hb : IsTup s.heap b ws.toArray) (hv : vs ≠ [])
    (h1 : ws = [] → Q (.ref t) s) (h2 : ws ≠ [] → Q (.ref s.heap.objs.size) { s with heap := s.heap.push { cls := .type "tuple", data := .seq (vs ++ ws).toArray } })
    (hsz : vs.length + ws.length ≤ sizeLine) : wpAny (model prog w) A (binaryOp .Add (.ref t) (.ref b)) Q E s := by
  obtain ⟨⟨cls, dd, data, sl⟩, ho, hc, n, hd⟩ := id ht
  obtain ⟨⟨cls2, dd2, data2, sl2⟩, ho2, hc2, n2, hd2⟩ := id hb
  simp only at hc hd hc2 hd2
  subst hc hd hc2 hd2
  have e : vs.toArray ++ ws.toArray = (vs ++ ws).toArray := by simp
  by_cases hw : ws = []
  · exact concat_meets ⟨_, ho, rfl⟩ ⟨_, ho2, rfl⟩ noFill_tuple_add seq_tuple_add PySem.F.slot_tuple_add PySem.F.entry_tuple_add (PySem.F.args_tuple_add_2 _ _)
      (tuple_addW1 t b vs.toArray ws.toArray n n2 dd dd2 sl sl2 (by simpa using hv) (by simp [hw])) ⟨ho, ho2, h1 hw⟩
  · refine concat_meets ⟨_, ho, rfl⟩ ⟨_, ho2, rfl⟩ noFill_tuple_add seq_tuple_add PySem.F.slot_tuple_add PySem.F.entry_tuple_add (PySem.F.args_tuple_add_2 _ _)
      (tuple_addW2 t b vs.toArray ws.toArray n n2 dd dd2 sl sl2 (by simpa using hv) (by simpa using hw) (by rw [List.size_toArray, List.size_toArray]; exact hsz)) ⟨ho, ho2, ?_⟩
    rw [e]
    exact h2 hw
noncomputable def sIx (n d : Nat) : Option Int → Nat
  | none => d
  | some v => if v < 0 then (v + (n : Int)).toNat else min v.toNat n
theorem sIx_none (n d : Nat) : sIx n d none = d := rfl
theorem sIx_nat (n d k : Nat) : sIx n d (some (k : Int)) = min k n := by
  show (if (k : Int) < 0 then ((k : Int) + (n : Int)).toNat else min (k : Int).toNat n) = min k n
  rw [if_neg (by omega), Int.toNat_natCast]
theorem sIx_le (n d : Nat) (hd : d ≤ n) (o : Option Int) : sIx n d o ≤ n := by
  cases o with
  | none => exact hd
  | some v =>
    show (if v < 0 then (v + (n : Int)).toNat else min v.toNat n) ≤ n
    by_cases hv : v < 0
    · rw [if_pos hv]; omega
    · rw [if_neg hv]; exact Nat.min_le_right _ _
theorem clip_eq (v : Int) (n d : Nat) : (if v < 0 then max (v + (n : Int)) 0 else min v (n : Int)) = ((sIx n d (some v) : Nat) : Int) := by
  show (if v < 0 then max (v + (n : Int)) 0 else min v (n : Int)) = (((if v < 0 then (v + (n : Int)).toNat else min v.toNat n) : Nat) : Int)
  by_cases hv : v < 0
  · simp only [if_pos hv]; omega
  · simp only [if_neg hv]; omega
end
end HT
namespace L2
open PySem PySem.Spec PyProof.Rows
noncomputable abbrev TO := St → Hp → (Option Int → Hp → Prop) → Prop
noncomputable def PO (X : Cx) (e : Option Expr) (t : TO) : Prop :=
  ∀ (pins : List (Addr × Obj)) (s : Shared) (σ : St) (H : Hp) (Q : Option Int → Hp → Prop), Inv X pins σ H s → t σ H Q →
    wpAny (model X.prog X.w) X.A (evalPart e X.env) (fun u s' => ∃ o H', Inv X pins σ H' s' ∧ IsPart u o ∧ Q o H') X.xe s
noncomputable def tNoPart : TO := fun _ H Q => Q none H
noncomputable def tPart (t : TE) : TO := fun σ H Q => t σ H fun x H1 => ∃ i, x = .int i ∧ Q (some i) H1
section
variable {X : Cx} {e : Expr} {te : TE} {lo hi : Option Expr} {tl th : TO} {pos p2 : Pos}
theorem po_none : PO X none tNoPart := by
  intro pins s σ H Q I h
  rw [evalPart_none]
  exact wpAny_pure ⟨none, H, I, .none, h⟩
theorem po_some (h : PE X e te) : PO X (some e) (tPart te) := by
  intro pins s σ H Q I hw
  rw [evalPart_some]
  refine thn (h pins s σ H _ I hw) fun u s1 ⟨x, H1, I1, r1, q1⟩ => ?_
  obtain ⟨i, rfl, q⟩ := q1
  obtain ⟨t, rfl⟩ := r1
  exact ⟨some i, H1, I1, .int i t, q⟩
noncomputable def SlR (X : Cx) (r : V → Option Int → Option Int → Hp → VK → Prop) : Prop :=
  ∀ (pins : List (Addr × Obj)) (s : Shared) (σ : St) (H : Hp) (x : V) (v vl vu : Value) (lo hi : Option Int) (sl : Addr) (Q : VK), Inv X pins σ H s → RelV x v → s.heap.IsSliceOf sl vl vu .none → IsPart vl lo → IsPart vu hi → r x lo hi H Q →
    ∃ T id, typeLookup (.type T) "__getitem__" = pure (some (.builtin id)) ∧ s.TypeIs v T ∧ wpAny (model X.prog X.w) X.A (getItem v (.ref sl)) (EP X pins σ Q) X.xe s
theorem SlR.or {r r' : V → Option Int → Option Int → Hp → VK → Prop} (h : SlR X r) (h' : SlR X r') : SlR X (fun x lo hi H Q => r x lo hi H Q ∨ r' x lo hi H Q) := by
  intro pins s σ H x v vl vu lo hi sl Q I rx hs pl pu q
  rcases q with q | q
  · exact h pins s σ H x v vl vu lo hi sl Q I rx hs pl pu q
  · exact h' pins s σ H x v vl vu lo hi sl Q I rx hs pl pu q
noncomputable def tSl (r : V → Option Int → Option Int → Hp → VK → Prop) (te : TE) (tl th : TO) : TE := fun σ H Q => te σ H fun x H1 => tl σ H1 fun l H2 => th σ H2 fun u H3 => r x l u H3 Q
theorem pe_slice {r : V → Option Int → Option Int → Hp → VK → Prop} (hr : SlR X r) (he : PE X e te) (hl : PO X lo tl) (hu : PO X hi th) : PE X (.Subscript e (.Slice lo hi none p2) pos) (tSl r te tl th) := by
  intro pins s σ H Q I h
  refine Subscript_ (thn (he pins s σ H _ I h) fun v s1 ⟨x, H1, I1, r1, q1⟩ => ?_)
  refine wpAny_Slice (thn (hl pins s1 σ H1 _ I1 q1) fun vl s2 ⟨l, H2, I2, pl, q2⟩ => thn (hu pins s2 σ H2 _ I2 q2) fun vu s3 ⟨u, H3, I3, pu, q3⟩ => ?_)
  rw [evalPart_none]
  refine wpAny_pure ?_
  have I4 : Inv X pins σ H3 { s3 with heap := s3.heap.push { cls := .type "slice", data := .fields #[vl, vu, .none] } } := I3.kept (t' := s3.toks) fun b ob q => Heap.get?_push_of_some _ q
  obtain ⟨T, id, hT, ht, hg⟩ := hr pins { s3 with heap := s3.heap.push { cls := .type "slice", data := .fields #[vl, vu, .none] } } σ H3 x v vl vu l u s3.heap.objs.size Q I4 r1 (Heap.IsSliceOf.new ..) pl pu q3
  show wpAny (model X.prog X.w) X.A (subscriptTail e (.Slice lo hi none p2) v (.ref s3.heap.objs.size)) (EP X pins σ Q) X.xe { s3 with heap := s3.heap.push { cls := .type "slice", data := .fields #[vl, vu, .none] } }
  exact tail_any (ops := [.ref s3.heap.objs.size, v]) ht hT hg (by with_unfolding_all rfl)
noncomputable def cutV (xs : List V) (lo hi : Option Int) : List V := (xs.drop (HT.sIx xs.length 0 lo)).take (HT.sIx xs.length xs.length hi - HT.sIx xs.length 0 lo)
theorem cutV_length (xs : List V) (lo hi : Option Int) : (cutV xs lo hi).length ≤ xs.length := by
  unfold cutV
  rw [List.length_take, List.length_drop]
  omega
noncomputable def rSlT (K : PySem.W.Frag) : V → Option Int → Option Int → Hp → VK → Prop := fun x lo hi H Q => ∃ a xs, x = .ref a ∧ SqT K H a xs ∧
  ¬ (HT.sIx xs.length 0 lo = 0 ∧ HT.sIx xs.length xs.length hi = xs.length) ∧ ∀ p, H p = none → Q (.ref p) (upd H p (.tup (cutV xs lo hi)))
noncomputable def rCatT (K : PySem.W.Frag) : R2 := fun x y H Q => ∃ a b xs ys, x = .ref a ∧ y = .ref b ∧ SqT K H a xs ∧ SqT K H b ys ∧ xs ≠ [] ∧ xs.length + ys.length ≤ sizeLine ∧
  (ys = [] → Q (.ref a) H) ∧ (ys ≠ [] → ∀ p, H p = none → Q (.ref p) (upd H p (.tup (xs ++ ys))))
theorem Vals.nil_iff {xs : List V} {us : List Value} (r : Vals xs us) : us = [] ↔ xs = [] := by
  cases r with
  | nil => simp
  | cons _ _ => simp
theorem op_catT : OpR X (binaryOp .Add) (rCatT X.K) := by
  intro pins s σ H x y v u Q I rx ry h
  obtain ⟨a, b, xs, ys, rfl, rfl, ha, hb, hx, hz, q1, q2⟩ := h
  cases rx
  cases ry
  obtain ⟨its, r1, p1, _⟩ := I.tuple ha
  obtain ⟨its2, r2, p2, _⟩ := I.tuple hb
  refine HT.cat_tup p1 p2 (fun z => hx (r1.nil_iff.mp z)) (fun z => ⟨.ref a, H, I, rfl, q1 (r2.nil_iff.mp z)⟩) (fun z => ?_) (by rw [← r1.length, ← r2.length]; exact hz)
  refine ⟨.ref s.heap.objs.size, _, I.laid (t' := s.toks) (o := .tup (xs ++ ys)) (fun b ob q => Heap.get?_push_of_some _ q) (Nat.le_refl _) ?_, rfl, q2 (fun w => z (r2.nil_iff.mpr w)) _ (I.hok.fresh (Nat.le_refl _))⟩
  exact ⟨by rw [List.length_append]; exact hz, _, r1.append r2, IsTup.new _ _⟩
end
end L2
namespace L2
open PySem PySem.Spec PyProof.Rows
noncomputable def ixN (n : Nat) (i : Int) : Option Nat := if 0 ≤ i then (if i < n then some i.toNat else none) else if -(n : Int) ≤ i then some (i + n).toNat else none
noncomputable def atI {α : Type} (xs : List α) (i : Int) : Option α := (ixN xs.length i).bind fun j => xs[j]?
theorem ixN_seq {n : Nat} {i : Int} {j : Nat} (h : ixN n i = some j) : seqIndex? i n = some j ∧ j < n ∧ -(n : Int) ≤ i ∧ i < n := by
  unfold ixN at h
  by_cases h0 : 0 ≤ i
  · rw [if_pos h0] at h
    by_cases h1 : i < n
    · rw [if_pos h1] at h
      have e : i.toNat = j := Option.some.inj h
      exact ⟨by rw [seqIndex_of h0 h1, e], by omega, by omega, h1⟩
    · rw [if_neg h1] at h; cases h
  · rw [if_neg h0] at h
    by_cases h1 : -(n : Int) ≤ i
    · rw [if_pos h1] at h
      have e : (i + n).toNat = j := Option.some.inj h
      exact ⟨by rw [seqIndex_neg (by omega) h1, e], by omega, h1, by omega⟩
    · rw [if_neg h1] at h; cases h
theorem atI_get {α : Type} {xs : List α} {i : Int} {v : α} (h : atI xs i = some v) : ∃ j, seqIndex? i xs.length = some j ∧ xs[j]? = some v ∧ j < xs.length ∧ -(xs.length : Int) ≤ i ∧ i < xs.length := by
  unfold atI at h
  cases e : ixN xs.length i with
  | none => rw [e] at h; cases h
  | some j =>
    rw [e] at h
    obtain ⟨h1, h2, h3, h4⟩ := ixN_seq e
    exact ⟨j, h1, h, h2, h3, h4⟩
theorem atI_nat {α : Type} {xs : List α} {j : Nat} {v : α} (h : xs[j]? = some v) : atI xs (j : Int) = some v := by
  have hj : j < xs.length := (List.getElem?_eq_some_iff.mp h).1
  have e : ixN xs.length (j : Int) = some j := by
    unfold ixN
    rw [if_pos (by omega), if_pos (by omega)]; simp
  unfold atI; rw [e]; exact h
theorem atI_last {α : Type} (xs : List α) (v : α) : atI (xs ++ [v]) (-1) = some v := by
  have hl : (xs ++ [v]).length = xs.length + 1 := by simp
  have e : ixN (xs ++ [v]).length (-1) = some xs.length := by
    unfold ixN
    rw [hl, if_neg (by decide), if_pos (by omega)]
    congr 1
    omega
  unfold atI
  rw [e]
  show (xs ++ [v])[xs.length]? = some v
  simp
noncomputable def PlainIx (b : Expr) : Prop := ∀ o i, subscripted b false o i = operate [o, i] (getItem o i)
noncomputable def IxR (X : Cx) (r : R2) : Prop :=
  ∀ (value slice : Expr) (pins : List (Addr × Obj)) (s : Shared) (σ : St) (H : Hp) (x y : V) (v u : Value) (Q : VK), Inv X pins σ H s → RelV x v → RelV y u → r x y H Q →
    subscripted slice false v u = operate [v, u] (getItem v u) → wpAny (model X.prog X.w) X.A (subscriptTail value slice v u) (EP X pins σ Q) X.xe s
noncomputable def MtR (X : Cx) (id : String) (r : V → List V → Hp → VK → Prop) : Prop :=
  ∀ (pins : List (Addr × Obj)) (s : Shared) (σ : St) (H : Hp) (x : V) (xs : List V) (v : Value) (us : List Value) (Q : VK), Inv X pins σ H s → RelV x v → Vals xs us → r x xs H Q →
    wpAny (model X.prog X.w) X.A (call (.builtin id) (v :: us)) (EP X pins σ Q) X.xe s
section
variable {X : Cx} {a b : Expr} {ta tb : TE} {pos : Pos}
theorem IxR.or {r r' : R2} (h : IxR X r) (h' : IxR X r') : IxR X (fun x y H Q => r x y H Q ∨ r' x y H Q) := by
  intro value slice pins s σ H x y v u Q I rx ry q hs
  rcases q with q | q
  · exact h value slice pins s σ H x y v u Q I rx ry q hs
  · exact h' value slice pins s σ H x y v u Q I rx ry q hs
theorem MtR.or {id : String} {r r' : V → List V → Hp → VK → Prop} (h : MtR X id r) (h' : MtR X id r') : MtR X id (fun x xs H Q => r x xs H Q ∨ r' x xs H Q) := by
  intro pins s σ H x xs v us Q I rx rs q
  rcases q with q | q
  · exact h pins s σ H x xs v us Q I rx rs q
  · exact h' pins s σ H x xs v us Q I rx rs q
theorem pe_ix {r : R2} (hr : IxR X r) (ha : PE X a ta) (hb : PE X b tb) (hs : PlainIx b) : PE X (.Subscript a b pos) (tOp r ta tb) := by
  intro pins s σ H Q I h
  exact Subscript_ (binT ha hb I h fun v u s2 x y H2 I2 rx ry q => hr a b pins s2 σ H2 x y v u Q I2 rx ry q (hs _ _))
noncomputable def rIxL (K : PySem.W.Frag) : R2 := fun x y H Q => ∃ p xs i v, x = .ref p ∧ y = .int i ∧ SqL K H p xs ∧ atI xs i = some v ∧ Q v H
noncomputable def rIxT (K : PySem.W.Frag) : R2 := fun x y H Q => ∃ p xs i v, x = .ref p ∧ y = .int i ∧ SqT K H p xs ∧ atI xs i = some v ∧ Q v H
noncomputable def rIxS : R2 := fun x y H Q => ∃ z i c, x = .str z ∧ y = .int i ∧ z.length ≤ sizeLine ∧ atI z.cps.toList i = some c ∧ Q (.str ⟨#[c]⟩) H
theorem ix_list : IxR X (rIxL X.K) := by
  intro value slice pins s σ H x y v u Q I rx ry h hs
  obtain ⟨p, xs, i, z, rfl, rfl, hq, he, q⟩ := h
  cases rx
  obtain ⟨t, rfl⟩ := ry
  obtain ⟨its, r, pl, hz⟩ := I.list hq
  obtain ⟨j, h1, h2, h3, h4, h5⟩ := atI_get he
  obtain ⟨w, ew, rw'⟩ := r.get h2
  have hl := r.length
  have hn := line63
  have fin : EP X pins σ Q w s := ⟨z, H, I, rw', q⟩
  by_cases h0 : 0 ≤ i
  · have hj : i.toNat = j := by
      rw [seqIndex_of h0 h5] at h1
      exact Option.some.inj h1
    exact item_listR pl.isList h0 (by omega) (by rw [hj]; simpa using ew) fin hs
  · have hj : (i + (its.toArray.size : Int)).toNat = j := by
      rw [seqIndex_neg (by omega) h4] at h1
      rw [List.size_toArray, ← hl]
      exact Option.some.inj h1
    exact subscriptTail_builtinR (x := w) pl.isList.typeIs slot_list_getitem.lookup
      (wpAny_getItem_list_neg (Q := fun r s' => r = w ∧ EP X pins σ Q r s') pl.isList (by omega) (by rw [List.size_toArray] <;> omega) (by omega) (by rw [hj]; simpa using ew) ⟨rfl, fin⟩) hs
theorem ix_tup : IxR X (rIxT X.K) := by
  intro value slice pins s σ H x y v u Q I rx ry h hs
  obtain ⟨p, xs, i, z, rfl, rfl, hq, he, q⟩ := h
  cases rx
  obtain ⟨t, rfl⟩ := ry
  obtain ⟨its, r, pl, hz⟩ := I.tuple hq
  obtain ⟨j, h1, h2, h3, h4, h5⟩ := atI_get he
  obtain ⟨w, ew, rw'⟩ := r.get h2
  have hl := r.length
  have hn := line63
  have fin : EP X pins σ Q w s := ⟨z, H, I, rw', q⟩
  exact subscriptTail_builtinR (x := w) pl.typeIs slot_tuple_getitem.lookup
    (getItem_tuple (j := j) (Q := fun r s' => r = w ∧ EP X pins σ Q r s') pl (by omega) (by omega) (by rw [List.size_toArray, ← hl]; exact h1) (by simpa using ew) ⟨rfl, fin⟩) hs
theorem ix_str : IxR X rIxS := by
  intro value slice pins s σ H x y v u Q I rx ry h hs
  obtain ⟨z, i, c, rfl, rfl, hz, he, q⟩ := h
  obtain ⟨t, rfl⟩ := rx
  obtain ⟨t', rfl⟩ := ry
  obtain ⟨j, h1, h2, h3, h4, h5⟩ := atI_get he
  have hl : z.cps.toList.length = z.length := by simp [Str.length]
  rw [hl] at h1 h4 h5
  have hn := line63
  exact tail_any (typeIs_str s z t) slot_str_getitem.lookup (getItem_str (c := c) (by
    have e1 : decide (i < -(2 ^ 63 : Int)) = false := decide_eq_false (by omega)
    have e2 : decide (i ≥ 2 ^ 63) = false := decide_eq_false (by omega)
    rw [e1, e2, Bool.or_false]) (by rw [h1]; simpa using h2) ⟨.str ⟨#[c]⟩, H, I.tok _, ⟨_, rfl⟩, q⟩) hs
noncomputable def rIx (K : PySem.W.Frag) : R2 := fun x y H Q => rIxL K x y H Q ∨ rIxT K x y H Q ∨ rIxS x y H Q
theorem ix_seq : IxR X (rIx X.K) := ix_list.or (ix_tup.or ix_str)
theorem mapSeq_set (its : List Value) (n j : Nat) (u : Value) : Obj.mapSeq (·.setIfInBounds j u) { cls := .type "list", data := .seq its.toArray n } = { cls := .type "list", data := .seq (its.set j u).toArray n } := by
  simp [Obj.mapSeq]
theorem Inv.lst {pins : List (Addr × Obj)} {σ : St} {H : Hp} {s : Shared} {p : Addr} {xs : List V} (I : Inv X pins σ H s) (h : H p = some (.lst xs)) :
    ∃ (its : List Value) (n : Nat), Vals xs its ∧ s.heap.get? p = some { cls := .type "list", data := .seq its.toArray n } ∧ xs.length ≤ sizeLine := by
  obtain ⟨z, its, n, r, e⟩ := I.hok p _ h
  exact ⟨its, n, r, e, z⟩
theorem Inv.lstUpd {pins : List (Addr × Obj)} {σ : St} {H : Hp} {s : Shared} {p : Addr} {xs ys : List V} {its its' : List Value} {n n' : Nat} {f : Obj → Obj} (I : Inv X pins σ H s) (h : H p = some (.lst xs))
    (ho : s.heap.get? p = some { cls := .type "list", data := .seq its.toArray n }) (hf : f { cls := .type "list", data := .seq its.toArray n } = { cls := .type "list", data := .seq its'.toArray n' }) (r : Vals ys its') (hz : ys.length ≤ sizeLine) (t : Nat) :
    Inv X pins σ (upd H p (.lst ys)) { s with heap := s.heap.update p f, toks := t } := by
  have e : (s.heap.update p f).get? p = some { cls := .type "list", data := .seq its'.toArray n' } := by
    rw [Heap.get?_update_self f ho (by rw [hf] <;> rfl), hf]
  refine I.write (x := p) (e := p) (by rw [h]; trivial) (.inl rfl) (fun b u hb q => (Heap.get?_update_other _ _ (Ne.symm hb)).trans q) ⟨_, e⟩ ?_
  exact ⟨hz, its', n', r, e⟩
noncomputable def rSetL : V → V → V → Hp → (Hp → Prop) → Prop := fun o i v H Q => ∃ p xs k j, o = .ref p ∧ i = .int k ∧ H p = some (.lst xs) ∧ ixN xs.length k = some j ∧ Q (upd H p (.lst (xs.set j v)))
theorem set_list : PSet X rSetL := by
  intro pins s σ H o i v ov iv u Q I ro ri rv h
  obtain ⟨p, xs, k, j, rfl, rfl, hp, hj, q⟩ := h
  cases ro
  obtain ⟨t, rfl⟩ := ri
  obtain ⟨its, n, r, ho, hz⟩ := I.lst hp
  obtain ⟨h1, h2, h3, h4⟩ := ixN_seq hj
  have hl := r.length
  have hn := line63
  have I' : Inv X pins σ (upd H p (.lst (xs.set j v))) { s with heap := s.heap.update p (Obj.mapSeq (·.setIfInBounds j u)) } :=
    I.lstUpd hp ho (mapSeq_set its n j u) (r.set rv j) (by rw [List.length_set]; exact hz) s.toks
  by_cases h0 : 0 ≤ k
  · have hk : k.toNat = j := by
      rw [seqIndex_of h0 h4] at h1
      exact Option.some.inj h1
    exact PySem.W.ki_setAt ho h0 (by omega) (by rw [List.size_toArray, ← hl]; exact h4) (by rw [hk]; exact ⟨_, I', q⟩)
  · have hk : (k + (its.toArray.size : Int)).toNat = j := by
      rw [seqIndex_neg (by omega) h3] at h1
      rw [List.size_toArray, ← hl]
      exact Option.some.inj h1
    exact PySem.W.ki_setBack ho (by omega) (by rw [List.size_toArray, ← hl]; exact h3) (by omega) (by rw [hk]; exact ⟨_, I', q⟩)
theorem slice_bounds (lo hi : Option Int) (n : Nat) : (sliceBounds lo hi none n).1 = ((HT.sIx n 0 lo : Nat) : Int) ∧ (sliceBounds lo hi none n).2.1 = ((HT.sIx n n hi : Nat) : Int) ∧ (sliceBounds lo hi none n).2.2 = 1 := by
  refine ⟨?_, ?_, rfl⟩
  · cases lo with
    | none => simp [sliceBounds, HT.sIx]
    | some i =>
      simp only [sliceBounds, HT.sIx, Option.getD_none, show (1 : Int) > 0 by decide, if_true]
      by_cases h : i < 0
      · simp only [h, if_true] <;> omega
      · simp only [h, if_false] <;> omega
  · cases hi with
    | none => simp [sliceBounds, HT.sIx]
    | some i =>
      simp only [sliceBounds, HT.sIx, Option.getD_none, show (1 : Int) > 0 by decide, if_true]
      by_cases h : i < 0
      · simp only [h, if_true] <;> omega
      · simp only [h, if_false] <;> omega
theorem slicePick_cut (its : List Value) (lo hi : Option Int) : slicePick its.toArray lo hi none = ((its.drop (HT.sIx its.length 0 lo)).take (HT.sIx its.length its.length hi - HT.sIx its.length 0 lo)).toArray := by
  obtain ⟨h1, h2, h3⟩ := slice_bounds lo hi its.toArray.size
  unfold slicePick
  rw [h1, h2, h3]
  simp only [sliceRange_one, pick_run, List.size_toArray] <;> rfl
noncomputable def rSlL (K : PySem.W.Frag) : V → Option Int → Option Int → Hp → VK → Prop := fun x lo hi H Q => ∃ a xs, x = .ref a ∧ SqL K H a xs ∧ ∀ p, H p = none → Q (.ref p) (upd H p (.lst (cutV xs lo hi)))
theorem sl_list : SlR X (rSlL X.K) := by
  intro pins s σ H x v vl vu lo hi sl Q I rx hs pl pu h
  obtain ⟨a, xs, rfl, hx, q⟩ := h
  cases rx
  obtain ⟨its, r, ht, hz⟩ := I.list hx
  have hlen := r.length
  refine ⟨"list", _, slot_list_getitem.lookup, ht.isList.typeIs, ?_⟩
  refine wpAny_getItem_list_slice ht.isList hs pl pu .none (by simp) ?_ (by rw [List.size_toArray] <;> omega)
  rw [slicePick_cut, ← hlen]
  refine ⟨.ref s.heap.objs.size, _, I.laid (t' := s.toks) (o := .lst (cutV xs lo hi)) (fun b ob q => Heap.get?_push_of_some _ q) (Nat.le_refl _) ?_, rfl, q _ (I.hok.fresh (Nat.le_refl _))⟩
  exact ⟨Nat.le_trans (cutV_length xs lo hi) hz, _, 0, (r.drop (HT.sIx xs.length 0 lo)).take (HT.sIx xs.length xs.length hi - HT.sIx xs.length 0 lo), Heap.get?_push_size _ rfl⟩
noncomputable def flatV : V → Bool
  | .non => true
  | .bl _ => true
  | .int _ => true
  | .str _ => true
  | _ => false
noncomputable def eqV : V → V → Bool
  | .non, .non => true
  | .bl a, .bl b => a == b
  | .bl a, .int b => (if a then 1 else 0) == b
  | .int a, .bl b => a == (if b then 1 else 0)
  | .int a, .int b => a == b
  | .str a, .str b => a == b
  | _, _ => false
theorem eqAt_V {A : Around} {s : Shared} {y x : V} {u v : Value} (ry : RelV y u) (rx : RelV x v) (fy : flatV y = true) (fx : flatV x = true) : SeqAt.EqAt A s u v (eqV y x) := by
  cases y with
  | non =>
    cases ry
    cases x with
    | non => cases rx; exact SeqAt.EqAt.same _
    | bl b => cases rx; exact SeqAt.EqAt.none_bool b
    | int b => obtain ⟨t, rfl⟩ := rx; exact SeqAt.EqAt.none_int b t
    | str b => obtain ⟨t, rfl⟩ := rx; exact SeqAt.EqAt.none_str b t
    | _ => exact absurd (show false = true from fx) Bool.false_ne_true
  | bl a =>
    cases ry
    cases x with
    | non => cases rx; exact SeqAt.EqAt.bool_none a
    | bl b => cases rx; exact SeqAt.EqAt.bool_bool a b
    | int b => obtain ⟨t, rfl⟩ := rx; exact SeqAt.EqAt.bool_int a b t
    | str b => obtain ⟨t, rfl⟩ := rx; exact SeqAt.EqAt.bool_str a b t
    | _ => exact absurd (show false = true from fx) Bool.false_ne_true
  | int a =>
    obtain ⟨t', rfl⟩ := ry
    cases x with
    | non => cases rx; exact SeqAt.EqAt.int_none a t'
    | bl b => cases rx; exact SeqAt.EqAt.int_bool a t' b
    | int b => obtain ⟨t, rfl⟩ := rx; exact SeqAt.EqAt.int_int a t' b t
    | str b => obtain ⟨t, rfl⟩ := rx; exact SeqAt.EqAt.int_str a t' b t
    | _ => exact absurd (show false = true from fx) Bool.false_ne_true
  | str a =>
    obtain ⟨t', rfl⟩ := ry
    cases x with
    | non => cases rx; exact SeqAt.EqAt.str_none a t'
    | bl b => cases rx; exact SeqAt.EqAt.str_bool a t' b
    | int b => obtain ⟨t, rfl⟩ := rx; exact SeqAt.EqAt.str_int a t' b t
    | str b => obtain ⟨t, rfl⟩ := rx; exact SeqAt.EqAt.str_str a t' b t
    | _ => exact absurd (show false = true from fx) Bool.false_ne_true
  | _ => exact absurd (show false = true from fy) Bool.false_ne_true
noncomputable def eqU (x : V) (u : Value) : Bool := match u with
  | .none => eqV .non x
  | .bool b => eqV (.bl b) x
  | .int i _ => eqV (.int i) x
  | .str z _ => eqV (.str z) x
  | _ => false
theorem eqU_of {x y : V} {u : Value} (r : RelV y u) (f : flatV y = true) : eqU x u = eqV y x := by
  cases y with
  | non => cases r; rfl
  | bl b => cases r; rfl
  | int i => obtain ⟨t, rfl⟩ := r; rfl
  | str z => obtain ⟨t, rfl⟩ := r; rfl
  | _ => exact absurd (show false = true from f) Bool.false_ne_true
theorem any_eqU {x : V} : ∀ {xs : List V} {us : List Value}, Vals xs us → xs.all flatV = true → us.any (eqU x) = xs.any fun y => eqV y x
  | _, _, .nil, _ => rfl
  | y :: xs, u :: us, .cons r t, f => by
    rw [List.all_cons, Bool.and_eq_true] at f
    rw [List.any_cons, List.any_cons, eqU_of r f.1, any_eqU t f.2]
theorem mem_eqAt {A : Around} {s : Shared} {x : V} {v : Value} (rx : RelV x v) (fx : flatV x = true) : ∀ {xs : List V} {us : List Value}, Vals xs us → xs.all flatV = true → ∀ u ∈ us, SeqAt.EqAt A s u v (eqU x u)
  | _, _, .nil, _ => fun u hu => by cases hu
  | y :: xs, u :: us, .cons r t, f => fun u' hu => by
    rw [List.all_cons, Bool.and_eq_true] at f
    rcases List.mem_cons.mp hu with rfl | hu
    · rw [eqU_of r f.1]; exact eqAt_V r rx f.1 fx
    · exact mem_eqAt rx fx t f.2 u' hu
noncomputable def inV (x : V) (xs : List V) : Bool := xs.any fun y => eqV y x
noncomputable def rIn (K : PySem.W.Frag) (neg : Bool) : R2 := fun x y H Q => ∃ p xs, y = .ref p ∧ (SqL K H p xs ∨ SqT K H p xs) ∧ flatV x = true ∧ xs.all flatV = true ∧ Q (.bl (if neg then !inV x xs else inV x xs)) H
theorem op_in_seq : OpR X (compareOp .In) (rIn X.K false) := by
  intro pins s σ H x y v u Q I rx ry h
  obtain ⟨p, xs, rfl, hq, fx, fs, q⟩ := h
  cases ry
  rcases hq with hq | hq
  · obtain ⟨its, r, pl, hz⟩ := I.list hq
    refine SeqAt.in_listAt (eqU x) pl.isList (fun w hw => mem_eqAt rx fx r fs w (by simpa using hw)) ⟨.bl _, H, I, rfl, ?_⟩
    rw [show its.toArray.any (eqU x) = its.any (eqU x) by simp, any_eqU r fs]
    exact q
  · obtain ⟨its, r, pl, hz⟩ := I.tuple hq
    refine SeqAt.in_tupleAt (eqU x) pl (fun w hw => mem_eqAt rx fx r fs w (by simpa using hw)) ⟨.bl _, H, I, rfl, ?_⟩
    rw [show its.toArray.any (eqU x) = its.any (eqU x) by simp, any_eqU r fs]
    exact q
theorem op_notIn_seq : OpR X (compareOp .NotIn) (rIn X.K true) := by
  intro pins s σ H x y v u Q I rx ry h
  obtain ⟨p, xs, rfl, hq, fx, fs, q⟩ := h
  cases ry
  rcases hq with hq | hq
  · obtain ⟨its, r, pl, hz⟩ := I.list hq
    refine SeqAt.notIn_listAt (eqU x) pl.isList (fun w hw => mem_eqAt rx fx r fs w (by simpa using hw)) ⟨.bl _, H, I, rfl, ?_⟩
    rw [show its.toArray.any (eqU x) = its.any (eqU x) by simp, any_eqU r fs]
    exact q
  · obtain ⟨its, r, pl, hz⟩ := I.tuple hq
    refine SeqAt.notIn_tupleAt (eqU x) pl (fun w hw => mem_eqAt rx fx r fs w (by simpa using hw)) ⟨.bl _, H, I, rfl, ?_⟩
    rw [show its.toArray.any (eqU x) = its.any (eqU x) by simp, any_eqU r fs]
    exact q
theorem op_notIn_str : OpR X (compareOp .NotIn) (fun x y H Q => ∃ i j, x = .str i ∧ y = .str j ∧ Q (.bl (!(!(Builtin.Str.occurrences j i 0 j.length 1).isEmpty))) H) := by
  intro pins s σ H x y v u Q I rx ry h
  obtain ⟨i, j, rfl, rfl, q⟩ := h
  obtain ⟨t, rfl⟩ := rx
  obtain ⟨t', rfl⟩ := ry
  exact notIn_str ⟨.bl _, H, I, rfl, q⟩
theorem call_len_seq : CallR X (.builtin "len") (fun xs H Q => ∃ p ys, xs = [.ref p] ∧ (SqL X.K H p ys ∨ SqT X.K H p ys) ∧ Q (.int ys.length) H) := by
  intro pins s σ H xs us Q I r h
  obtain ⟨p, ys, rfl, hq, q⟩ := h
  obtain ⟨u, rfl, rx⟩ := vals1 r
  cases rx
  have hn := line63
  rcases hq with hq | hq
  · obtain ⟨its, r', pl, hz⟩ := I.list hq
    have hlen := r'.length
    exact Calls.call_len_list pl.isList (by simp only [List.size_toArray] <;> omega) ⟨.int ys.length, H, I.tok _, ⟨s.toks + 1, by rw [List.size_toArray, hlen]⟩, q⟩
  · obtain ⟨its, r', pl, hz⟩ := I.tuple hq
    have hlen := r'.length
    exact len_tuple pl (by simp only [List.size_toArray] <;> omega) ⟨.int ys.length, H, I.tok _, ⟨s.toks + 1, by rw [List.size_toArray, hlen]⟩, q⟩
theorem call_len_str : CallR X (.builtin "len") (fun xs H Q => ∃ z, xs = [.str z] ∧ z.length ≤ sizeLine ∧ Q (.int z.length) H) := by
  intro pins s σ H xs us Q I r h
  obtain ⟨z, rfl, hz, q⟩ := h
  obtain ⟨u, rfl, t, rfl⟩ := vals1 r
  have hn := line63
  exact len_str (by omega) ⟨.int z.length, H, I.tok _, ⟨_, rfl⟩, q⟩
theorem CallR.or {f : Value} {r r' : List V → Hp → VK → Prop} (h : CallR X f r) (h' : CallR X f r') : CallR X f (fun xs H Q => r xs H Q ∨ r' xs H Q) := by
  intro pins s σ H xs us Q I rs q
  rcases q with q | q
  · exact h pins s σ H xs us Q I rs q
  · exact h' pins s σ H xs us Q I rs q
theorem call_list_of : CallR X (.type "list") (fun xs H Q => ∃ p ys, xs = [.ref p] ∧ (SqL X.K H p ys ∨ SqT X.K H p ys) ∧ ∀ l, H l = none → Q (.ref l) (upd H l (.lst ys))) := by
  intro pins s σ H xs us Q I r h
  obtain ⟨p, ys, rfl, hq, q⟩ := h
  obtain ⟨u, rfl, rx⟩ := vals1 r
  cases rx
  have fin : ∀ (its : List Value), Vals ys its → ys.length ≤ sizeLine → ∀ (h' : Heap) (c' : Nat), (∀ b o', s.heap.get? b = some o' → h'.get? b = some o') →
      h'.get? s.heap.objs.size = some { cls := .type "list", dict := none, data := .seq its.toArray c', slots := #[] } → EP X pins σ Q (.ref s.heap.objs.size) { s with heap := h' } := fun its r' hz h' c' kp e =>
    ⟨.ref s.heap.objs.size, _, I.laid (t' := s.toks) kp (Nat.le_refl _) (show ObjOk X.prog X.w _ h' _ (.lst ys) from ⟨hz, its, c', r', e⟩), rfl, q _ (I.hok.fresh (Nat.le_refl _))⟩
  rcases hq with hq | hq
  · obtain ⟨its, r', pl, hz⟩ := I.list hq
    have hlen := r'.length
    obtain ⟨o, ho, hc, n, hd⟩ := pl.isList
    exact call_list_seq p (.inl rfl) ho hc hd (fun h' c' kp e => fin its r' hz h' c' kp e) (by simp only [List.size_toArray] <;> omega)
  · obtain ⟨its, r', pl, hz⟩ := I.tuple hq
    have hlen := r'.length
    obtain ⟨o, ho, hc, n, hd⟩ := pl
    exact call_list_seq p (.inr rfl) ho hc hd (fun h' c' kp e => fin its r' hz h' c' kp e) (by simp only [List.size_toArray] <;> omega)
theorem call_tuple_of : CallR X (.type "tuple") (fun xs H Q => ∃ p ys, xs = [.ref p] ∧ ((SqL X.K H p ys ∧ ∀ l, H l = none → Q (.ref l) (upd H l (.tup ys))) ∨ (SqT X.K H p ys ∧ Q (.ref p) H))) := by
  intro pins s σ H xs us Q I r h
  obtain ⟨p, ys, rfl, h⟩ := h
  obtain ⟨u, rfl, rx⟩ := vals1 r
  cases rx
  rcases h with ⟨hq, q⟩ | ⟨hq, q⟩
  · obtain ⟨its, r', pl, hz⟩ := I.list hq
    have hlen := r'.length
    refine call_tuple_list pl.isList (fun h' kp => ?_) (by simp only [List.size_toArray] <;> omega)
    have I1 : Inv X pins σ H { s with heap := h' } := I.kept (t' := s.toks) kp
    have I2 : Inv X pins σ (upd H h'.objs.size (.tup ys)) { s with heap := h'.push { cls := .type "tuple", data := .seq its.toArray } } :=
      I1.laid (t' := s.toks) (fun b o e => Heap.get?_push_of_some _ e) (Nat.le_refl _) (show ObjOk X.prog X.w _ _ _ (.tup ys) from ⟨hz, its, r', IsTup.new _ _⟩)
    exact ⟨.ref h'.objs.size, _, I2, rfl, q _ (I1.hok.fresh (Nat.le_refl _))⟩
  · obtain ⟨its, r', pl, hz⟩ := I.tuple hq
    exact call_tuple_same pl ⟨.ref p, H, I, rfl, q⟩
noncomputable def tyV (K : PySem.W.Frag) (T : String) (x : V) (H : Hp) : Prop := match x with
  | .str _ => T = "str"
  | .int _ => T = "int"
  | .ref p => (T = "list" ∧ ∃ xs, SqL K H p xs) ∨ (T = "tuple" ∧ ∃ o, K.lookup p = some o ∧ o.cls = .type "tuple" ∧ o.dict = none) ∨
      (T = "dict" ∧ ((∃ kvs, H p = some (.dK kvs)) ∨ ∃ kvs, H p = some (.dT kvs))) ∨ (T = "set" ∧ ∃ S n, H p = some (.set S n))
  | _ => False
theorem tyV_is {pins : List (Addr × Obj)} {σ : St} {H : Hp} {s : Shared} {T : String} {x : V} {v : Value} (I : Inv X pins σ H s) (r : RelV x v) (ty : tyV X.K T x H) :
    s.TypeIs v T ∧ ∀ a, v = .ref a → ∃ ob, s.heap.get? a = some ob ∧ ob.dict = none := by
  cases x with
  | str z =>
    obtain ⟨t, rfl⟩ := r
    cases (show T = "str" from ty)
    exact ⟨typeIs_str s z t, fun _ e => nomatch e⟩
  | int i =>
    obtain ⟨t, rfl⟩ := r
    cases (show T = "int" from ty)
    exact ⟨typeIs_int s i t, fun _ e => nomatch e⟩
  | ref p =>
    cases r
    rcases ty with ⟨rfl, xs, hq⟩ | ⟨rfl, o, hk, hc, hd⟩ | ⟨rfl, hk⟩ | ⟨rfl, S, n, hk⟩
    · obtain ⟨its, _, pl, _⟩ := I.list hq
      refine ⟨pl.isList.typeIs, fun a e => ?_⟩
      cases e
      obtain ⟨o, n, e, c, hd, _⟩ := pl
      exact ⟨o, e, hd⟩
    · refine ⟨⟨o, I.kIn p o hk, hc⟩, fun a e => ?_⟩
      cases e
      exact ⟨o, I.kIn _ o hk, hd⟩
    · have z : ∃ o, s.heap.get? p = some o ∧ o.ExactDict := by
        rcases hk with ⟨kvs, hk⟩ | ⟨kvs, hk⟩
        · obtain ⟨_, _, _, _, o, _, _, e, ex, _⟩ := I.hok p _ hk
          exact ⟨o, e, ex⟩
        · obtain ⟨_, _, _, _, o, _, _, e, ex, _⟩ := I.hok p _ hk
          exact ⟨o, e, ex⟩
      obtain ⟨o, e, ex⟩ := z
      refine ⟨⟨o, e, ex.1⟩, fun a e2 => ?_⟩
      cases e2
      exact ⟨o, e, ex.2.1⟩
    · obtain ⟨o, _, _, _, e, ex, _⟩ := I.hok p _ hk
      refine ⟨⟨o, e, ex.1⟩, fun a e2 => ?_⟩
      cases e2
      exact ⟨o, e, ex.2.1⟩
  | _ => exact False.elim ty
noncomputable def tBM0 (K : PySem.W.Frag) (T : String) (r : V → List V → Hp → VK → Prop) (to : TE) : TE := fun σ H Q => to σ H fun x H1 => tyV K T x H1 ∧ r x [] H1 Q
noncomputable def tBM (K : PySem.W.Frag) (T : String) (r : V → List V → Hp → VK → Prop) (to : TE) (t : TA) : TE := fun σ H Q => to σ H fun x H1 => tyV K T x H1 ∧ t σ H1 fun xs H2 => r x xs H2 Q
variable {o e : Expr} {es : List Expr} {to : TE} {t : TA} {name : Str} {apos cpos : Pos} {T id : String} {r : V → List V → Hp → VK → Prop}
theorem pe_bm0 (pa : PlainAttrs T) (slot : Slot T name id) (hty : typeOf (.builtin id) = pure (.type "method_descriptor")) (hm : MtR X id r) (ho : PE X o to)
    (hbase : attributeBase o name X.env (eval o X.env) = eval o X.env := by rfl) (hline : (apos.endLine == cpos.line) = true := by rfl) : PE X (.Call (.Attribute o name apos) [] [] cpos) (tBM0 X.K T r to) := by
  intro pins s σ H Q I h
  refine wpAny_Call_method0_late hbase hline (thn (ho pins s σ H _ I h) fun v s1 ⟨x, H1, I1, r1, ty, q1⟩ => ?_)
  obtain ⟨h1, h2⟩ := tyV_is I1 r1 ty
  exact ⟨T, id, pa, slot, hty, h1, h2, Calls.callWith_builtin rfl (PySem.evalArgs_none (hm pins s1 σ H1 x [] v [] Q I1 r1 .nil q1))⟩
theorem pe_bm (pa : PlainAttrs T) (slot : Slot T name id) (hty : typeOf (.builtin id) = pure (.type "method_descriptor")) (hm : MtR X id r) (ho : PE X o to) (ha : PA X (e :: es) t)
    (hbase : attributeBase o name X.env (eval o X.env) = eval o X.env := by rfl)
    (hfew : ((backTo cpos (starEach (e :: es) X.env)).all (fun x => !x.1) && (backToKw cpos (keywordEach [] X.env)).all (fun x => x.1.isSome)
      && decide ((e :: es).length + ([] : List Keyword).length + (if ([] : List Keyword).isEmpty then 0 else 1) < 30)) = true := by rfl)
    (hline : (apos.endLine == cpos.line) = true := by rfl) (hs : starEach (e :: es) X.env = (false, eval e X.env) :: starEach es X.env := by rfl) (hplain : (backTo cpos (starEach es X.env)).any (·.1) = false := by rfl) :
    PE X (.Call (.Attribute o name apos) (e :: es) [] cpos) (tBM X.K T r to t) := by
  intro pins s σ H Q I h
  refine wpAny_Call_method_late hbase hfew hline rfl (thn (ho pins s σ H _ I h) fun v s1 ⟨x, H1, I1, r1, ty, q1⟩ => ?_)
  obtain ⟨h1, h2⟩ := tyV_is I1 r1 ty
  refine ⟨T, id, pa, slot, hty, h1, h2, ?_⟩
  have hA := ha cpos pins s1 σ H1 _ I1 q1
  rw [hs] at hA ⊢
  refine Calls.callWith_builtin (by show (false || (backTo cpos (starEach es X.env)).any (·.1)) = false; rw [hplain] <;> rfl) (Calls.evalArgs_plain ?_)
  exact thn hA fun us s2 ⟨vs, H2, I2, r2, q2⟩ => hm pins s2 σ H2 x vs v us Q I2 r1 r2 q2
end
end L2
namespace L2
open PySem PySem.Spec PyProof.Rows
noncomputable def MtM (X : Cx) (id : String) (r : V → List V → Hp → VK → Prop) : Prop :=
  ∀ (pins : List (Addr × Obj)) (s : Shared) (σ : St) (H : Hp) (x : V) (xs : List V) (v : Value) (us : List Value) (Q : VK), Inv X pins σ H s → RelV x v → Vals xs us → r x xs H Q →
    wpAny (model X.prog X.w) X.A (call (.builtin id) (v :: us)) (EP X pins σ Q) X.xe s
theorem Vals.one {x : V} {us : List Value} (h : Vals [x] us) : ∃ u, us = [u] ∧ RelV x u := by
  cases h with
  | cons r k => cases k with
    | nil => exact ⟨_, rfl, r⟩
theorem Vals.two {x y : V} {us : List Value} (h : Vals [x, y] us) : ∃ u v, us = [u, v] ∧ RelV x u ∧ RelV y v := by
  cases h with
  | cons r k =>
    obtain ⟨v, e, q⟩ := Vals.one k
    exact ⟨_, v, by rw [e], r, q⟩
theorem Vals.rep {xs : List V} {us : List Value} (h : Vals xs us) : ∀ k : Nat, Vals (List.replicate k xs).flatten (List.replicate k us).flatten
  | 0 => .nil
  | k + 1 => by
    rw [List.replicate_succ, List.replicate_succ, List.flatten_cons, List.flatten_cons]
    exact Vals.append h (Vals.rep h k)
theorem foldl_rep (its : List Value) : ∀ (k : Nat) (acc : List Value),
    List.foldl (fun x1 x2 => x1 ++ x2) acc.toArray (List.replicate k its.toArray) = (acc ++ (List.replicate k its).flatten).toArray
  | 0, acc => by simp
  | k + 1, acc => by
    have e : acc.toArray ++ its.toArray = (acc ++ its).toArray := by simp
    have e2 : (acc ++ its) ++ (List.replicate k its).flatten = acc ++ (List.replicate (k + 1) its).flatten := by
      rw [List.replicate_succ, List.flatten_cons, List.append_assoc]
    rw [← e2, ← foldl_rep its k (acc ++ its), ← e, List.replicate_succ, List.foldl_cons]
section
variable {X : Cx} {pins : List (Addr × Obj)} {σ : St} {H : Hp} {s : Shared} {l b : Addr} {xs ys zs : List V}
theorem Inv.lset {its its' : List Value} {n : Nat} {f : Array Value → Array Value} {t' : Nat} (I : Inv X pins σ H s) (hH : H l = some (.lst xs))
    (e : s.heap.get? l = some { cls := .type "list", data := .seq its.toArray n }) (hf : f its.toArray = its'.toArray) (hv : Vals ys its') (hz : ys.length ≤ sizeLine) :
    Inv X pins σ (upd H l (.lst ys)) { s with heap := s.heap.update l (Obj.mapSeq f), toks := t' } := by
  have q := PySem.IsL.update e f
  rw [hf] at q
  refine I.write (x := l) (e := l) (by rw [hH]; exact trivial) (.inl rfl) (fun b' u hb hu => (Heap.get?_update_other s.heap (Obj.mapSeq f) (Ne.symm hb)).trans hu) ⟨_, q⟩ ?_
  exact ⟨hz, its', _, hv, q⟩
theorem Inv.lnew {its : List Value} {t' : Nat} (I : Inv X pins σ H s) (hv : Vals ys its) (hz : ys.length ≤ sizeLine) :
    Inv X pins σ (upd H s.heap.objs.size (.lst ys)) { s with heap := s.heap.push { cls := .type "list", data := .seq its.toArray }, toks := t' } :=
  I.laid (fun _ _ q => Heap.get?_push_of_some _ q) (Nat.le_refl _) ⟨hz, its, 0, hv, Heap.get?_push_size _ rfl⟩
theorem Inv.fresh (I : Inv X pins σ H s) : H s.heap.objs.size = none := I.hok.fresh (Nat.le_refl _)
theorem Inv.lstM (I : Inv X pins σ H s) (hH : H l = some (.lst xs)) : xs.length ≤ sizeLine ∧ ∃ (its : List Value) (n : Nat), Vals xs its ∧ xs.length = its.length ∧ s.heap.get? l = some { cls := .type "list", data := .seq its.toArray n } := by
  obtain ⟨z, its, n, r, e⟩ := I.hok l _ hH
  exact ⟨z, its, n, r, r.length, e⟩
theorem notLongL {n : Nat} (h : n ≤ sizeLine) : Builtin.List.listTooLong n = false := by
  unfold Builtin.List.listTooLong
  exact decide_eq_false (by omega)
end
section
variable {X : Cx}
noncomputable def rAppend : V → List V → Hp → VK → Prop := fun x vs H Q => ∃ l xs y, x = .ref l ∧ vs = [y] ∧ H l = some (.lst xs) ∧ xs.length < sizeLine ∧ Q .non (upd H l (.lst (xs ++ [y])))
theorem mt_append : MtM X "list.append" rAppend := by
  intro pins s σ H x vs v us Q I rx rv h
  obtain ⟨l, xs, y, rfl, rfl, hH, hz, q⟩ := h
  cases rx
  obtain ⟨u, rfl, ru⟩ := rv.one
  obtain ⟨z, its, n, r, hl, e⟩ := I.lstM hH
  refine call_meets F.slot_list_append ⟨_, e, rfl⟩ F.entry_list_append (F.args_list_append_2 _ _) (PySem.list_append l its.toArray n u (by rw [List.size_toArray]; omega)) ⟨e, ?_⟩
  refine ⟨.non, _, I.lset (its' := its ++ [u]) hH e (by simp) (r.append (.cons ru .nil)) ?_, rfl, q⟩
  rw [List.length_append, List.length_singleton]
  omega
noncomputable def rPop : V → List V → Hp → VK → Prop := fun x vs H Q => ∃ l xs y, x = .ref l ∧ vs = [] ∧ H l = some (.lst xs) ∧ xs[xs.length - 1]? = some y ∧ Q y (upd H l (.lst xs.dropLast))
noncomputable def rPopAt : V → List V → Hp → VK → Prop := fun x vs H Q => ∃ l xs i k y, x = .ref l ∧ vs = [.int i] ∧ H l = some (.lst xs) ∧ -(2 ^ 63) ≤ i ∧ i < 2 ^ 63 ∧ seqIndex? i xs.length = some k ∧ xs[k]? = some y ∧ Q y (upd H l (.lst (xs.eraseIdx k)))
noncomputable def rReverse : V → List V → Hp → VK → Prop := fun x vs H Q => ∃ l xs, x = .ref l ∧ vs = [] ∧ H l = some (.lst xs) ∧ Q .non (upd H l (.lst xs.reverse))
noncomputable def rClear : V → List V → Hp → VK → Prop := fun x vs H Q => ∃ l xs, x = .ref l ∧ vs = [] ∧ H l = some (.lst xs) ∧ Q .non (upd H l (.lst []))
noncomputable def rCat : R2 := fun x y H Q => ∃ l b xs zs, x = .ref l ∧ y = .ref b ∧ H l = some (.lst xs) ∧ H b = some (.lst zs) ∧ xs.length + zs.length ≤ sizeLine ∧ ∀ p, H p = none → Q (.ref p) (upd H p (.lst (xs ++ zs)))
theorem op_cat : OpR X (binaryOp .Add) rCat := by
  intro pins s σ H x y v u Q I rx ry h
  obtain ⟨l, b, xs, zs, rfl, rfl, hH, hB, hz, q⟩ := h
  cases rx
  cases ry
  obtain ⟨z, its, n, r, hl, e⟩ := I.lstM hH
  obtain ⟨z2, its2, n2, r2, hl2, e2⟩ := I.lstM hB
  refine PySem.P.add_list e e2 ?_ (by rw [List.size_toArray, List.size_toArray]; omega)
  have ea : its.toArray ++ its2.toArray = (its ++ its2).toArray := by simp
  rw [ea]
  exact ⟨.ref _, _, I.lnew (t' := s.toks) (r.append r2) (by rw [List.length_append]; omega), rfl, q _ I.fresh⟩
noncomputable def rRep : R2 := fun x y H Q => ∃ l k xs, x = .ref l ∧ y = .int k ∧ H l = some (.lst xs) ∧ -(2 ^ 63) ≤ k ∧ k < 2 ^ 63 ∧ xs.length * k.toNat ≤ sizeLine ∧
  ∀ p, H p = none → Q (.ref p) (upd H p (.lst (List.replicate k.toNat xs).flatten))
theorem len_rep {α : Type} (xs : List α) (k : Nat) : (List.replicate k xs).flatten.length = k * xs.length := by
  induction k with
  | zero => simp
  | succ k ih => rw [List.replicate_succ, List.flatten_cons, List.length_append, ih, Nat.succ_mul, Nat.add_comm]
theorem op_rep : OpR X (binaryOp .Mult) rRep := by
  intro pins s σ H x y v u Q I rx ry h
  obtain ⟨l, k, xs, rfl, rfl, hH, h1, h2, hz, q⟩ := h
  cases rx
  obtain ⟨t, rfl⟩ := ry
  obtain ⟨z, its, n, r, hl, e⟩ := I.lstM hH
  have hlen : its.toArray.size * k.toNat ≤ sizeLine := by rw [List.size_toArray, ← hl]; exact hz
  have hcap : ¬ its.toArray.size * k.toNat > (2 ^ 63 - 1) / 8 := by
    have : (sizeLine : Nat) ≤ (2 ^ 63 - 1) / 8 := by decide
    omega
  have hfit : ¬ (!Builtin.List.listFitsIndex k) = true := by
    rw [fitsIndex_both h1 h2]
    exact Bool.false_ne_true
  have hlong : ¬ Builtin.List.listTooLong (its.toArray.size * k.toNat) = true := by
    rw [notLongL hlen]
    exact Bool.false_ne_true
  have hnew : List.foldl (fun x1 x2 => x1 ++ x2) #[] (List.replicate (if its.toArray.isEmpty = true then 0 else k.toNat) its.toArray) = (List.replicate k.toNat its).flatten.toArray := by
    have f0 : ∀ m : Nat, List.foldl (fun x1 x2 => x1 ++ x2) #[] (List.replicate m its.toArray) = (List.replicate m its).flatten.toArray := fun m => by
      have := foldl_rep its m []
      rw [List.nil_append] at this
      exact this
    rw [f0]
    cases its with
    | nil => simp
    | cons a r' => rw [if_neg (by simp)]
  refine wpAny_binaryOp_repeat_ref (T := "list") (U := "int") (by decide) ⟨_, e, rfl⟩ (fun s' => typeIs_int s' k t) noFill_list_mul F.fills_int_mul F.slot_int_rmul repeat_list F.slot_int_index.lookup
    (call_meets F.slot_int_rmul (typeIs_int s k t) F.entry_int_rmul (F.args_int_rmul_2 _ _) (int___rmul___int_list k t l its.toArray n)
      ⟨e, rfl, ⟨_, e, rfl⟩, call_meets F.slot_list_mul ⟨_, e, rfl⟩ F.entry_list_mul (F.args_list_mul_2 _ _) (AutoListH.list___mul___list_int_3 l its.toArray n k t hfit hcap hlong) ⟨e, ?_⟩⟩)
  rw [hnew]
  exact ⟨.ref _, _, I.lnew (t' := s.toks) (r.rep k.toNat) (by rw [len_rep, Nat.mul_comm]; exact hz), rfl, q _ I.fresh⟩
end
section
variable {prog : Program} {w : World} {A : Around} {E : Value → Shared → Prop} {s : Shared}
end
section
variable {X : Cx}
end
end L2
namespace L2
open PySem PySem.Spec PyProof.Rows
section
variable {κ : Type} [DecidableEq κ]
noncomputable def valV (kvs : List (κ × V)) (k : κ) : Option V := (kvs.find? fun kv => decide (kv.1 = k)).map (·.2)
noncomputable def putK (kvs : List (κ × V)) (k : κ) (v : V) : List (κ × V) :=
  if (kvs.any fun kv => decide (kv.1 = k)) = true then kvs.map (fun kv => if kv.1 = k then (kv.1, v) else kv) else kvs ++ [(k, v)]
theorem valV_pos {p : κ × V} {r : List (κ × V)} {k : κ} (e : p.1 = k) : valV (p :: r) k = some p.2 := by simp [valV, List.find?_cons, e]
theorem valV_neg {p : κ × V} {r : List (κ × V)} {k : κ} (e : ¬ p.1 = k) : valV (p :: r) k = valV r k := by simp [valV, List.find?_cons, e]
theorem length_putK (kvs : List (κ × V)) (k : κ) (v : V) : (putK kvs k v).length ≤ kvs.length + 1 := by
  unfold putK
  split
  · rw [List.length_map]; omega
  · rw [List.length_append, List.length_cons, List.length_nil]; omega
theorem RelO.isSome_eq {o : Option V} {u : Option Value} (r : RelO o u) : o.isSome = u.isSome := by
  cases o with
  | none => cases u with
    | none => rfl
    | some _ => exact (show False from r).elim
  | some _ => cases u with
    | none => exact (show False from r).elim
    | some _ => rfl
theorem KV.val {kvs : List (κ × V)} {vs : List (κ × Value)} (r : KV kvs vs) (k : κ) : RelO (valV kvs k) (valueAt vs k) := by
  unfold KV at r
  induction r with
  | nil => exact True.intro
  | @cons p q ps qs h t ih =>
    obtain ⟨h1, h2⟩ := h
    by_cases e : p.1 = k
    · have e' : q.1 = k := h1.symm.trans e
      have b : valueAt (q :: qs) k = some q.2 := by simp [valueAt, List.find?_cons, e']
      rw [valV_pos e, b]; exact h2
    · have e' : ¬ q.1 = k := fun z => e (h1.trans z)
      have b : valueAt (q :: qs) k = valueAt qs k := by simp [valueAt, List.find?_cons, e']
      rw [valV_neg e, b]; exact ih
theorem KV.any {kvs : List (κ × V)} {vs : List (κ × Value)} (r : KV kvs vs) (k : κ) : (kvs.any fun kv => decide (kv.1 = k)) = vs.any fun kv => decide (kv.1 = k) := by
  unfold KV at r
  induction r with
  | nil => rfl
  | cons h t ih => rw [List.any_cons, List.any_cons, ih, h.1]
theorem KV.repl {kvs : List (κ × V)} {vs : List (κ × Value)} (r : KV kvs vs) (k : κ) {y : V} {u : Value} (ry : RelV y u) :
    KV (kvs.map fun kv => if kv.1 = k then (kv.1, y) else kv) (vs.map fun kv => if kv.1 = k then (kv.1, u) else kv) := by
  unfold KV at r ⊢
  induction r with
  | nil => exact .nil
  | @cons p q ps qs h t ih =>
    rw [List.map_cons, List.map_cons]
    refine .cons ?_ ih
    obtain ⟨h1, h2⟩ := h
    by_cases e : p.1 = k
    · rw [if_pos e, if_pos (h1.symm.trans e)]; exact ⟨h1, ry⟩
    · rw [if_neg e, if_neg (fun z => e (h1.trans z))]; exact ⟨h1, h2⟩
theorem KV.put {kvs : List (κ × V)} {vs : List (κ × Value)} (r : KV kvs vs) (k : κ) {y : V} {u : Value} (ry : RelV y u) : KV (putK kvs k y) (stored vs k u) := by
  unfold putK stored
  rw [r.any k]
  by_cases e : (vs.any fun kv => decide (kv.1 = k)) = true
  · rw [if_pos e, if_pos e]; exact r.repl k ry
  · rw [if_neg e, if_neg e]; exact Paired.snoc r ⟨rfl, ry⟩
end
theorem kV_is {P : Program} {w : World} {k : Key} {u : Value} (r : RelV (kV k) u) : (mixKind P w).is k u = true := by
  cases k with
  | inl i => obtain ⟨t, e⟩ := (show ∃ t, u = Value.int i t from r); subst e; exact mixKind_int P w i t
  | inr x => obtain ⟨t, e⟩ := (show ∃ t, u = Value.str x t from r); subst e; exact mixKind_str P w x t
theorem items_are {P : Program} {w : World} : ∀ {ks : List Key} {us : List Value}, Vals (ks.map kV) us → ItemsAre (mixKind P w) ks us
  | [], _, r => by rw [List.map_nil] at r; cases r; exact .nil
  | k :: ks, _, r => by
    rw [List.map_cons] at r
    cases r with
    | cons h t => exact .cons (kV_is h) (items_are t)
noncomputable abbrev KT (H : Hp) : List (List Key × V) → List (List Key × Addr × Value) → Prop := Paired fun p q => p.1 = q.1 ∧ H q.2.1 = some (.tup (p.1.map kV)) ∧ RelV p.2 q.2.2
section
variable {P : Program} {w : World} {H : Hp} {h : Heap} {a : Addr}
theorem rd_of {u : HO} (ok : HOk P w H h) (e : Rd H a u) : ObjOk P w H h a u := e.ok ok
theorem dk_rd {kvs : List (Key × V)} (ok : HOk P w H h) (e : Rd H a (.dK kvs)) : kvs.length ≤ sizeLine ∧ (a == sysModules) = false ∧ ∃ vs, KV kvs vs ∧ h.DictOf (mixKind P w) a vs :=
  show ObjOk P w H h a (.dK kvs) from rd_of ok e
theorem dk_of {kvs : List (Key × V)} (ok : HOk P w H h) (e : H a = some (.dK kvs)) : kvs.length ≤ sizeLine ∧ (a == sysModules) = false ∧ ∃ vs, KV kvs vs ∧ h.DictOf (mixKind P w) a vs := dk_rd ok (.inl e)
theorem key_of {ks : List Key} (ok : HOk P w H h) (e : H a = some (.tup (ks.map kV))) : (tupleKind (mixKind P w)).is h ks a := by
  obtain ⟨_, its, r, o, h1, h2, n, h3⟩ := (show ObjOk P w H h a (.tup (ks.map kV)) from ok a _ e)
  exact ⟨o, its.toArray, n, h1, h2, h3, by simpa using items_are r⟩
theorem dt_rd {kvs : List (List Key × V)} (ok : HOk P w H h) (e : Rd H a (.dT kvs)) : kvs.length ≤ sizeLine ∧ (a == sysModules) = false ∧
    ∃ xs, KT H kvs xs ∧ h.DictOfH (tupleKind (mixKind P w)) a xs := by
  obtain ⟨z, y, xs, r, o, es, ep, h1, h2, h3, h4, h5⟩ := (show ObjOk P w H h a (.dT kvs) from rd_of ok e)
  refine ⟨z, y, xs, r, o, es, ep, h1, h2, h3, h4, fun x hx => ?_, h5⟩
  have all : ∀ {l : List (List Key × V)} {m : List (List Key × Addr × Value)}, KT H l m → ∀ x ∈ m, (tupleKind (mixKind P w)).is h x.1 x.2.1 := by
    intro l m q
    induction q with
    | nil => intro x hx; exact nomatch hx
    | @cons p q ps qs hq t ih =>
      intro x hx
      rcases List.mem_cons.mp hx with e | hx
      · subst e
        exact key_of ok (by rw [← hq.1]; exact hq.2.1)
      · exact ih x hx
  exact all r x hx
theorem dt_of {kvs : List (List Key × V)} (ok : HOk P w H h) (e : H a = some (.dT kvs)) : kvs.length ≤ sizeLine ∧ (a == sysModules) = false ∧
    ∃ xs, KT H kvs xs ∧ h.DictOfH (tupleKind (mixKind P w)) a xs := dt_rd ok (.inl e)
end
section
variable {X : Cx} {pins : List (Addr × Obj)} {σ : St} {H : Hp} {s : Shared} {a : Addr} {y v : V} {u r : Value} {o : Option V} {A : Around} {E : Value → Shared → Prop}
theorem Inv.big (I : Inv X pins σ H s) : sysModules < s.heap.objs.size := by
  have h : mainGlobals < s.heap.objs.size := (I.mod.glob.keeps I.bk).lt
  exact Nat.lt_trans (by decide) h
theorem d_write {h' : Heap} {t' : Nat} {ob : HO} (I : Inv X pins σ H s) (mu : Mut (H a)) (hs : Heap.SameBut a s.heap h') (he : ∃ q, h'.get? a = some q) (new : ObjOk X.prog X.w (upd H a ob) h' a ob) :
    Inv X pins σ (upd H a ob) { s with heap := h', toks := t' } :=
  I.write (x := a) (e := a) mu (.inl rfl) (fun b q hb z => (hs.2 b hb).trans z) he new
theorem dk_new {P : Program} {w : World} {H' : Hp} {h' : Heap} {kvs : List (Key × V)} {vs : List (Key × Value)} (z : kvs.length ≤ sizeLine) (hd : (a == sysModules) = false) (rel : KV kvs vs) (dd : h'.DictOf (mixKind P w) a vs) :
    ObjOk P w H' h' a (.dK kvs) := ⟨z, hd, vs, rel, dd⟩
end
section
variable {X : Cx} {pins : List (Addr × Obj)} {σ : St} {H : Hp} {s : Shared} {a : Addr} {kvs : List (Key × V)} {k : Key} {u : Value} {A : Around} {E : Value → Shared → Prop}
end
section
variable {X : Cx} {o i e value : Expr} {pos pos' tpos : Pos} {td ty tv : TE}
end
theorem dk_empty {P : Program} {w : World} {H : Hp} (h : Heap) (hb : sysModules < h.objs.size) : ObjOk P w H (h.push { cls := .type "dict", data := .dict #[] }) h.objs.size (.dK []) :=
  ⟨Nat.zero_le _, beq_eq_false_iff_ne.mpr (Ne.symm (Nat.ne_of_lt hb)), [], .nil, Heap.DictOf.new h⟩
noncomputable def tDNewK : TE := fun _ H Q => ∀ p, H p = none → Q (.ref p) (upd H p (.dK []))
noncomputable def tDNewT : TE := fun _ H Q => ∀ p, H p = none → Q (.ref p) (upd H p (.dT []))
section
variable {X : Cx} {pos : Pos}
theorem pe_dnewK : PE X (.Dict [] [] pos) tDNewK := fun pins s σ H Q I h =>
  wpAny_Dict_empty ⟨.ref s.heap.objs.size, _, I.laid (a := s.heap.objs.size) (o := .dK []) (t' := s.toks) (fun _ _ q => Heap.get?_push_of_some _ q) (Nat.le_refl _) (dk_empty s.heap I.big), rfl, h _ (I.hok.fresh (Nat.le_refl _))⟩
end
noncomputable def tPairs : List (TE × TE) → St → Hp → (List (V × V) → Hp → Prop) → Prop
  | [], _, H, Q => Q [] H
  | (tk, tv) :: r, σ, H, Q => tk σ H fun x H1 => tv σ H1 fun y H2 => tPairs r σ H2 fun ps H3 => Q ((x, y) :: ps) H3
noncomputable abbrev VV : List (V × V) → List (Value × Value) → Prop := Paired fun p q => RelV p.1 q.1 ∧ RelV p.2 q.2
noncomputable def PPs (X : Cx) (pos : Pos) (keys : List (Option Expr)) (values : List Expr) (trs : List (TE × TE)) : Prop :=
  ∀ (pins : List (Addr × Obj)) (s : Shared) (σ : St) (H : Hp) (Q : List (V × V) → Hp → Prop), Inv X pins σ H s → tPairs trs σ H Q →
    wpAny (model X.prog X.w) X.A (evalPairs (pairTrees keys values X.env pos)) (fun vs s' => ∃ ps H', Inv X pins σ H' s' ∧ VV ps vs ∧ Q ps H') X.xe s
theorem pps_nil {X : Cx} {pos : Pos} : PPs X pos [] [] [] := fun pins s σ H Q I h => pairTrees_nil_walk ⟨[], H, I, .nil, h⟩
theorem pps_cons {X : Cx} {pos : Pos} {k v : Expr} {ks : List (Option Expr)} {vs : List Expr} {tk tv : TE} {trs : List (TE × TE)} (hk : PE X k tk) (hv : PE X v tv) (hr : PPs X pos ks vs trs) :
    PPs X pos (some k :: ks) (v :: vs) ((tk, tv) :: trs) := fun pins s σ H Q I h =>
  pairTrees_cons_walk (thn (hk pins s σ H _ I h) fun u s1 ⟨x, H1, I1, rx, q1⟩ => thn (hv pins s1 σ H1 _ I1 q1) fun w2 s2 ⟨y, H2, I2, ry, q2⟩ =>
    thn (hr pins s2 σ H2 _ I2 q2) fun ws s3 ⟨ps, H3, I3, rel, q3⟩ => ⟨(x, y) :: ps, H3, I3, .cons ⟨rx, ry⟩ rel, q3⟩)
noncomputable def mergeK (kvs more : List (Key × V)) : List (Key × V) := more.foldl (fun acc kv => putK acc kv.1 kv.2) kvs
theorem KV.merge : ∀ {more : List (Key × V)} {rs : List (Key × Value)} {kvs : List (Key × V)} {vs : List (Key × Value)}, KV more rs → KV kvs vs → KV (mergeK kvs more) (merged vs rs) := by
  intro more rs kvs vs r
  unfold KV at r
  induction r generalizing kvs vs with
  | nil => intro q; exact q
  | @cons p q ps qs h t ih =>
    intro r0
    have e : KV (putK kvs p.1 p.2) (stored vs q.1 q.2) := by
      have := r0.put p.1 h.2
      rw [← h.1]; exact this
    exact ih e
theorem length_mergeK : ∀ (more kvs : List (Key × V)), (mergeK kvs more).length ≤ kvs.length + more.length
  | [], kvs => by show kvs.length ≤ kvs.length + 0; omega
  | p :: r, kvs => by
    have h1 := length_mergeK r (putK kvs p.1 p.2)
    have h2 := length_putK kvs p.1 p.2
    show (mergeK (putK kvs p.1 p.2) r).length ≤ _
    rw [List.length_cons]; omega
theorem carries_of {P : Program} {w : World} : ∀ {kvs : List (Key × V)} {ws : List (Value × Value)}, VV (kvs.map fun kv => (kV kv.1, kv.2)) ws → ∃ rs, Carries (mixKind P w) ws rs ∧ KV kvs rs
  | [], _, r => by rw [List.map_nil] at r; cases r; exact ⟨[], True.intro, .nil⟩
  | p :: kvs, _, r => by
    rw [List.map_cons] at r
    cases r with
    | @cons a b as bs h t =>
      obtain ⟨rs, c, q⟩ := carries_of (P := P) (w := w) t
      obtain ⟨b1, b2⟩ := b
      exact ⟨(p.1, b2) :: rs, ⟨kV_is h.1, rfl, c⟩, .cons ⟨rfl, h.2⟩ q⟩
noncomputable def tDisp (trs : List (TE × TE)) : TE := fun σ H Q => ∀ p, H p = none → tPairs trs σ (upd H p (.dK [])) fun ps H2 => H2 p = some (.dK []) ∧ ∃ kvs : List (Key × V), ps = kvs.map (fun kv => (kV kv.1, kv.2)) ∧ kvs.length ≤ 15 ∧ Q (.ref p) (upd H2 p (.dK (mergeK [] kvs)))
theorem pe_disp {X : Cx} {pos : Pos} {keys : List (Option Expr)} {values : List Expr} {trs : List (TE × TE)} (h : PPs X pos keys values trs) (hall : keys.all (·.isSome) = true) (hl : keys.length = values.length) (h0 : keys ≠ [])
    (h15 : keys.length ≤ 15) : PE X (.Dict keys values pos) (tDisp trs) := by
  intro pins s σ H Q I q
  have hn := I.hok.fresh (Nat.le_refl s.heap.objs.size)
  have I1 := I.laid (a := s.heap.objs.size) (o := .dK []) (h' := s.heap.push { cls := .type "dict", data := .dict #[] }) (t' := s.toks) (fun _ _ q => Heap.get?_push_of_some _ q) (Nat.le_refl _) (dk_empty s.heap I.big)
  refine wpAny_Dict_walk (knd := mixKind X.prog X.w) hall hl h0 h15 (thn (h pins _ σ _ _ I1 (q _ hn)) fun ws s2 ⟨ps, H2, I2, rel, e, kvs, ep, lk, q2⟩ => ?_)
  subst ep
  obtain ⟨rs, c, rk⟩ := carries_of (P := X.prog) (w := X.w) rel
  obtain ⟨z, hd, vs0, r0, dd⟩ := dk_of I2.hok e
  cases r0
  refine ⟨rs, c, dd, fun h' dd' hs => ⟨.ref s.heap.objs.size, _, ?_, rfl, q2⟩⟩
  have hz : (mergeK [] kvs).length ≤ sizeLine := by
    have h1 := length_mergeK kvs []
    rw [List.length_nil] at h1
    rw [sizeLine_eq]; omega
  have he : ∃ q, h'.get? s.heap.objs.size = some q := let ⟨q, _, _, hq, _⟩ := dd'; ⟨q, hq⟩
  exact d_write I2 (by rw [e]; exact True.intro) hs he (dk_new hz hd (rk.merge .nil) dd')
section
variable {X : Cx} {pins : List (Addr × Obj)} {σ : St} {H : Hp} {s : Shared} {a : Addr} {y d : V} {u r : Value} {o : Option V} {A : Around} {E : Value → Shared → Prop}
end
section
variable {X : Cx} {o e f : Expr} {apos cpos : Pos} {td ty tx : TE}
end
section
variable {X : Cx} {pins : List (Addr × Obj)} {σ : St} {H : Hp} {s : Shared} {a : Addr} {kvs : List (Key × V)} {A : Around} {E : Value → Shared → Prop}
end
section
variable {X : Cx} {pins : List (Addr × Obj)} {σ : St} {H : Hp} {s : Shared} {a : Addr} {y : V} {u : Value} {A : Around} {E : Value → Shared → Prop}
end
end L2
namespace Att
open PySem PySem.W PySem.Calls PyProof.Rows
theorem ints_of_wellAll {P : Params} {h : Heap} : ∀ (ns : List Int) (vs : List Value), WellAll P h vs (ns.map WData.int) → IntsAre vs ns := by
  intro ns
  induction ns with
  | nil =>
    intro vs w
    rw [List.map_nil] at w
    cases w
    exact .nil
  | cons n ns ih =>
    intro vs w
    rw [List.map_cons] at w
    cases w with
    | cons a b =>
      cases a
      exact .cons _ _ (ih _ b)
theorem script_of {l : OpenLaw} {n : Nat} (hn : l.most = some n) {P : Params} {h : Heap} {args : List WData} {vals : List Value}
    (hpre : l.row.toRowW.claim.pre args = true) (hwl : WellAll P h vals args) :
    ∃ a vs ns, vals = [Value.ref a] ∧ args = [WData.list (ns.map WData.int)] ∧ h.get? a = some { cls := .type "list", data := .seq vs.toArray } ∧ IntsAre vs ns ∧ ns.length ≤ n := by
  have hsh : WShape.hasAll [] args [.list .int] = true := (pre_splitW hpre).1
  have hc : l.pre.holds [] { args := args } = true := (pre_splitW hpre).2
  obtain ⟨d, r, rfl, h1, h2⟩ := hasAllW_cons hsh
  obtain rfl := hasAllW_nil h2
  obtain ⟨xs, rfl, h3⟩ := hasW_list h1
  obtain ⟨ns, rfl⟩ := items_int h3
  have hlen : ns.length ≤ n := by
    unfold OpenLaw.pre at hc
    have h4 : (WTm.not (.lt (.lit (.int (n : Int))) (.len (.arg 0)))).holds [] { args := [.list (ns.map .int)] } = true := by
      have h4 := (holds_andW hc).1
      rw [hn] at h4
      exact h4
    have h5 := condW_of h4 (w_not (w_lt w_lit (w_len_list (w_arg rfl))))
    rw [List.length_map] at h5
    refine Nat.le_of_not_lt fun q => ?_
    have q' : (n : Int) < ((ns.length : Nat) : Int) := by omega
    first
      | (rw [decide_eq_true q'] at h5; exact absurd h5 (by decide))
      | (simp at h5; omega)
  cases hwl with
  | cons w1 w2 =>
    cases w2
    cases w1 with
    | list ho hall => exact ⟨_, _, ns, rfl, rfl, ho, ints_of_wellAll ns _ hall, hlen⟩
theorem post_true (l : OpenLaw) (args : List WData) : l.row.toRowW.claim.post args (.bool true) args = true :=
  postW_of (r := l.row.toRowW) (X := (true == true))
    (show WShape.has [] (.bool true) .bool = true by first | rfl | decide | simp [WShape.has, WShape.arms, WShape.armsAll])
    (show (WTm.eq .res (.lit (.bool true))).value [] { args := args, res := some (.bool true), after := args } = some (.bool (true == true)) from w_eq_bool (w_res rfl) w_lit) rfl
theorem attach_call {l : OpenLaw} {n : Nat} {q : Program} {loose : List Str} {XP : (Str → Option Value) → Heap → Prop} {YP : World → Heap → Prop} {d : DefRec}
    (hn : l.most = some n) (hdf : d.params.defaults = [])
    (call : ∀ (w : World) (s₀ s₁ : Shared) (mg mb : Str → Option Value) (fa : Addr) (o : Obj) (pm cd doc : Value) (a : Addr) (vs : List Value) (ns : List Int),
      Ground q loose [] XP w s₀ mg mb s₁.heap → YP w s₁.heap →
      s₁.heap.get? fa = some o → o.data = .func (docDef d.name d.params d.body d.scope pm cd doc) → s₁.heap.CodeRec cd d.name → mg d.name = some (.ref fa) →
      s₁.heap.get? a = some { cls := .type "list", data := .seq vs.toArray } → IntsAre vs ns → ns.length ≤ n → s₁.gens = #[] →
      codeAny (model l.prog w) callerA (.call (.ref fa) ⟨[.ref a], []⟩) (fun r s' => r = .ok (.ret (.bool true)) ∧ OldK s₁.heap s'.heap ∧ s'.os = s₁.os ∧ AllBare s'.gens) s₁) :
    WalkO q loose XP YP l.row.toRowW d [] (fun f vs => PySem.call f vs) := by
  intro w s₀ s₁ mg mb G Y fa o pm cd doc dV kV ho hd hcd hD hmg hg args vals as hpre hlay hrd hwl hlo
  obtain rfl : dV = .none := Dflts.none hD hdf
  obtain rfl : kV = .none := Dflts.noKw hD
  obtain ⟨a, vs, ns, rfl, rfl, hobj, hints, hlen⟩ := script_of hn hpre hwl
  refine enter_call (codeAny_mono (call w s₀ s₁ mg mb fa o pm cd doc a vs ns G Y ho (fd_plain hd) hcd hmg hobj hints hlen hg) fun r s' hq => ?_)
  obtain ⟨rfl, h2, h3, h4⟩ := hq
  exact ⟨.inl ⟨.bool true, .bool true, [], rfl, fun _ => rfl, .bool true, post_true l _, fun _ => ⟨List.Pairwise.nil, fun _ hm => (nomatch hm)⟩⟩, h2, h3, h4⟩
section
variable {prog : Program} {w : World} {A : Around} {E : Value → Shared → Prop} {s : Shared} {K : Frag}
end
end Att
namespace L2
open PySem PySem.Spec PyProof.Rows
theorem vals_ints : ∀ {vs : List Value} {ns : List Int}, IntsAre vs ns → Vals (ns.map V.int) vs
  | _, _, .nil => .nil
  | _, _, .cons n t h => .cons ⟨t, rfl⟩ (vals_ints h)
end L2
namespace L2
open PySem PySem.Spec PyProof.Rows
end L2
namespace L2
open PySem PySem.Spec PyProof.Rows
noncomputable def defArgs (s : Stmt) : Arguments := match s with
  | .FunctionDef _ a _ _ _ _ _ _ _ _ => a
  | _ => { posonlyargs := [], args := [], vararg := none, kwonlyargs := [], kw_defaults := [], kwarg := none, defaults := [] }
noncomputable def defBody (s : Stmt) : List Stmt := match s with
  | .FunctionDef _ _ b _ _ _ _ _ _ _ => b
  | _ => []
noncomputable def defScope (s : Stmt) : Scope := match s with
  | .FunctionDef _ _ _ _ _ _ sc _ _ _ => sc
  | _ => { kind := .function, names := [], isGenerator := false, isCoroutine := false }
noncomputable abbrev CX0 : CXT := fun _ _ _ _ _ _ => False
noncomputable abbrev E0 : XK := fun _ _ _ => False
structure Fun (K : PySem.W.Frag) (x qual : Str) (st : Stmt) (f : Addr) (fd : FuncData) : Prop where
  ex : ∃ (oc : Value) (od : Option Addr) (kV doc pm : Value) (an : Option Addr) (cdv ct : Value) (osl : Array (Option Value)),
    fd = PySem.W.fnOf x qual (defArgs st) (defBody st) (defScope st) .none kV doc pm an cdv ct ∧ K.lookup f = some ⟨oc, od, .func fd, osl⟩ ∧ PySem.W.codeIn K cdv qual = true
  kp : PySem.W.keepIn K (.ref f) = true
section
variable {P : Program} {w : World} {K : PySem.W.Frag} {mg : Str → Option Value} {base : Heap}
theorem Fun.binds {x qual : Str} {st : Stmt} {f : Addr} {fd : FuncData} {ps : List Str} (F : Fun K x qual st f fd)
    (h : ∀ (kV doc pm : Value) (an : Option Addr) (cdv ct : Value) (us : List Value), us.length = ps.length → bindArgs (PySem.W.fnOf x qual (defArgs st) (defBody st) (defScope st) .none kV doc pm an cdv ct) ⟨us, []⟩ = pure (ps.zip us)) : Binds K fd ps [] := by
  obtain ⟨oc, od, kV, doc, pm, an, cdv, ct, osl, rfl, lk, hcd⟩ := F.ex
  exact .all (h kV doc pm an cdv ct)
theorem fun_mk {x qual : Str} {st : Stmt} {f : Addr} {oc : Value} {od an : Option Addr} {osl : Array (Option Value)} {kV doc pm cdv ct : Value} (l : K.lookup f = some ⟨oc, od, .func (PySem.W.fnOf x qual (defArgs st) (defBody st) (defScope st) .none kV doc pm an cdv ct), osl⟩)
    (c : PySem.W.codeIn K cdv qual = true) (k : PySem.W.keepIn K (.ref f) = true) : Fun K x qual st f (PySem.W.fnOf x qual (defArgs st) (defBody st) (defScope st) .none kV doc pm an cdv ct) := ⟨⟨oc, od, kV, doc, pm, an, cdv, ct, osl, rfl, l, c⟩, k⟩
end
section
variable {X : Cx}
end
noncomputable def Same (H H' : Hp) : Prop := ∀ b o, H b = some o → H' b = some o
theorem Same.refl (H : Hp) : Same H H := fun _ _ h => h
theorem Same.trans {H H1 H2 : Hp} (a : Same H H1) (b : Same H1 H2) : Same H H2 := fun c o h => b c o (a c o h)
theorem Same.free {H H' : Hp} (e : Same H H') {l : Addr} (h : H' l = Option.none) : H l = Option.none := by
  cases q : H l with
  | none => rfl
  | some o =>
    rw [e l o q] at h
    cases h
theorem Same.seq {K : PySem.W.Frag} {H H' : Hp} {a : Addr} {xs : List V} (e : Same H H') (h : SqL K H a xs) : SqL K H' a xs := by
  rcases h with (h | ⟨o, h⟩) | h
  · exact .inl (.inl (e _ _ h))
  · exact .inl (.inr ⟨o, e _ _ h⟩)
  · exact .inr h
end L2
namespace L2
open PySem PySem.Spec PyProof.Rows
section
variable {κ : Type} [DecidableEq κ]
end
end L2
namespace L2
open PySem PySem.Spec PyProof.Rows
noncomputable def closOf (cells : List (Str × Addr)) : List (Str × NameKind) → List (Str × Addr) → List (Str × Addr)
  | [], acc => acc
  | (n, k) :: r, acc => closOf cells r (if k = .free then (n, (cells.lookup n).getD 0) :: acc else acc)
theorem closOf_run {env : Env} {f : Str × NameKind → List (Str × Addr) → Sem (ForInStep (List (Str × Addr)))}
    (hf : ∀ n k a c, k = .free → env.cells.lookup n = some c → f (n, k) a = pure (.yield ((n, c) :: a))) (hg : ∀ n k a, k ≠ .free → f (n, k) a = pure (.yield a)) :
    ∀ (names : List (Str × NameKind)) (acc : List (Str × Addr)), (∀ y ∈ names, y.2 = .free → ∃ c, env.cells.lookup y.1 = some c) → forIn names acc f = (pure (closOf env.cells names acc) : Sem _)
  | [], acc, _ => rfl
  | (n, k) :: r, acc, h => by
    rw [List.forIn_cons]
    by_cases e : k = .free
    · obtain ⟨c, hc⟩ := h (n, k) List.mem_cons_self e
      rw [hf n k acc c e hc]
      show forIn r ((n, c) :: acc) f = _
      rw [closOf_run hf hg r _ fun y hy => h y (List.mem_cons_of_mem _ hy)]
      simp [closOf, e, hc]
    · rw [hg n k acc e]
      show forIn r acc f = _
      rw [closOf_run hf hg r _ fun y hy => h y (List.mem_cons_of_mem _ hy)]
      simp [closOf, e]
theorem closureFor_is {scope : Scope} {env : Env} (h : ∀ y ∈ scope.names, y.2 = .free → ∃ c, env.cells.lookup y.1 = some c) : closureFor scope env = pure (closOf env.cells scope.names []) := by
  have q := closOf_run (env := env) (f := fun x cs => match x with | (name, kind) => if (kind == NameKind.free) = true then (do let a ← cellOf env name; pure (ForInStep.yield ((name, a) :: cs))) else pure (ForInStep.yield cs))
    (fun n k a c e hc => by
      subst e
      simp only [cellOf, hc]
      rfl) (fun n k a e => by
      have e' : (k == NameKind.free) = false := by simpa using e
      simp only [e', Bool.false_eq_true, if_false]) scope.names [] h
  unfold closureFor
  show (forIn scope.names [] _ >>= fun r => pure r) = _
  exact (congrArg (· >>= fun r => pure r) q).trans rfl
theorem closOf_lookup {cells : List (Str × Addr)} : ∀ (names : List (Str × NameKind)) (acc : List (Str × Addr)) (x : Str) (c : Addr), (closOf cells names acc).lookup x = some c →
    ((x, NameKind.free) ∈ names ∧ c = (cells.lookup x).getD 0) ∨ acc.lookup x = some c
  | [], acc, x, c, h => .inr h
  | (n, k) :: r, acc, x, c, h => by
    rcases closOf_lookup r _ x c h with ⟨q, e⟩ | q
    · exact .inl ⟨List.mem_cons_of_mem _ q, e⟩
    · by_cases e : k = .free
      · rw [if_pos e, List.lookup_cons] at q
        cases hx : x == n with
        | true =>
          rw [hx] at q
          have en : x = n := by simpa using hx
          subst en; subst e
          exact .inl ⟨List.mem_cons_self, (Option.some.inj q).symm⟩
        | false =>
          rw [hx] at q
          exact .inr q
      · rw [if_neg e] at q
        exact .inr q
theorem closOf_acc {cells : List (Str × Addr)} : ∀ (names : List (Str × NameKind)) (acc : List (Str × Addr)) (x : Str), (acc.lookup x).isSome = true → ((closOf cells names acc).lookup x).isSome = true
  | [], acc, x, h => h
  | (n, k) :: r, acc, x, h => by
    refine closOf_acc r _ x ?_
    split
    · rw [List.lookup_cons]
      cases x == n <;> simp_all
    · exact h
theorem closOf_has {cells : List (Str × Addr)} : ∀ (names : List (Str × NameKind)) (acc : List (Str × Addr)) (x : Str), (x, NameKind.free) ∈ names → ((closOf cells names acc).lookup x).isSome = true
  | [], acc, x, h => by simp at h
  | (n, k) :: r, acc, x, h => by
    rcases List.mem_cons.mp h with q | q
    · cases q
      refine closOf_acc r _ n ?_
      simp [List.lookup_cons]
    · exact closOf_has r _ x q
theorem cellsFrom_app : ∀ (names : List (Str × NameKind)) (n : Nat) (acc : List (Str × Addr)), cellsFrom n names acc = cellsFrom n names [] ++ acc
  | [], _, _ => rfl
  | (x, k) :: r, n, acc => by
    unfold cellsFrom
    split
    · rw [cellsFrom_app r (n + 1) ((x, n) :: acc), cellsFrom_app r (n + 1) [(x, n)], List.append_assoc]
      rfl
    · exact cellsFrom_app r n acc
theorem cellsFrom_acc : ∀ (names : List (Str × NameKind)) (n : Nat) (acc : List (Str × Addr)) (x : Str), (acc.lookup x).isSome = true → ((cellsFrom n names acc).lookup x).isSome = true
  | [], _, _, _, h => h
  | (y, k) :: r, n, acc, x, h => by
    unfold cellsFrom
    split
    · refine cellsFrom_acc r _ _ x ?_
      rw [List.lookup_cons]
      cases x == y <;> simp_all
    · exact cellsFrom_acc r _ _ x h
theorem cellsFrom_has : ∀ (names : List (Str × NameKind)) (n : Nat) (acc : List (Str × Addr)) (x : Str), (x, NameKind.cell) ∈ names → ((cellsFrom n names acc).lookup x).isSome = true
  | [], _, _, _, h => nomatch h
  | (y, k) :: r, n, acc, x, h => by
    unfold cellsFrom
    rcases List.mem_cons.mp h with q | q
    · cases q
      rw [if_pos (by rfl)]
      refine cellsFrom_acc r _ _ _ ?_
      simp [List.lookup_cons]
    · split
      · exact cellsFrom_has r _ _ x q
      · exact cellsFrom_has r _ _ x q
theorem cellsFrom_mem : ∀ (names : List (Str × NameKind)) (n : Nat) (acc : List (Str × Addr)) (x : Str) (c : Addr), (x, c) ∈ cellsFrom n names acc → (x, NameKind.cell) ∈ names ∨ (x, c) ∈ acc
  | [], _, _, _, _, h => .inr h
  | (y, k) :: r, n, acc, x, c, h => by
    unfold cellsFrom at h
    split at h
    · rename_i hk
      rcases cellsFrom_mem r _ _ x c h with q | q
      · exact .inl (List.mem_cons_of_mem _ q)
      · rcases List.mem_cons.mp q with e | e
        · cases e
          have : k = .cell := by simpa using hk
          subst this
          exact .inl List.mem_cons_self
        · exact .inr e
    · rcases cellsFrom_mem r _ _ x c h with q | q
      · exact .inl (List.mem_cons_of_mem _ q)
      · exact .inr q
theorem env_around {M : Model} {A : Around} {E : Value → Shared → Prop} {s : Shared} {scope : Scope} {globals : Addr} {cl : List (Str × Addr)} {qual : Str} {func : Option Addr} {code : Value} {outer : Env} {builtins : Addr} {Q : Env → Shared → Prop}
    (h : Q (newEnv scope s.heap.objs.size globals (cellsFrom (s.heap.objs.size + 1) scope.names cl) qual func code (some outer) builtins) { s with heap := pushCells (s.heap.push { cls := .type "dict", data := .dict #[] }) scope.names }) :
    wpAny M A (newFunctionEnv scope globals cl [] qual func code (some outer) builtins) Q E s := by
  simp only [newFunctionEnv, Option.isSome_some, if_true]
  refine wpAny_bind (wpAny_alloc ?_)
  refine wpAny_bind (wpAny_layCells _ (fun name kind cells => by cases hkc : kind == NameKind.cell <;> simp [hkc]) _ _ _ _ ?_)
  rw [show ({ s with heap := s.heap.push { cls := .type "dict", data := .dict #[] } } : Shared).heap.objs.size = s.heap.objs.size + 1 from Heap.size_push ..]
  rw [List.forIn_nil]
  exact wpAny_bind (wpAny_pure (wpAny_pure h))
structure CompScope (X : Cx) (N' : List Str) (sc : Scope) : Prop where
  kind : sc.kind = .function
  cellk : ∀ y ∈ sc.names, y.2 = .cell → sc.names.lookup y.1 = some .cell
  own : ∀ y ∈ sc.names, y.2 = .local → sc.names.lookup y.1 = some .local
  free : ∀ y ∈ sc.names, y.2 = .free → X.env.kindOf y.1 = some .cell ∨ X.env.kindOf y.1 = some .free
noncomputable def compCx (X : Cx) (N' : List Str) (sc : Scope) (C : Addr) (s₀ : Shared) (H₀ : Hp) (fp : List Addr) : Cx :=
  { X with N := N', s₀ := s₀, H₀ := H₀, env := compEnvC sc (cellsFrom (C + 1) sc.names (closOf X.env.cells sc.names [])) C X.env, outer := X.stack, stack := X.stack, ex := fp, fn := fun x => sc.names.any fun y => decide (y.1 = x) && decide (y.2 = .cell), pn := [], xe := fun _ _ => False }
theorem relabel_lookup {env : Env} : ∀ {names : List (Str × NameKind)} {x : Str} {k : NameKind},
    (names.map fun (n, k) => if (k == NameKind.free && env.scope.kind == .function && env.kindOf n == some .cell) then (n, NameKind.cell) else (n, k)).lookup x = some k →
    names.lookup x = some k ∨ (names.lookup x = some .free ∧ k = .cell)
  | [], _, _, h => by simp at h
  | (n, k) :: r, x, k', h => by
    have ih := @relabel_lookup env r x k'
    rw [List.map_cons] at h
    change List.lookup x ((if (k == NameKind.free && env.scope.kind == .function && env.kindOf n == some .cell) = true then (n, NameKind.cell) else (n, k)) :: _) = _ at h
    cases hx : x == n with
    | true =>
      by_cases hc : (k == NameKind.free && env.scope.kind == .function && env.kindOf n == some .cell) = true
      · rw [if_pos hc] at h
        simp only [List.lookup_cons, hx] at h ⊢
        have : k = .free := by
          have := hc
          simp only [Bool.and_eq_true] at this
          simpa using this.1.1
        subst this
        exact .inr ⟨rfl, (Option.some.inj h).symm⟩
      · rw [if_neg hc] at h
        simp only [List.lookup_cons, hx] at h ⊢
        exact .inl h
    | false =>
      have e : List.lookup x (r.map fun (n, k) => if (k == NameKind.free && env.scope.kind == .function && env.kindOf n == some .cell) then (n, NameKind.cell) else (n, k)) = some k' := by
        split at h <;> simpa only [List.lookup_cons, hx] using h
      simp only [List.lookup_cons, hx]
      exact ih e
theorem lookup_relabel_free {env : Env} : ∀ {names : List (Str × NameKind)} {x : Str}, names.lookup x = some .free →
    (names.map fun (n, k) => if (k == NameKind.free && env.scope.kind == .function && env.kindOf n == some .cell) then (n, NameKind.cell) else (n, k)).lookup x = some .free ∨
    (names.map fun (n, k) => if (k == NameKind.free && env.scope.kind == .function && env.kindOf n == some .cell) then (n, NameKind.cell) else (n, k)).lookup x = some .cell
  | [], _, h => by simp at h
  | (n, k) :: r, x, h => by
    have ih := @lookup_relabel_free env r x
    rw [List.map_cons]
    change List.lookup x ((if (k == NameKind.free && env.scope.kind == .function && env.kindOf n == some .cell) = true then (n, NameKind.cell) else (n, k)) :: _) = _ ∨ List.lookup x ((if (k == NameKind.free && env.scope.kind == .function && env.kindOf n == some .cell) = true then (n, NameKind.cell) else (n, k)) :: _) = _
    cases hx : x == n with
    | true =>
      simp only [List.lookup_cons, hx] at h
      cases h
      by_cases hc : (NameKind.free == NameKind.free && env.scope.kind == .function && env.kindOf n == some .cell) = true
      · rw [if_pos hc]; right; simp only [List.lookup_cons, hx]
      · rw [if_neg hc]; left; simp only [List.lookup_cons, hx]
    | false =>
      simp only [List.lookup_cons, hx] at h
      split <;> simpa only [List.lookup_cons, hx] using ih h
theorem lookup_relabel_other {env : Env} : ∀ {names : List (Str × NameKind)} {x : Str} {k : Option NameKind}, names.lookup x = k → k ≠ some .free →
    (names.map fun (n, k) => if (k == NameKind.free && env.scope.kind == .function && env.kindOf n == some .cell) then (n, NameKind.cell) else (n, k)).lookup x = k
  | [], _, _, h, _ => by simpa using h
  | (n, k) :: r, x, k', h, hf => by
    have ih := @lookup_relabel_other env r x k'
    rw [List.map_cons]
    change List.lookup x ((if (k == NameKind.free && env.scope.kind == .function && env.kindOf n == some .cell) = true then (n, NameKind.cell) else (n, k)) :: _) = _
    cases hx : x == n with
    | true =>
      simp only [List.lookup_cons, hx] at h
      have hk : k ≠ .free := fun e => hf (by rw [← h, e])
      have hb : (k == NameKind.free) = false := by simpa using hk
      rw [if_neg (by rw [hb]; simp)]
      simp only [List.lookup_cons, hx]
      exact h
    | false =>
      simp only [List.lookup_cons, hx] at h
      split <;> simpa only [List.lookup_cons, hx] using ih h hf
theorem kind_comp {sc : Scope} {cl : List (Str × Addr)} {C : Addr} {env : Env} {x : Str} {k : NameKind} (h : (compEnvC sc cl C env).kindOf x = some k) : sc.names.lookup x = some k ∨ (sc.names.lookup x = some .free ∧ k = .cell) := relabel_lookup (env := env) h
theorem comp_turns {prog : Program} {w : World} {A : Around} {R : Result → Shared → Prop} {s : Shared} {elt target iter : Expr} {ifs : List Expr} {scope : Scope} {pos : Pos} {it acc : Value} {env : Env} (I : Nat → Shared → Prop)
    (turn : ∀ n s, I n s → wpAny (model prog w) A (pyNext it) (fun r s₁ => match r with
      | none => R (.ok .next) s₁
      | some v => wpAny (model prog w) A (letOwnedTupleGo target it v) (fun _ s₁' => wpAny (model prog w) A (assign target env v) (fun _ s₂ =>
          wpAny (model prog w) A (forIn ifs true fun c r => if r = true then do let ok ← isTrue c env (eval c env); pure (ForInStep.yield ok) else pure (ForInStep.yield r)) (fun ok s₃ =>
            if ok = true then wpAny (model prog w) A (eval elt env) (fun x s₄ =>
              wpAny (model prog w) A (call (.builtin "list.append") [acc, x]) (fun _ s₅ => ∃ m, m < n ∧ I m s₅) (fun _ _ => False) s₄) (fun _ _ => False) s₃
            else ∃ m, m < n ∧ I m s₃) (fun _ _ => False) s₂) (fun _ _ => False) s₁') (fun _ _ => False) s₁) (fun _ _ => False) s)
    (n : Nat) (h : I n s) :
    codeAny (model prog w) A (.compLoop (.ListComp elt [⟨target, iter, ifs, 0⟩] scope pos) 0 it acc env) R s := by
  refine codeAny_loop rfl I (fun n s hI => ?_) n h
  show wpAny _ A ((compTurn (.ListComp elt [⟨target, iter, ifs, 0⟩] scope pos) 0 it acc env).onRaise (fun x => do noteFrame x env; theTreesLotGoes x)) _ _ s
  refine wpAny_noted ?_
  rw [compTurn_list]
  refine wpAny_bind (wpAny_standAt (wpAny_bind (wpAny_mono (turn n s hI) (fun r s₁ h₁ => ?_) fun _ _ h' => h'.elim)))
  cases r with
  | none => exact wpAny_pure h₁
  | some v =>
    refine wpAny_bind (wpAny_mono h₁ (fun _ s₁' h₁' => ?_) fun _ _ h' => h'.elim)
    refine wpAny_bind (wpAny_mono h₁' (fun _ s₂ h₂ => wpAny_bind (wpAny_mono h₂ (fun ok s₃ h₃ => ?_) fun _ _ h' => h'.elim)) fun _ _ h' => h'.elim)
    cases ok with
    | false => exact wpAny_pure ⟨rfl, h₃⟩
    | true =>
      exact wpAny_bind (wpAny_bind (wpAny_mono h₃ (fun x s₄ h₄ => wpAny_bind (wpAny_mono h₄ (fun _ s₅ h₅ => wpAny_pure (wpAny_pure ⟨rfl, h₅⟩)) fun _ _ h' => h'.elim)) fun _ _ h' => h'.elim))
noncomputable def PTs (X : Cx) (ifs : List Expr) (t : TT) : Prop :=
  ∀ (pins : List (Addr × Obj)) (s : Shared) (σ : St) (H : Hp) (Q : Bool → Hp → Prop), Inv X pins σ H s → t σ H Q →
    wpAny (model X.prog X.w) X.A (forIn ifs true fun c r => if r = true then do let ok ← isTrue c X.env (eval c X.env); pure (ForInStep.yield ok) else pure (ForInStep.yield r)) (TP X pins σ Q) X.xe s
noncomputable def tYes : TT := fun _ H Q => Q true H
theorem pts_nil {X : Cx} : PTs X [] tYes := by
  intro pins s σ H Q I h
  rw [List.forIn_nil]
  exact wpAny_pure ⟨H, I, h⟩
theorem pts_one {X : Cx} {c : Expr} {t : TT} (h : PT X c t) : PTs X [c] t := by
  intro pins s σ H Q I hw
  rw [List.forIn_cons]
  simp only [if_true]
  refine wpAny_bind (wpAny_bind (thn (h pins s σ H Q I hw) fun b s1 q => ?_))
  refine wpAny_pure ?_
  show wpAny _ _ (forIn ([] : List Expr) b _) _ _ s1
  rw [List.forIn_nil]
  exact wpAny_pure q
noncomputable def tComp (wi : TI) (g : TG) (tc : TT) (te : TE) (mk : St → St) : TE := fun σ H Q => wi σ H fun J H1 => ∃ W : Nat → Nat → St → List V → Hp → Prop, (∃ m, W 0 m (mk σ) [] H1) ∧
  ∀ i m τ acc H2, W i m τ acc H2 → (J.stop i H2 ∧ ∀ l, H2 l = none → Q (.ref l) (upd H2 l (.lst acc))) ∨ (J.go i H2 ∧ ∃ N : St → List V → Hp → Prop, (∀ τ' acc' H', N τ' acc' H' → ∃ m', m' < m ∧ W (i + 1) m' τ' acc' H') ∧
    ∀ x H3, J.yld i H2 x H3 → g x τ H3 fun τ4 H4 => tc τ4 H4 fun b H5 => if b = true then te τ4 H5 fun v H6 => acc.length < sizeLine ∧ N τ4 (acc ++ [v]) H6 else N τ4 acc H5)
theorem Inv.track {X : Cx} {pins : List (Addr × Obj)} {σ : St} {H : Hp} {s : Shared} {a : Addr} {o : HO} (I : Inv X pins σ H s) (hf : FpOk X pins H a) (new : ObjOk X.prog X.w (upd H a o) s.heap a o) : Inv X pins σ (upd H a o) s := by
  obtain ⟨h0, h1, h2, h3, h4, h5⟩ := hf
  have := I.step (g' := s.gens) (d' := s.drawn) (t' := s.toks) (h' := s.heap) (H' := upd H a o) (ch := [a]) (fun b hb => by
      have e : b = a := by simpa using hb
      subst e
      exact ⟨h3, h1, h4, h5⟩)
    (fun b ob _ _ _ q _ => q) (fun b ob _ _ _ q _ => ⟨ob.slots, q⟩) (fun b ob hb q n => by rw [upd_ne (fun z => hb (by simp [z]))]; exact n) (fun b ob _ q => ⟨ob, q⟩)
    (fun b xs q => by rw [upd_ne (ne_of_none q h0)]; exact q) (fun b ob u q => by rw [upd_ne (ne_of_none q h0)]; exact q) (fun b ps q => ⟨#[], by rw [upd_ne (ne_of_none q h0), q]; simp⟩)
    (fun m hm => hm) (fun b u q => by
      by_cases hb : b = a
      · subst hb; rw [upd_same] at q; cases q; exact new
      · rw [upd_ne hb] at q
        exact (I.hok b u q).stay (fun c v _ e => e) (fun c e => by rw [upd_ne (ne_of_none e h0)]; exact e) fun c xs e => by rw [upd_ne (ne_of_none e h0)]; exact e) I.bare
  exact this
theorem append_own {X : Cx} {pins : List (Addr × Obj)} {σ : St} {H : Hp} {s : Shared} {a : Addr} {its : List Value} {n : Nat} {u : Value} {Q : Value → Shared → Prop} {E : Value → Shared → Prop} (I : Inv X pins σ H s) (hf : FpOk X pins H a)
    (e : s.heap.get? a = some { cls := .type "list", data := .seq its.toArray n }) (hz : its.length < sizeLine)
    (h : ∀ h' n', Inv X pins σ H { s with heap := h' } → h'.get? a = some { cls := .type "list", data := .seq (its ++ [u]).toArray n' } → (∀ b o, b ≠ a → s.heap.get? b = some o → h'.get? b = some o) → Q .none { s with heap := h' }) :
    wpAny (model X.prog X.w) X.A (call (.builtin "list.append") [.ref a, u]) Q E s := by
  refine call_meets F.slot_list_append ⟨_, e, rfl⟩ F.entry_list_append (F.args_list_append_2 _ _) (PySem.list_append a its.toArray n u (by rw [List.size_toArray]; omega)) ⟨e, ?_⟩
  have q := PySem.IsL.update e (·.push u)
  have eq : its.toArray.push u = (its ++ [u]).toArray := by simp
  rw [eq] at q
  have k : ∀ b o, b ≠ a → s.heap.get? b = some o → (s.heap.update a (Obj.mapSeq (·.push u))).get? b = some o := fun b o hb z => (Heap.get?_update_other s.heap _ (Ne.symm hb)).trans z
  obtain ⟨h0, h1, h2, h3, h4, h5⟩ := hf
  exact h _ _ (I.turned (t' := s.toks) k h0 h1 h3 h4 h5) q k
section
variable {X : Cx} {N' : List Str} {sc : Scope} {elt tg iter : Expr} {ifs : List Expr} {pos : Pos} {wi : TI} {g : TG} {tc : TT} {te : TE} {mk : St → St}
noncomputable def MkOk (X : Cx) (N' : List Str) (sc : Scope) (mk : St → St) : Prop :=
  ∀ σ : St, σ.length = X.N.length → (mk σ).length = N'.length ∧ ∀ (i : Nat) (x : Str) (v : V), N'[i]? = some x → (mk σ)[i]? = some (some v) → sc.names.lookup x = some .free ∧ ∃ j : Nat, X.N[j]? = some x ∧ σ[j]? = some (some v)
theorem comp_core {pins : List (Addr × Obj)} {σ : St} {H : Hp} {s : Shared} {Q : VK} {use : Option (Value → Sem Unit)} {QQ : Value → Shared → Prop} (S : CompScope X N' sc) (hm : MkOk X N' sc mk) (hc : X.calm = true)
    (hi : PI X tg iter wi)
    (hb : ∀ C s₀ H₀ fp, (compCx X N' sc C s₀ H₀ fp).Ok → PG (compCx X N' sc C s₀ H₀ fp) tg g ∧ PTs (compCx X N' sc C s₀ H₀ fp) ifs tc ∧ PE (compCx X N' sc C s₀ H₀ fp) elt te)
    (hs : ∀ x, foldedSetIterable iter X.env x = pure x) (I : Inv X pins σ H s) (h : tComp wi g tc te mk σ H Q)
    (fin : ∀ (l C : Addr) (H' : Hp) (s' : Shared) (m : Str → Option Value), Inv X pins σ H' s' → s'.heap.Ns C m → FpOk X pins H' C → (∃ o, s'.heap.get? C = some o ∧ ∀ v, o.data ≠ .cell v) → Q (.ref l) H' → compPost (model X.prog X.w) X.A X.xe use QQ (.ref l) C (.ok .next) s') :
    wpAny (model X.prog X.w) X.A (comprehension (.ListComp elt [⟨tg, iter, ifs, 0⟩] sc pos) sc X.env (firstIterPos [⟨tg, iter, ifs, 0⟩] pos) (newList []) false (eval iter X.env) use) QQ X.xe s := by
  have hcells : ∀ y ∈ sc.names, y.2 = .free → ∃ c, X.env.cells.lookup y.1 = some c := fun y hy hf => I.ok.has _ (S.free y hy hf)
  refine wpAny_comprehension_free (use := use) rfl hs (closureFor_is hcells) S.kind S.own ?_
  refine thn (hi pins s σ H _ I h) fun v s1 h1 => thn h1 fun itv s2 h2 => ?_
  obtain ⟨it, fp, tn, J, H2, e, I2, T, st2, f2, W, ⟨m0, w0⟩, turn⟩ := h2
  subst e
  -- the list
  refine wpAny_newObj_type ?_
  have hl0 : H2 s2.heap.objs.size = none := I2.fresh
  have fD : FpOk X pins H2 s2.heap.objs.size := I2.fpOk (Nat.le_refl _) hl0
  have eD3 : (s2.heap.push { cls := .type "list", dict := none, data := .seq ([] : List Value).toArray }).get? s2.heap.objs.size = some { cls := .type "list", data := .seq ([] : List Value).toArray 0 } := Heap.get?_push_size _ rfl
  have I3 : Inv X pins σ H2 { s2 with heap := s2.heap.push { cls := .type "list", dict := none, data := .seq ([] : List Value).toArray } } := I2.kept (t' := s2.toks) fun b o e => Heap.get?_push_of_some _ e
  -- the block's frame
  refine env_around ?_
  dsimp only
  have szL : (s2.heap.push { cls := .type "list", dict := none, data := .seq ([] : List Value).toArray }).objs.size = s2.heap.objs.size + 1 := Heap.size_push ..
  have hDC : s2.heap.objs.size ≠ (s2.heap.push { cls := .type "list", dict := none, data := .seq ([] : List Value).toArray }).objs.size := by rw [szL]; exact Nat.ne_of_lt (Nat.lt_succ_self _)
  have k23 : ∀ b o, s2.heap.get? b = some o → (s2.heap.push { cls := .type "list", dict := none, data := .seq ([] : List Value).toArray }).get? b = some o := fun b o e => Heap.get?_push_of_some _ e
  generalize hH3 : s2.heap.push { cls := .type "list", dict := none, data := .seq ([] : List Value).toArray } = P3 at I3 szL eD3 hDC k23 ⊢
  generalize hD : s2.heap.objs.size = D0 at *
  have hns4 : (pushCells (P3.push { cls := .type "dict", data := .dict #[] }) sc.names).Ns P3.objs.size (fun _ => none) := (Heap.Ns.new P3 (.type "dict")).keeps (pushCells_keeps _ _)
  have keep4 : ∀ b o, P3.get? b = some o → (pushCells (P3.push { cls := .type "dict", data := .dict #[] }) sc.names).get? b = some o := fun b o e => pushCells_keeps _ _ b o (Heap.get?_push_of_some _ e)
  have own4 := cellsFrom_ok sc.names (P3.push { cls := .type "dict", data := .dict #[] }) (P3.objs.size + 1) [] ⟨fun _ _ hm => (nomatch hm), List.Pairwise.nil⟩ (by rw [Heap.size_push]; exact Nat.le_refl _)
  rw [Heap.size_push] at own4
  generalize pushCells (P3.push { cls := .type "dict", data := .dict #[] }) sc.names = h4 at hns4 keep4 own4 ⊢
  -- the context
  have fpl : ∀ b ∈ fp, b < D0 := fun b hb => by
    obtain ⟨o, e, _⟩ := T.obj _ _ st2 b hb
    rw [← hD]
    exact Heap.lt_size e
  have hCb : D0 < P3.objs.size := by rw [szL]; exact Nat.lt_succ_self _
  have clo : ∀ x c, (closOf X.env.cells sc.names []).lookup x = some c → X.env.cells.lookup x = some c ∧ (x, NameKind.free) ∈ sc.names := fun x c e => by
    rcases closOf_lookup _ _ x c e with ⟨q, e'⟩ | q
    · obtain ⟨c', hc'⟩ := hcells _ q rfl
      have hc'' : X.env.cells.lookup x = some c' := hc'
      rw [hc''] at e' ⊢
      exact ⟨by rw [e']; rfl, q⟩
    · simp at q
  have clt : ∀ x c, (closOf X.env.cells sc.names []).lookup x = some c → c < P3.objs.size := fun x c e => by
    obtain ⟨v, o, ho, _⟩ := I3.cell x c (clo x c e).1
    exact Heap.lt_size ho
  have cel : ∀ x c, (cellsFrom (P3.objs.size + 1) sc.names (closOf X.env.cells sc.names [])).lookup x = some c → ((x, c) ∈ cellsFrom (P3.objs.size + 1) sc.names [] ∧ P3.objs.size + 1 ≤ c ∧ h4.IsCell c none) ∨ (closOf X.env.cells sc.names []).lookup x = some c := fun x c e => by
    rw [cellsFrom_app, List.lookup_append] at e
    cases ho : (cellsFrom (P3.objs.size + 1) sc.names []).lookup x with
    | none =>
      rw [ho] at e
      exact .inr e
    | some c' =>
      rw [ho] at e
      cases e
      have m := PySem.mem_of_lookup ho
      exact .inl ⟨m, (own4.empty x c m).2, (own4.empty x c m).1⟩
  have celf : ∀ x, sc.names.lookup x = some .free → (cellsFrom (P3.objs.size + 1) sc.names (closOf X.env.cells sc.names [])).lookup x = (closOf X.env.cells sc.names []).lookup x := fun x hf => by
    rw [cellsFrom_app, List.lookup_append]
    cases ho : (cellsFrom (P3.objs.size + 1) sc.names []).lookup x with
    | none => rfl
    | some c' =>
      rcases cellsFrom_mem _ _ _ _ _ (PySem.mem_of_lookup ho) with q | q
      · have := S.cellk _ q rfl
        rw [hf] at this
        cases this
      · cases q
  have f3 : ∀ b ∈ D0 :: fp, FpOk X pins H2 b ∧ b < P3.objs.size := fun b hb => by
    rcases List.mem_cons.mp hb with z | z
    · rw [z]; exact ⟨fD, hCb⟩
    · exact ⟨f2 b z, Nat.lt_trans (fpl b z) hCb⟩
  have ok : (compCx X N' sc P3.objs.size { s2 with heap := P3 } H2 (D0 :: fp)).Ok := by
    refine ⟨I.ok.mod, S.kind, I.ok.glob, I.ok.blt, Nat.le_refl _, fun x y c h1 h2 => ?_, fun x hx => ?_, fun x c z => ?_, fun z => I.ok.hd z, I.ok.frames, .inl rfl, fun b hb => ⟨?_, fun x c e => ?_⟩, I3.bs, Nat.le_trans I.ok.bsz I3.sz, fun b o e hb => ?_, fun b hb z => ?_, I3.stack, I3.stkFree⟩
    · rcases cel x c h1 with ⟨m1, l1, _⟩ | q1 <;> rcases cel y c h2 with ⟨m2, l2, _⟩ | q2
      · exact PySem.name_of_addr own4.apart m1 m2
      · exact absurd l1 (Nat.not_le.mpr (Nat.lt_succ_of_lt (clt y c q2)))
      · exact absurd l2 (Nat.not_le.mpr (Nat.lt_succ_of_lt (clt x c q1)))
      · exact I.ok.inj x y c (clo x c q1).1 (clo y c q2).1
    · have q : sc.names.lookup x = some .free ∨ sc.names.lookup x = some .cell := by
        rcases hx with hx | hx
        · rcases kind_comp hx with q | q
          · exact .inr q
          · exact .inl q.1
        · rcases kind_comp hx with q | q
          · exact .inl q
          · exact .inl q.1
      rcases q with q | q
      · have h1 := Option.isSome_iff_exists.mp (closOf_has (cells := X.env.cells) _ [] _ (PySem.mem_of_lookup q))
        show ∃ c, (cellsFrom (P3.objs.size + 1) sc.names (closOf X.env.cells sc.names [])).lookup x = some c
        rw [celf x q]
        exact h1
      · exact Option.isSome_iff_exists.mp (cellsFrom_has _ _ _ _ (PySem.mem_of_lookup q))
    · have z : (sc.names.any fun y => decide (y.1 = x) && decide (y.2 = NameKind.cell)) = true := z
      obtain ⟨y, hy, e⟩ := List.any_eq_true.mp z
      rw [Bool.and_eq_true, decide_eq_true_eq, decide_eq_true_eq] at e
      intro hc
      rcases cel x c hc with ⟨_, l1, _⟩ | q1
      · show P3.objs.size ≤ c
        omega
      · have hk := S.cellk y hy e.2
        rw [e.1] at hk
        rcases closOf_lookup _ _ x c q1 with ⟨q, _⟩ | q
        · have h2 : (cellsFrom (P3.objs.size + 1) sc.names []).lookup x ≠ none := fun h => by
            have := cellsFrom_has sc.names (P3.objs.size + 1) [] x (PySem.mem_of_lookup hk)
            rw [h] at this
            cases this
          have hc' : (cellsFrom (P3.objs.size + 1) sc.names (closOf X.env.cells sc.names [])).lookup x = some c := hc
          rw [cellsFrom_app, List.lookup_append] at hc'
          cases ho : (cellsFrom (P3.objs.size + 1) sc.names []).lookup x with
          | none => exact absurd ho h2
          | some c' =>
            rw [ho] at hc'
            cases hc'
            have := (own4.empty x c (PySem.mem_of_lookup ho)).2
            show P3.objs.size ≤ c
            omega
        · cases q
    · exact Nat.ne_of_lt (f3 b hb).2
    · rcases cel x c e with ⟨_, l1, _⟩ | q1
      · have := (f3 b hb).2
        exact fun z => by subst z; omega
      · exact (f3 b hb).1.2.2.2.2.1 x c (clo x c q1).1
    · rcases (f3 b hb).1.2.2.2.1 with z | z
      · exact I.ok.noex b o e z
      · exact absurd (Nat.lt_of_lt_of_le (Heap.lt_size e) (Nat.le_trans I.ok.bsz z)) (Nat.lt_irrefl _)
    · rcases List.mem_cons.mp (I2.stkSub b z) with q | q
      · exact (f3 b hb).1.2.1 q
      · exact (f3 b hb).1.2.2.1 q
  obtain ⟨pg, pt, pe⟩ := hb _ _ _ _ ok
  have I4 : Inv (compCx X N' sc P3.objs.size { s2 with heap := P3 } H2 (D0 :: fp)) [] (mk σ) H2 { s2 with heap := h4 } := by
    obtain ⟨ml, hmk⟩ := hm σ I.len
    have locC : ∀ x c v, X.env.cells.lookup x = some c → P3.IsCell c v → h4.IsCell c v := fun x c v e ⟨o, ho, hd⟩ => ⟨o, keep4 c o ho, hd⟩
    refine ⟨ok, rfl, I2.bare, Un.kept keep4, ⟨_, hns4, fun i x v e1 e2 e3 => ?_⟩, fun x c e => ?_, I3.hok.fresh (Nat.le_refl _), fun x c e => ?_, fun p hp => absurd (show p ∈ ([] : List (Addr × Obj)) from hp) (by simp), I3.hok.kept keep4, ml⟩
    · obtain ⟨hf, j, hj, hv⟩ := hmk i x v e1 e2
      obtain ⟨m, hn, hl⟩ := I3.loc
      have kx := S.free (x, .free) (PySem.mem_of_lookup hf) rfl
      obtain ⟨u, r, l⟩ := hl j x v hj hv (by
        rcases kx with q | q
        · exact .inr (.inl q)
        · exact .inr (.inr q))
      refine ⟨u, r, .inr ⟨?_, ?_⟩⟩
      · rcases lookup_relabel_free (env := X.env) hf with q | q
        · exact .inr q
        · exact .inl q
      · rcases l with ⟨q, _⟩ | ⟨_, c, hc1, hc2⟩
        · have kx' : X.env.kindOf x = some .cell ∨ X.env.kindOf x = some .free := kx
          rw [q] at kx'
          rcases kx' with z | z <;> cases z
        · obtain ⟨c', q⟩ := Option.isSome_iff_exists.mp (closOf_has (cells := X.env.cells) _ [] _ (PySem.mem_of_lookup hf))
          have := (clo x c' q).1
          rw [hc1] at this
          cases this
          exact ⟨c, by show (cellsFrom (P3.objs.size + 1) sc.names (closOf X.env.cells sc.names [])).lookup x = some c; rw [celf x hf]; exact q, locC x c _ hc1 hc2⟩
    · rcases cel x c e with ⟨_, _, hv⟩ | q1
      · exact ⟨none, hv⟩
      · obtain ⟨v, hv⟩ := I3.cell x c (clo x c q1).1
        exact ⟨v, locC x c v (clo x c q1).1 hv⟩
    · rcases cel x c e with ⟨_, l1, _⟩ | q1
      · exact I3.hok.fresh (by show P3.objs.size ≤ c; omega)
      · exact I3.freeC x c (clo x c q1).1
  have st4 : tn 0 h4 := T.keep _ _ _ st2 fun b hb o e => keep4 b o (k23 b o e)
  have f4 : ∀ {H' : Hp} {b : Addr}, b ∈ D0 :: fp → H' b = none → FpOk (compCx X N' sc P3.objs.size { s2 with heap := P3 } H2 (D0 :: fp)) [] H' b := fun {H' b} hb hn =>
    ⟨hn, (ok.exf b hb).1, ok.exfs b hb, .inl hb, (ok.exf b hb).2, fun p hp => absurd (show p ∈ ([] : List (Addr × Obj)) from hp) (by simp)⟩
  have ofp : ∀ {b : Addr}, b ∈ fp → b ∈ D0 :: fp := fun hb => List.mem_cons_of_mem _ hb
  have nD : ∀ b ∈ fp, b ≠ D0 := fun b hb => Nat.ne_of_lt (fpl b hb)
  -- the loop
  have loop : codeAny (model X.prog X.w) X.A (.compLoop (.ListComp elt [⟨tg, iter, ifs, 0⟩] sc pos) 0 (.ref it) (.ref D0) (compEnvC sc (cellsFrom (P3.objs.size + 1) sc.names (closOf X.env.cells sc.names [])) P3.objs.size X.env))
      (compPost (model X.prog X.w) X.A X.xe use QQ (.ref D0) P3.objs.size) { s2 with heap := h4 } := by
    refine comp_turns (fun n s' => ∃ i τ acc H' its k, Inv (compCx X N' sc P3.objs.size { s2 with heap := P3 } H2 (D0 :: fp)) [] τ H' s' ∧ tn i s'.heap ∧ (∀ b ∈ D0 :: fp, H' b = none) ∧ Vals acc its ∧ acc.length ≤ sizeLine ∧
        s'.heap.get? D0 = some { cls := .type "list", data := .seq its.toArray k } ∧ W i n τ acc H') ?_ m0
      ⟨0, mk σ, [], _, [], 0, I4, st4, fun b hb => (f3 b hb).1.1, .nil, Nat.zero_le _, keep4 _ _ eD3, w0⟩
    rintro n s5 ⟨i, τ, acc, H5, its, kk, I5, st5, fr5, va5, hz5, e5, w5⟩
    have I5p : Inv (compCx X N' sc P3.objs.size { s2 with heap := P3 } H2 (D0 :: fp)) ([] ++ pinsAt [D0] s5.heap) τ H5 s5 := by
      refine I5.pinned (fun b hb => ?_) (fun b hb => ?_)
      · have z : b = D0 := by simpa using hb
        rw [z]
        exact f4 List.mem_cons_self (fr5 D0 List.mem_cons_self)
      · have z : b = D0 := by simpa using hb
        rw [z]
        exact ⟨_, e5, fun v z => by cases z⟩
    obtain q | ⟨go, NN, hN, step⟩ := turn i n τ acc H5 w5
    · obtain ⟨stop, q⟩ := q
      refine thn (T.done (compCx X N' sc P3.objs.size { s2 with heap := P3 } H2 (D0 :: fp)) rfl rfl rfl hc i _ s5 τ H5 (fun _ _ => False) I5p (fun b hb => ?_) st5 stop) fun r s6 ⟨hr, I6p⟩ => ?_
      · obtain ⟨g0, g1, g2, g3, g4, _⟩ := f4 (ofp hb) (fr5 b (ofp hb))
        refine ⟨g0, g1, g2, g3, g4, fun p hp => ?_⟩
        have hp' : p ∈ pinsAt [D0] s5.heap := by simpa [compCx] using hp
        obtain ⟨z, _⟩ := of_pinsAt hp'
        have z' : p.1 = D0 := by simpa using z
        rw [z']
        exact (nD b hb).symm
      subst hr
      have I6 := I6p.unpinned
      have e6 : s6.heap.get? D0 = some { cls := .type "list", data := .seq its.toArray kk } := (I6p.pin (D0, _) (List.mem_append_right _ (List.mem_append_right _ (mem_pinsAt (by simp) e5)))).1
      -- back in the context around
      have un : Un (frs X.stack) fp H2 H5 s2.heap s6.heap := by
        have u := I6.base
        have nb : ∀ b o, s2.heap.get? b = some o → b ∉ fp → b ∉ D0 :: fp := fun b o e hb z => by
          rcases List.mem_cons.mp z with z | z
          · exact absurd (Heap.lt_size e) (by rw [z, hD]; exact Nat.lt_irrefl _)
          · exact hb z
        exact ⟨fun b o e n hb hx => u.keep b o (k23 b o e) n hb (nb b o e hx), fun b o e n hb hx => u.slot b o (k23 b o e) n hb (nb b o e hx), fun b o e n hx => u.free b o (k23 b o e) n (nb b o e hx), fun b o e hx => u.there b o (k23 b o e) (nb b o e hx), u.tups, u.frzs, u.tbls⟩
      have I7 : Inv X pins σ H5 s6 := by
        obtain ⟨hh, g6, d6, t6, os6⟩ := s6
        have eo : os6 = s2.os := I6.os
        subst eo
        exact I2.call (h' := hh) (g' := g6) (d' := d6) (t' := t6) (ch := fp) un I6.hok I6.bare fun b hb => ⟨(f2 b hb).2.2.2.1, (f2 b hb).2.1, (f2 b hb).2.2.2.2.1, (f2 b hb).2.2.2.2.2⟩
      have fD5 : FpOk X pins H5 D0 := ⟨fr5 D0 List.mem_cons_self, fD.2⟩
      have I8 := I7.track (o := .lst acc) fD5 (show ObjOk X.prog X.w _ s6.heap D0 (.lst acc) from ⟨hz5, its, kk, va5, e6⟩)
      obtain ⟨m, hn, _⟩ := id I6.loc
      refine fin _ P3.objs.size _ s6 m I8 hn (I2.fpOk (by rw [hD]; exact Nat.le_of_lt hCb) (by rw [upd_ne (Ne.symm hDC)]; exact I6.free)) ?_ (q D0 (fr5 D0 List.mem_cons_self))
      obtain ⟨o, es, ep, ho, hd, _⟩ := hn
      exact ⟨o, ho, fun v z => by rw [hd] at z; cases z⟩
    · skip
      have fpi : ∀ {H' : Hp} {b : Addr}, b ∈ fp → H' b = none → FpOk (compCx X N' sc P3.objs.size { s2 with heap := P3 } H2 (D0 :: fp)) ([] ++ pinsAt [D0] s5.heap) H' b := fun {H' b} hb hn => by
        obtain ⟨g0, g1, g2, g3, g4, _⟩ := f4 (H' := H') (ofp hb) hn
        refine ⟨g0, g1, g2, g3, g4, fun p hp => ?_⟩
        have hp' : p ∈ pinsAt [D0] s5.heap := by simpa [compCx] using hp
        obtain ⟨z, _⟩ := of_pinsAt hp'
        have z' : p.1 = D0 := by simpa using z
        rw [z']
        exact (nD b hb).symm
      refine thn (T.item (compCx X N' sc P3.objs.size { s2 with heap := P3 } H2 (D0 :: fp)) rfl rfl rfl hc i _ s5 τ H5 (fun _ _ => False) I5p (fun b hb => fpi hb (fr5 b (ofp hb))) st5 go) fun r s6 ⟨u, hr, h6⟩ => ?_
      subst hr
      refine thn h6 fun _ s7 ⟨x, H7, I7, r7, y7, st7, fr7⟩ => ?_
      have I7' := I7.pinned (fun b hb => fpi hb (fr7 b hb)) (T.obj _ _ st7)
      refine thn (pg _ s7 τ H7 x u _ I7' r7 (step x H7 y7)) fun _ s8 ⟨τ8, H8, I8, q8⟩ => ?_
      refine thn (pt _ s8 τ8 H8 _ I8 q8) fun b s9 ⟨H9, I9, q9⟩ => ?_
      have pinD : ∀ {τ' : St} {H' : Hp} {s' : Shared}, Inv (compCx X N' sc P3.objs.size { s2 with heap := P3 } H2 (D0 :: fp)) ([] ++ pinsAt [D0] s5.heap ++ pinsAt fp s7.heap) τ' H' s' → s'.heap.get? D0 = some { cls := .type "list", data := .seq its.toArray kk } ∧ H' D0 = none := fun {τ' H' s'} J => by
        have := J.pin (D0, _) (List.mem_append_right _ (List.mem_append_left _ (List.mem_append_right _ (mem_pinsAt (by simp) e5))))
        exact ⟨this.1, this.2.1⟩
      have pinF : ∀ {τ' : St} {H' : Hp} {s' : Shared}, Inv (compCx X N' sc P3.objs.size { s2 with heap := P3 } H2 (D0 :: fp)) ([] ++ pinsAt [D0] s5.heap ++ pinsAt fp s7.heap) τ' H' s' → (∀ b ∈ fp, ∀ o, s7.heap.get? b = some o → s'.heap.get? b = some o) ∧ (∀ b ∈ fp, H' b = none) := fun {τ' H' s'} J => by
        refine ⟨fun b hb o e => (J.pin (b, o) (List.mem_append_right _ (List.mem_append_right _ (mem_pinsAt hb e)))).1, fun b hb => ?_⟩
        obtain ⟨o, e, d⟩ := T.obj _ _ st7 b hb
        exact (J.pin (b, o) (List.mem_append_right _ (List.mem_append_right _ (mem_pinsAt hb e)))).2.1
      cases b with
      | false =>
        rw [if_neg (by decide)] at q9 ⊢
        obtain ⟨m', hm', w7⟩ := hN τ8 acc H9 q9
        obtain ⟨d1, d2⟩ := pinD I9
        obtain ⟨p1, p2⟩ := pinF I9
        refine ⟨m', hm', i + 1, τ8, acc, H9, its, kk, I9.unpinned.unpinned, T.keep _ _ _ st7 p1, fun b hb => ?_, va5, hz5, d1, w7⟩
        rcases List.mem_cons.mp hb with z | z
        · rw [z]; exact d2
        · exact p2 b z
      | true =>
        rw [if_pos rfl] at q9 ⊢
        refine thn (pe _ s9 τ8 H9 _ I9 q9) fun y s10 ⟨z, H10, I10, r10, q10⟩ => ?_
        obtain ⟨hz10, n10⟩ := q10
        obtain ⟨m', hm', w7⟩ := hN τ8 _ H10 n10
        obtain ⟨d1, d2⟩ := pinD I10
        obtain ⟨p1, p2⟩ := pinF I10
        have hlen : its.length = acc.length := va5.length.symm
        refine append_own (X := compCx X N' sc P3.objs.size { s2 with heap := P3 } H2 (D0 :: fp)) I10.unpinned.unpinned (f4 List.mem_cons_self d2) d1 (by omega) fun h' n' I11 e11 k11 => ?_
        refine ⟨m', hm', i + 1, τ8, acc ++ [z], H10, its ++ [y], n', I11, T.keep _ _ _ st7 fun b hb o e => k11 b o (nD b hb) (p1 b hb o e), fun b hb => ?_, va5.append (.cons r10 .nil), ?_, e11, w7⟩
        · rcases List.mem_cons.mp hb with w | w
          · rw [w]; exact d2
          · exact p2 b w
        · rw [List.length_append, List.length_singleton]; omega
  exact codeAny_compStart_list loop (T.self _ 0 _ _ _ st4 loop)
theorem pe_comp (S : CompScope X N' sc) (hm : MkOk X N' sc mk) (hc : X.calm = true) (hi : PI X tg iter wi)
    (hb : ∀ C s₀ H₀ fp, (compCx X N' sc C s₀ H₀ fp).Ok → PG (compCx X N' sc C s₀ H₀ fp) tg g ∧ PTs (compCx X N' sc C s₀ H₀ fp) ifs tc ∧ PE (compCx X N' sc C s₀ H₀ fp) elt te)
    (hs : ∀ x, foldedSetIterable iter X.env x = pure x := by intro _; rfl) : PE X (.ListComp elt [⟨tg, iter, ifs, 0⟩] sc pos) (tComp wi g tc te mk) := by
  intro pins s σ H Q I h
  rw [eval_ListComp]
  refine comp_core (use := none) S hm hc hi hb hs I h fun l C H' s' m I' hn hC hCo q => ⟨m, hn, fun h'' hs'' => ?_⟩
  have I'' : Inv X pins σ H' { s' with heap := h'', toks := s'.toks } := I'.turned (fun b o hb e => hs''.extBut b o hb e) hC.1 hC.2.1 hC.2.2.2.1 hC.2.2.2.2.1 hC.2.2.2.2.2
  exact ⟨.ref l, H', I'', rfl, q⟩
theorem ps_setComp {i : Nat} {x : Str} {pos' spos : Pos} (S : CompScope X N' sc) (hm : MkOk X N' sc mk) (hc : X.calm = true) (hi : PI X tg iter wi)
    (hb : ∀ C s₀ H₀ fp, (compCx X N' sc C s₀ H₀ fp).Ok → PG (compCx X N' sc C s₀ H₀ fp) tg g ∧ PTs (compCx X N' sc C s₀ H₀ fp) ifs tc ∧ PE (compCx X N' sc C s₀ H₀ fp) elt te)
    (hN : X.N.Nodup) (hx : X.N[i]? = some x) (hl : X.env.scope.names.lookup x = some .local)
    (hsw : swapsWith (.ListComp elt [⟨tg, iter, ifs, 0⟩] sc pos) (some (.Name x pos')) spos.line X.env = pure true)
    (hs : ∀ x, foldedSetIterable iter X.env x = pure x := by intro _; rfl) : PS X (.Assign [.Name x pos'] (.ListComp elt [⟨tg, iter, ifs, 0⟩] sc pos) spos) (tAsg (tComp wi g tc te mk) (gName i)) := by
  intro pins s σ H D I h
  rw [exec_Assign_Name_used _ _ _ _ hsw]
  refine wpAny_bind (wpAny_standAt (wpAny_bind ?_))
  show wpAny _ X.A (do let _ ← comprehension (.ListComp elt [⟨tg, iter, ifs, 0⟩] sc pos) sc X.env (firstIterPos [⟨tg, iter, ifs, 0⟩] pos) (newList []) false (eval iter X.env) (some (assign (.Name x pos') X.env))) _ _ s
  refine wpAny_bind (thn (comp_core (use := some (assign (.Name x pos') X.env)) (QQ := fun _ s' => SP X pins D .next s') S hm hc hi hb hs I h fun l C H' s' m I' hn hC hCo q => ?_) fun _ s' hq => wpAny_pure (wpAny_pure hq))
  obtain ⟨oC, eC, dC⟩ := id hCo
  have I1 : Inv X (pins ++ [(C, oC)]) σ H' s' := I'.pins_of fun p hp => (List.mem_append.mp hp).elim (fun z => I'.pin p (List.mem_append_right _ z)) fun z => by
    have e : p = (C, oC) := by simpa using z
    subst e
    exact ⟨eC, hC.1, hC.2.1, hC.2.2.1, dC⟩
  show wpAny _ X.A (assign (.Name x pos') X.env (.ref l)) _ _ s'
  refine thn (pg_name (i := i) hN hx (.inl hl) (.inr hl) (pins ++ [(C, oC)]) s' σ H' (.ref l) (.ref l) D.nx I1 rfl q) fun _ s2 ⟨σ2, H2, I2, q2⟩ => ?_
  obtain ⟨eC2, nC2, _, _, _⟩ := I2.pin (C, oC) (List.mem_append_right _ (List.mem_append_right _ (by simp)))
  have hn2 : s2.heap.Ns C m := by
    obtain ⟨o, es, ep, ho, r⟩ := hn
    have : o = oC := by rw [eC] at ho; exact (Option.some.inj ho).symm
    subst this
    exact ⟨o, es, ep, eC2, r⟩
  refine ⟨m, hn2, fun h'' hs'' => ?_⟩
  have I3 : Inv X pins σ2 H2 { s2 with heap := h'', toks := s2.toks } := I2.unpinned.turned (fun b o hb e => hs''.extBut b o hb e) nC2 hC.2.1 hC.2.2.2.1 hC.2.2.2.2.1 hC.2.2.2.2.2
  exact ⟨σ2, H2, I3, q2⟩
end
end L2
namespace L2
open PySem PySem.Spec PyProof.Rows
section
variable {X : Cx}
theorem call_isinst : CallR X (.builtin "isinstance") (fun xs H Q => ∃ x T t b, xs = [x, .ty T] ∧ TyOf X.K H x t ∧ PySem.W.kitOne X.K t (.type T) = some b ∧ Q (.bl b) H) := by
  intro pins s σ H xs us Q I rv h
  obtain ⟨x, T, t, b, rfl, ty, e, q⟩ := h
  obtain ⟨u, c, rfl, ru, rc⟩ := rv.two
  cases rc
  exact isinst_ok I ru ty e fun tk => ⟨.bl b, H, I.tok tk, rfl, q⟩
theorem call_isinstC : CallR X (.builtin "isinstance") (fun xs H Q => ∃ x C t b, xs = [x, .ref C] ∧ TyOf X.K H x t ∧ PySem.W.kitOne X.K t (.ref C) = some b ∧ Q (.bl b) H) := by
  intro pins s σ H xs us Q I rv h
  obtain ⟨x, T, t, b, rfl, ty, e, q⟩ := h
  obtain ⟨u, c, rfl, ru, rc⟩ := rv.two
  cases rc
  exact isinst_ok I ru ty e fun tk => ⟨.bl b, H, I.tok tk, rfl, q⟩
theorem truth_bl {prog : Program} {w : World} {A : Around} {its : List Value} {bs : List Bool} (r : Vals (bs.map V.bl) its) : TruthOf prog w A (fun i v => its.toArray[i]? = some v) (fun i => bs.getD i false) := by
  intro i v s Q E hP h
  have hi : its[i]? = some v := by simpa using hP
  have e : v = .bool (bs.getD i false) := by
    have hl := r.length
    rw [List.length_map] at hl
    have hlt : i < bs.length := by
      have := (List.getElem?_eq_some_iff.mp hi).1
      omega
    obtain ⟨u, hu, ru⟩ := Vals.get (i := i) (x := .bl bs[i]) r (by simp [hlt])
    rw [hi] at hu
    cases hu
    have ru' : v = Value.bool bs[i] := ru
    rw [ru', List.getD_eq_getElem?_getD, List.getElem?_eq_getElem hlt]
    rfl
  rw [e]
  exact wpAny_truthy_bool h
theorem range_all (bs : List Bool) : (List.range bs.length).all (fun i => bs.getD i false) = bs.all id := by
  have : bs = (List.range bs.length).map fun i => bs.getD i false := by
    apply List.ext_getElem
    · simp
    · intro i h1 h2
      simp [h1]
  rw [Bool.eq_iff_iff]
  simp only [List.all_eq_true, List.mem_range]
  constructor
  · intro h x hx
    obtain ⟨i, hi, rfl⟩ := List.mem_iff_getElem.mp hx
    have := h i hi
    simpa [hi] using this
  · intro h i hi
    have := h bs[i] (List.getElem_mem hi)
    simpa [hi] using this
theorem range_any (bs : List Bool) : (List.range bs.length).any (fun i => bs.getD i false) = bs.any id := by
  rw [Bool.eq_iff_iff]
  simp only [List.any_eq_true, List.mem_range]
  constructor
  · rintro ⟨i, hi, h⟩
    exact ⟨bs[i], List.getElem_mem hi, by simpa [hi] using h⟩
  · rintro ⟨x, hx, h⟩
    obtain ⟨i, hi, rfl⟩ := List.mem_iff_getElem.mp hx
    exact ⟨i, hi, by simpa [hi] using h⟩
theorem call_all (hc : X.calm = true) : CallR X (.builtin "all") (fun xs H Q => ∃ (p : Addr) (bs : List Bool), xs = [.ref p] ∧ SqL X.K H p (bs.map V.bl) ∧ Q (.bl (bs.all id)) H) := by
  intro pins s σ H xs us Q I rv h
  obtain ⟨p, bs, rfl, hq, q⟩ := h
  obtain ⟨u, rfl, ru⟩ := rv.one
  cases ru
  obtain ⟨its, r, pl, hz⟩ := I.list hq
  have hlen : its.toArray.size = bs.length := by rw [List.size_toArray, ← r.length, List.length_map]
  have hne : p ≠ s.heap.objs.size := by obtain ⟨o, n, ho, _⟩ := id pl; exact Nat.ne_of_lt (Heap.lt_size ho)
  refine call_all_walk (wpAny_pyIter_list pl.isList ⟨s.heap.objs.size, _, _, _, _, _, fun i => bs.getD i false, rfl, Walks.list (A := X.A.in1) (I.ok.hd hc) _ p hne its.toArray, ⟨⟨_, Heap.get?_push_size _ rfl, rfl, rfl⟩, pl.isList.at fun o e => Heap.get?_push_of_some _ e⟩, truth_bl r, fun h' tk k => ?_⟩)
  rw [hlen, range_all]
  exact ⟨.bl (bs.all id), H, I.kept (t' := tk) fun b o e => k b o (by simpa using Nat.ne_of_lt (Heap.lt_size e)) (Heap.get?_push_of_some _ e), rfl, q⟩
theorem call_any (hc : X.calm = true) : CallR X (.builtin "any") (fun xs H Q => ∃ (p : Addr) (bs : List Bool), xs = [.ref p] ∧ SqL X.K H p (bs.map V.bl) ∧ Q (.bl (bs.any id)) H) := by
  intro pins s σ H xs us Q I rv h
  obtain ⟨p, bs, rfl, hq, q⟩ := h
  obtain ⟨u, rfl, ru⟩ := rv.one
  cases ru
  obtain ⟨its, r, pl, hz⟩ := I.list hq
  have hlen : its.toArray.size = bs.length := by rw [List.size_toArray, ← r.length, List.length_map]
  have hne : p ≠ s.heap.objs.size := by obtain ⟨o, n, ho, _⟩ := id pl; exact Nat.ne_of_lt (Heap.lt_size ho)
  refine call_any_walk (wpAny_pyIter_list pl.isList ⟨s.heap.objs.size, _, _, _, _, _, fun i => bs.getD i false, rfl, Walks.list (A := X.A.in1) (I.ok.hd hc) _ p hne its.toArray, ⟨⟨_, Heap.get?_push_size _ rfl, rfl, rfl⟩, pl.isList.at fun o e => Heap.get?_push_of_some _ e⟩, truth_bl r, fun h' tk k => ?_⟩)
  rw [hlen, range_any]
  exact ⟨.bl (bs.any id), H, I.kept (t' := tk) fun b o e => k b o (by simpa using Nat.ne_of_lt (Heap.lt_size e)) (Heap.get?_push_of_some _ e), rfl, q⟩
noncomputable def cutS (x : Str) (lo hi : Option Int) : Str := ⟨((x.cps.toList.drop (HT.sIx x.length 0 lo)).take (HT.sIx x.length x.length hi - HT.sIx x.length 0 lo)).toArray⟩
theorem sIx_eq (n d : Nat) (i : Int) : (max 0 (min (if i < 0 then i + (n : Int) else i) (n : Int))) = ((HT.sIx n d (some i) : Nat) : Int) := by
  have := HT.clip_eq i n d
  rw [← this]
  split <;> omega
theorem strIx (lo hi : Option Int) (n : Nat) : Builtin.Str.strSliceIndices lo hi 1 n = (List.range (HT.sIx n n hi - HT.sIx n 0 lo)).map fun k => HT.sIx n 0 lo + k := by
  have key : ∀ a b : Nat, sliceRange (a : Int) (b : Int) 1 = (List.range (b - a)).map fun k => a + k := by
    intro a b
    unfold sliceRange
    have e : (if (1 : Int) > 0 then (if (a : Int) < b then ((b : Int) - a + 1 - 1) / 1 else 0) else (if (a : Int) > b then ((a : Int) - b - 1 - 1) / (-1) else 0)).toNat = b - a := by
      rw [if_pos (by decide)]
      split <;> omega
    simp only [e]
    apply List.map_congr_left
    intro k hk
    omega
  have e1 : ∀ (o : Option Int) (d : Nat), (match o with | none => (d : Int) | some i => max 0 (min (if i < 0 then i + (n : Int) else i) (n : Int))) = ((HT.sIx n d o : Nat) : Int) := by
    intro o d
    cases o with
    | none => rfl
    | some i => exact sIx_eq n d i
  have a1 := e1 lo 0
  have a2 := e1 hi n
  unfold Builtin.Str.strSliceIndices
  simp only [show (1 : Int) > 0 by decide, if_true]
  have b1 : ((0 : Nat) : Int) = 0 := rfl
  rw [b1] at a1
  rw [← key, ← a1, ← a2]
  cases lo <;> cases hi <;> rfl
theorem pickN (xs : Array Nat) (i : Nat) : ∀ k, ((List.range k).map fun m => i + m).filterMap (xs[·]?) = (xs.toList.drop i).take k := by
  intro k
  induction k with
  | zero => simp
  | succ k ih =>
    rw [List.range_succ, List.map_append, List.filterMap_append, ih]
    by_cases h : i + k < xs.size
    · rw [List.take_succ, List.getElem?_drop]
      simp [h]
    · rw [List.take_succ, List.getElem?_drop]
      simp [h]
theorem slice_cut (x : Str) (lo hi : Option Int) : Txt.slice x lo hi = cutS x lo hi := by
  have hl : HT.sIx x.length 0 lo ≤ x.length := HT.sIx_le _ _ (Nat.zero_le _) lo
  have hu : HT.sIx x.length x.length hi ≤ x.length := HT.sIx_le _ _ (Nat.le_refl _) hi
  unfold Txt.slice cutS
  rw [strIx]
  split
  · rename_i h
    rw [Bool.and_eq_true, beq_iff_eq, beq_iff_eq, List.length_map, List.length_range] at h
    have a : HT.sIx x.length 0 lo = 0 := by omega
    have b : HT.sIx x.length x.length hi = x.length := by omega
    rw [a, b]
    have : x.cps.toList.length = x.length := by simp [Str.length]
    rw [List.drop_zero, Nat.sub_zero, ← this, List.take_length]
  · rw [pickN]
theorem isPart_some {v : Value} {o : Option Int} (p : IsPart v o) : ∃ l : Option (Int × Tok), v = partValue l ∧ o = l.map (·.1) := by
  cases p with
  | none => exact ⟨none, rfl, rfl⟩
  | int i t => exact ⟨some (i, t), rfl, rfl⟩
noncomputable def rSlS : V → Option Int → Option Int → Hp → VK → Prop := fun x lo hi H Q => ∃ z, x = .str z ∧ z.length ≤ sizeLine ∧ Q (.str (cutS z lo hi)) H
theorem sl_str : SlR X rSlS := by
  intro pins s σ H x v vl vu lo hi sl Q I rx hs pl pu h
  obtain ⟨z, rfl, hz, q⟩ := h
  obtain ⟨t, rfl⟩ := rx
  obtain ⟨l, rfl, rfl⟩ := isPart_some pl
  obtain ⟨u, rfl, rfl⟩ := isPart_some pu
  refine ⟨"str", _, F.slot_str_getitem.lookup, typeIs_str _ _ _, ?_⟩
  refine wpAny_getItem_str_slice (l := l) (u := u) (st := none) hs rfl (post_val_or_str ⟨Nat.le_trans (Txt.slice_le z _ _) hz, fun t' k => ?_⟩)
  have e := slice_cut z (l.map (·.1)) (u.map (·.1))
  unfold Txt.slice at e
  refine ⟨.str (cutS z (l.map (·.1)) (u.map (·.1))), H, I.tok k, ⟨t', ?_⟩, q⟩
  rw [← e]
  rfl
noncomputable def Its (x : Str) : It := ⟨fun i _ => i < x.length, fun i H v H' => H' = H ∧ ∃ c, x.cps[i]? = some c ∧ v = .str ⟨#[c]⟩, fun i _ => x.length ≤ i⟩
end
end L2
namespace L2
open PySem PySem.Spec PyProof.Rows
theorem str_walks {prog : Program} {w : World} (it : Addr) (x : Str) (t : Tok) (A : Around) (hA : A.handled = none) :
    Walks prog w A it [it] [it] x.cps.size (SignAt x) (fun i h => h.IsStrIter it (strIterType x) x t i) := by
  unfold strIterType
  cases ha : x.cps.all (· < 128)
  · simp only [Bool.false_eq_true, if_false]; exact Walks.strWide hA it x t
  · simp only [if_true]; exact Walks.strAscii hA it x t
theorem turn_str {P : Program} {w : World} {K : PySem.W.Frag} {tg : Expr} (x : Str) (it : Addr) (t : Tok) : Turn P w K tg (Its x) [it] it (fun i h => h.IsStrIter it (strIterType x) x t i) where
  mem := by simp
  obj := fun i h st b hb => by
    have e : b = it := by simpa using hb
    subst e
    obtain ⟨o, e, c, d⟩ := st
    exact ⟨o, e, fun v z => by rw [d] at z; cases z⟩
  keep := fun i h h' st k => let ⟨o, ho, r⟩ := st; ⟨o, k it (by simp) o ho, r⟩
  item := by
    intro X hP hw hK hc i pins s σ H E I hf st hg
    subst hP hw hK
    obtain ⟨f0, f1, f2, f3, f4, f5⟩ := hf it (by simp)
    have W := str_walks (prog := X.prog) (w := X.w) it x t X.A (I.ok.hd hc)
    refine W.item i s _ _ hg st fun v h' tk hv st' kk => ?_
    obtain ⟨c, u, hc', rfl⟩ := hv
    have I1 : Inv X pins σ H { s with heap := h', toks := tk } := I.turned (fun b o hb e => kk b o (by simpa using hb) e) f0 f1 f3 f4 f5
    obtain ⟨o, e, cl, d⟩ := id st'
    refine ⟨_, rfl, go_of (s := { s with heap := h', toks := tk }) (n := strIterType x) e cl d ?_ ⟨.str ⟨#[c]⟩, H, I1, ⟨u, rfl⟩, ⟨rfl, c, hc', rfl⟩, st', fun b hb => (hf b hb).1⟩⟩
    unfold strIterType
    split <;> decide
  done := by
    intro X hP hw hK hc i pins s σ H E I hf st hg
    subst hP hw hK
    obtain ⟨f0, f1, f2, f3, f4, f5⟩ := hf it (by simp)
    have hg' : x.length ≤ i := hg
    by_cases hi : i = x.cps.size
    · subst hi
      have W := str_walks (prog := X.prog) (w := X.w) it x t X.A (I.ok.hd hc)
      exact W.done s _ _ st fun h' tk kk => ⟨rfl, I.turned (fun b o hb e => kk b o (by simpa using hb) e) f0 f1 f3 f4 f5⟩
    · have hn : x.cps[i]? = none := by
        rw [Array.getElem?_eq_none_iff]
        exact hg'
      have st2 : s.heap.IsStrIter it (strIterType x) x t i := st
      unfold strIterType at st2
      cases ha : x.cps.all (· < 128)
      · rw [ha] at st2
        exact wpAny_pyNext_wide_end (I.ok.hd hc) st2 hn fun h' eb => ⟨rfl, I.turned (t' := s.toks) (fun b o hb e => eb b o hb e) f0 f1 f3 f4 f5⟩
      · rw [ha] at st2
        exact wpAny_pyNext_ascii_end (I.ok.hd hc) st2 hn fun h' eb => ⟨rfl, I.turned (t' := s.toks) (fun b o hb e => eb b o hb e) f0 f1 f3 f4 f5⟩
  self := fun A i s Q E st h => by
    have st2 : s.heap.IsStrIter it (strIterType x) x t i := st
    unfold strIterType at st2
    cases ha : x.cps.all (· < 128)
    · rw [ha] at st2; exact wpAny_pyIter_striter_wide st2 h
    · rw [ha] at st2; exact wpAny_pyIter_striter_ascii st2 h
section
variable {X : Cx} {tg : Expr}
end
noncomputable def Ite (K : PySem.W.Frag) (a : Addr) : It :=
  ⟨fun i H => ∃ xs x, SqL K H a xs ∧ xs[i]? = some x, fun i H v H' => ∃ p x, H p = none ∧ H' = upd H p (.tup [.int i, x]) ∧ v = .ref p ∧ ∀ xs, SqL K H a xs → xs[i]? = some x, fun i H => ∃ xs, SqL K H a xs ∧ xs.length ≤ i⟩
theorem turn_enum {P : Program} {w : World} {K : PySem.W.Frag} {es : List Expr} {kk : Nat} {pp : Pos} (a it e : Addr) (hne : e ≠ it) : Turn P w K (.Tuple es kk pp) (Ite K a) [e, it] e (fun i h => (∃ old, IsEnum h e it i old) ∧ h.IsListIter it a i) where
  mem := by simp
  obj := fun i h st b hb => by
    obtain ⟨⟨old, he⟩, o, e1, c, d⟩ := st
    have hb' : b = e ∨ b = it := by simpa using hb
    rcases hb' with rfl | rfl
    · exact ⟨_, he, fun v z => by cases z⟩
    · exact ⟨o, e1, fun v z => by rw [d] at z; cases z⟩
  keep := fun i h h' st k => by
    obtain ⟨⟨old, he⟩, hl⟩ := st
    exact ⟨⟨old, k e (by simp) _ he⟩, hl.at fun o q => k it (by simp) o q⟩
  item := by
    intro X hP hw hK hc i pins s σ H E I hf st hg
    subst hP hw hK
    obtain ⟨xs, x, hq, hx⟩ := hg
    obtain ⟨its, rv, pl, hz⟩ := I.list hq
    obtain ⟨u, hu, ru⟩ := rv.get hx
    obtain ⟨⟨old, he⟩, hl⟩ := st
    obtain ⟨f0, f1, f2, f3, f4, f5⟩ := hf e (by simp)
    obtain ⟨g0, g1, g2, g3, g4, g5⟩ := hf it (by simp)
    have hilt : i < its.toArray.size := by
      have := (List.getElem?_eq_some_iff.mp hu).1
      simpa using this
    have hit : it < s.heap.objs.size := by obtain ⟨o, q, _⟩ := hl; exact Heap.lt_size q
    have haI : a ≠ it := by
      obtain ⟨o, n, q, qc, _⟩ := id pl
      obtain ⟨o', q', qc', _⟩ := id hl
      rintro rfl
      rw [q] at q'; cases q'
      rw [qc] at qc'; exact absurd qc' (by decide +kernel)
    have haE : e ≠ a := by
      obtain ⟨o, n, q, qc, _⟩ := id pl
      rintro rfl
      rw [show s.heap.get? e = _ from he] at q; cases q
      exact absurd (show Value.type "enumerate" = .type "list" from qc) (by decide +kernel)
    have D := Draws.list (prog := X.prog) (w := X.w) (A := X.A.in1) (I.ok.hd hc) it a haI its.toArray
    refine wpAny_pyNext_enum_itemD D he ⟨hl, pl.isList⟩ hilt hne (by simp [hne, haE]) fun y h' tk hy ho hst ht hsz kp => ?_
    have eyu : y = u := by
      have : its[i]? = some y := by simpa using hy
      rw [hu] at this
      exact (Option.some.inj this).symm
    subst eyu
    have hp : H s.heap.objs.size = none := I.hok.fresh (Nat.le_refl _)
    have nE : ∀ b v, H b = some v → b ≠ e := fun b v q z => by rw [z, f0] at q; cases q
    have nI : ∀ b v, H b = some v → b ≠ it := fun b v q z => by rw [z, g0] at q; cases q
    have I1 : Inv X pins σ (upd H s.heap.objs.size (.tup [.int i, x])) { s with heap := h', toks := tk + 1 } := by
      refine I.step (g' := s.gens) (d' := s.drawn) (ch := [e, it]) (fun b hb => ?_) (fun b o _ _ hc' q _ => kp b o (fun z => hc' (by simp [z])) (fun z => hc' (by simp [z])) q)
        (fun b o _ _ hc' q _ => ⟨o.slots, kp b o (fun z => hc' (by simp [z])) (fun z => hc' (by simp [z])) q⟩) (fun b o _ q n => by rw [upd_ne (Nat.ne_of_lt (Heap.lt_size q))]; exact n)
        (fun b o hc' q => ⟨o, kp b o (fun z => hc' (by simp [z])) (fun z => hc' (by simp [z])) q⟩) (fun b ys q => by rw [upd_ne (ne_of_none q hp)]; exact q) (fun b o v q => by rw [upd_ne (ne_of_none q hp)]; exact q)
        (fun b ps q => ⟨#[], by rw [upd_ne (ne_of_none q hp), q]; simp⟩) (fun m hm => ?_) (fun b v q => ?_) I.bare
      · have hb' : b = e ∨ b = it := by simpa using hb
        rcases hb' with rfl | rfl
        · exact ⟨f3, f1, f4, f5⟩
        · exact ⟨g3, g1, g4, g5⟩
      · obtain ⟨o, es', ep, q, r⟩ := hm
        exact ⟨o, es', ep, kp _ o (Ne.symm f1) (Ne.symm g1) q, r⟩
      · by_cases hb : b = s.heap.objs.size
        · subst hb
          rw [upd_same] at q
          cases q
          exact ⟨by show 2 ≤ sizeLine; decide, [.int i tk, y], .cons ⟨tk, rfl⟩ (.cons ru .nil), ⟨_, ht, rfl, _, rfl⟩⟩
        · rw [upd_ne hb] at q
          refine (I.hok b v q).stay (fun c o hc' q' => kp c o ?_ ?_ q') (fun c q' => by rw [upd_ne (ne_of_none q' hp)]; exact q') fun c ys q' => by rw [upd_ne (ne_of_none q' hp)]; exact q'
          · rcases hc' with z | z
            · rw [z]; exact nE b v q
            · exact nE c _ z
          · rcases hc' with z | z
            · rw [z]; exact nI b v q
            · exact nI c _ z
    have fe : (upd H s.heap.objs.size (.tup [.int i, x])) e = none := by rw [upd_ne (Nat.ne_of_lt (Heap.lt_size he))]; exact f0
    refine ⟨_, rfl, wpAny_letOwnedTupleGo_enum (s := { s with heap := h', toks := tk + 1 }) ho fun h'' he'' hs'' => ?_⟩
    have I2 : Inv X pins σ (upd H s.heap.objs.size (.tup [.int i, x])) { s with heap := h'', toks := tk + 1 } := I1.turned (t' := tk + 1) (fun b o hb q => hs''.extBut b o hb q) fe f1 f3 f4 f5
    refine ⟨.ref s.heap.objs.size, _, I2, rfl, ⟨_, x, hp, rfl, rfl, fun ys hy' => by rw [I.list_inj hy' hq]; exact hx⟩, ⟨⟨y, ?_⟩, hst.1.at fun o q => hs''.extBut it o (Ne.symm hne) q⟩, fun b hb => ?_⟩
    · have : ((i : Int) + 1) = ((i + 1 : Nat) : Int) := by push_cast; rfl
      rw [← this]
      exact he''
    · have hb' : b = e ∨ b = it := by simpa using hb
      rcases hb' with rfl | rfl
      · exact fe
      · rw [upd_ne (Nat.ne_of_lt hit)]; exact g0
  done := by
    intro X hP hw hK hc i pins s σ H E I hf st hg
    subst hP hw hK
    obtain ⟨xs, hq, hx⟩ := hg
    obtain ⟨its, rv, pl, hz⟩ := I.list hq
    obtain ⟨⟨old, he⟩, hl⟩ := st
    obtain ⟨g0, g1, g2, g3, g4, g5⟩ := hf it (by simp)
    have hT : s.TypeIs (.ref e) "enumerate" := ⟨_, he, rfl⟩
    have hlen := rv.length
    unfold pyNext
    refine wpAny_bind (wpAny_attempt (wpAny_callSpecial?_slot (name := Str.ofString "__next__") hT F.slot_enumerate_next
      (wpAny_call_entry F.slot_enumerate_next hT F.entry_enumerate_next ?_ (F.args_enumerate_next_1 _))))
    show wpAny _ _ (field (.ref e) 2 >>= _) _ _ _
    refine wpAny_bind (wpAny_field he rfl (x := .ref it) rfl ?_)
    refine wpAny_bind (wpAny_nextOf_list_end (A := X.A.in1) (I.ok.hd hc) hl pl.isList (by simp; omega) fun h' z he' hx' => ?_)
    obtain ⟨o, ho, hcl⟩ := hx'
    refine wpAny_bind (wpAny_isInstance (T := "StopIteration") (b := true) ⟨o, ho, hcl⟩ isSubtype_stop ?_)
    exact wpAny_pure ⟨rfl, I.turned (t' := s.toks) (fun b o hb q => he' b o hb q) g0 g1 g3 g4 g5⟩
  self := fun _ _ _ _ _ st h => by
    obtain ⟨⟨old, he⟩, _⟩ := st
    exact wpAny_pyIter_enum he h
section
variable {X : Cx} {es : List Expr} {kk : Nat} {pp : Pos}
noncomputable def iEnum (K : PySem.W.Frag) (tl : TE) : TI := fun σ H R => tl σ H fun x H1 => ∃ a, x = .ref a ∧ (∃ xs, SqL K H1 a xs) ∧ R (Ite K a) H1
theorem pi_enum {l : Expr} {tl : TE} {p pos : Pos} (hg : Gl X "enumerate") (hm : X.mg "enumerate" = none) (hl : PE X l tl) (hs : starEach [l] X.env = [(false, eval l X.env)] := by rfl) :
    PI X (.Tuple es kk pp) (.Call (.Name "enumerate" p) [l] [] pos) (iEnum X.K tl) := by
  intro pins s σ H R I h
  have ha : PA X [l] (tCons tl tNil) := pa_cons hl pa_nil hs
  refine Call_ (ld_blt I hg hm boot_enumerate (PyProof.Rows.callWith_type1 (thn (ha pos pins s σ H (fun vs H1 => ∃ a, vs = [.ref a] ∧ (∃ xs, SqL X.K H1 a xs) ∧ R (Ite X.K a) H1) I ?_) fun us s1 ⟨vs, H1, I1, r1, q1⟩ => ?_) hs rfl))
  · show tl σ H fun x H1 => _
    have hmono : ∀ x H1, (∃ a, x = V.ref a ∧ (∃ xs, SqL X.K H1 a xs) ∧ R (Ite X.K a) H1) → (∃ a, [x] = [V.ref a] ∧ (∃ xs, SqL X.K H1 a xs) ∧ R (Ite X.K a) H1) := fun x H1 ⟨a, e, r⟩ => ⟨a, by rw [e], r⟩
    have e : (fun (x : V) (H1 : Hp) => ∃ a, x = V.ref a ∧ (∃ xs, SqL X.K H1 a xs) ∧ R (Ite X.K a) H1) = fun x H1 => ∃ a, [x] = [V.ref a] ∧ (∃ xs, SqL X.K H1 a xs) ∧ R (Ite X.K a) H1 := by
      funext x H1
      apply propext
      exact ⟨hmono x H1, fun ⟨a, e, r⟩ => ⟨a, by simpa using e, r⟩⟩
    have h' : tl σ H fun x H1 => ∃ a, [x] = [V.ref a] ∧ (∃ xs, SqL X.K H1 a xs) ∧ R (Ite X.K a) H1 := by rw [← e]; exact h
    exact h'
  · obtain ⟨a, rfl, ⟨xs, hq⟩, q⟩ := q1
    obtain ⟨u, rfl, ru⟩ := r1.one
    cases ru
    obtain ⟨its, rv, pl, hz⟩ := I1.list hq
    refine call_enumerate_list pl.isList fun h' he hl' hsz kp => ?_
    refine wpAny_pyIter_enum (s := { s1 with heap := h' }) he ?_
    have I2 : Inv X pins σ H1 { s1 with heap := h', toks := s1.toks } := I1.kept kp
    refine ⟨_, [s1.heap.objs.size + 1, s1.heap.objs.size], _, _, H1, rfl, I2, turn_enum a s1.heap.objs.size (s1.heap.objs.size + 1) (Nat.succ_ne_self _), ⟨⟨_, he⟩, hl'⟩, fun b hb => ?_, q⟩
    have hb' : b = s1.heap.objs.size + 1 ∨ b = s1.heap.objs.size := by simpa using hb
    have hbs : s1.heap.objs.size ≤ b := by
      rcases hb' with z | z
      · rw [z]; exact Nat.le_succ _
      · rw [z]; exact Nat.le_refl _
    exact I1.fpOk hbs (I1.hok.fresh hbs)
end
end L2
namespace L2
open PySem PySem.Spec PyProof.Rows
inductive D where
  | non | bl (b : Bool) | int (i : Int) | str (x : Str) | tup (ds : List D) | lst (ds : List D)
  deriving Inhabited
mutual
noncomputable def Rep (K : PySem.W.Frag) (H : Hp) : D → V → Prop
  | .non, v => v = .non
  | .bl b, v => v = .bl b
  | .int i, v => v = .int i
  | .str x, v => v = .str x
  | .tup ds, v => ∃ a xs, v = .ref a ∧ SqT K H a xs ∧ Reps K H ds xs
  | .lst ds, v => ∃ a xs, v = .ref a ∧ SqL K H a xs ∧ Reps K H ds xs
noncomputable def Reps (K : PySem.W.Frag) (H : Hp) : List D → List V → Prop
  | [], xs => xs = []
  | d :: ds, xs => ∃ x r, xs = x :: r ∧ Rep K H d x ∧ Reps K H ds r
end
theorem Same.tup {K : PySem.W.Frag} {H H' : Hp} {a : Addr} {xs : List V} (e : Same H H') (h : SqT K H a xs) : SqT K H' a xs := by
  rcases h with (h | ⟨o, h⟩) | h
  · exact .inl (.inl (e _ _ h))
  · exact .inl (.inr ⟨o, e _ _ h⟩)
  · exact .inr h
theorem Reps.length {K : PySem.W.Frag} {H : Hp} : ∀ {ds : List D} {xs : List V}, Reps K H ds xs → xs.length = ds.length
  | [], _, h => by rw [show _ = [] from h]; rfl
  | d :: ds, _, h => by
    obtain ⟨x, r, rfl, _, h2⟩ := h
    rw [List.length_cons, List.length_cons, Reps.length h2]
theorem Reps.at {K : PySem.W.Frag} {H : Hp} : ∀ {ds : List D} {xs : List V} {i : Nat} {d : D}, Reps K H ds xs → ds[i]? = some d → ∃ x, xs[i]? = some x ∧ Rep K H d x
  | [], _, i, d, h, e => by simp at e
  | d :: ds, _, 0, d', h, e => by
    obtain ⟨y, r, rfl, h1, h2⟩ := h
    simp at e; subst e
    exact ⟨y, rfl, h1⟩
  | d :: ds, _, i + 1, d', h, e => by
    obtain ⟨y, r, rfl, h1, h2⟩ := h
    obtain ⟨x, e', h'⟩ := Reps.at (i := i) h2 (by simpa using e)
    exact ⟨x, by simpa using e', h'⟩
mutual
noncomputable def eqD : D → D → Bool
  | .non, .non => true
  | .bl a, .bl b => a == b
  | .bl a, .int b => (if a then 1 else 0) == b
  | .int a, .bl b => a == (if b then 1 else 0)
  | .int a, .int b => a == b
  | .str a, .str b => a == b
  | .tup a, .tup b => eqDs a b
  | .lst a, .lst b => eqDs a b
  | _, _ => false
noncomputable def eqDs : List D → List D → Bool
  | [], [] => true
  | a :: as, b :: bs => eqD a b && eqDs as bs
  | _, _ => false
end
mutual
noncomputable def hgt : D → Nat
  | .tup ds => hgts ds + 1
  | .lst ds => hgts ds + 1
  | _ => 0
noncomputable def hgts : List D → Nat
  | [] => 0
  | d :: ds => max (hgt d) (hgts ds)
end
theorem hgt_at : ∀ {ds : List D} {i : Nat} {d : D}, ds[i]? = some d → hgt d ≤ hgts ds
  | [], i, d, e => by simp at e
  | d :: ds, 0, d', e => by simp at e; subst e; simp only [hgts]; omega
  | d :: ds, i + 1, d', e => by
    have := hgt_at (i := i) (ds := ds) (d := d') (by simpa using e)
    simp only [hgts]; omega
theorem eqDs_all : ∀ (as bs : List D) (e : Nat → Bool), as.length = bs.length → (∀ (i : Nat) a b, as[i]? = some a → bs[i]? = some b → e i = eqD a b) → (List.range as.length).all e = eqDs as bs
  | [], [], e, _, _ => rfl
  | a :: as, b :: bs, e, hl, h => by
    rw [List.length_cons, List.range_succ_eq_map, List.all_cons, List.all_map]
    have h0 := h 0 a b rfl rfl
    have ih := eqDs_all as bs (fun i => e (i + 1)) (by simpa using hl) fun i x y hx hy => h (i + 1) x y (by simpa using hx) (by simpa using hy)
    rw [h0]
    show (eqD a b && (List.range as.length).all (fun i => e (i + 1))) = _
    rw [ih, eqDs]
  | [], b :: bs, e, hl, _ => by simp at hl
  | a :: as, [], e, hl, _ => by simp at hl
theorem eqDs_len : ∀ (as bs : List D), as.length ≠ bs.length → eqDs as bs = false
  | [], [], h => absurd rfl h
  | a :: as, b :: bs, h => by
    rw [eqDs, eqDs_len as bs (by simpa using h), Bool.and_false]
  | [], b :: bs, _ => rfl
  | a :: as, [], _ => rfl
mutual
theorem eqD_refl : ∀ d : D, eqD d d = true
  | .non => rfl
  | .bl b => by simp [eqD]
  | .int i => by simp [eqD]
  | .str x => by simp [eqD]
  | .tup ds => by rw [eqD]; exact eqDs_refl ds
  | .lst ds => by rw [eqD]; exact eqDs_refl ds
theorem eqDs_refl : ∀ ds : List D, eqDs ds ds = true
  | [] => rfl
  | d :: ds => by rw [eqDs, eqD_refl d, eqDs_refl ds]; rfl
end
section
variable {X : Cx} {pins : List (Addr × Obj)} {σ : St} {H : Hp} {s : Shared}
mutual
theorem Inv.rep_inj (I : Inv X pins σ H s) : ∀ {d d' : D} {v : V}, Rep X.K H d v → Rep X.K H d' v → d = d'
  | .non, d', v, h, h' => by
    cases (show v = V.non from h)
    cases d' <;> first | (obtain ⟨_, _, z, _⟩ := h'; cases z; done) | rfl | (cases h'; done)
  | .bl b, d', v, h, h' => by
    cases (show v = V.bl b from h)
    cases d' <;> first | (obtain ⟨_, _, z, _⟩ := h'; cases z; done) | (cases h'; rfl) | (cases h'; done)
  | .int b, d', v, h, h' => by
    cases (show v = V.int b from h)
    cases d' <;> first | (obtain ⟨_, _, z, _⟩ := h'; cases z; done) | (cases h'; rfl) | (cases h'; done)
  | .str b, d', v, h, h' => by
    cases (show v = V.str b from h)
    cases d' <;> first | (obtain ⟨_, _, z, _⟩ := h'; cases z; done) | (cases h'; rfl) | (cases h'; done)
  | .tup ds, d', v, h, h' => by
    obtain ⟨a, xs, rfl, h1, h2⟩ := h
    cases d' with
    | tup ds' =>
      obtain ⟨b, ys, e, h1', h2'⟩ := h'
      cases e
      have := I.tuple_inj h1 h1'
      subst this
      rw [Inv.reps_inj I h2 h2']
    | lst ds' =>
      obtain ⟨b, ys, e, h1', h2'⟩ := h'
      cases e
      obtain ⟨its, _, ⟨o, e1, c1, _⟩, _⟩ := I.tuple h1
      obtain ⟨its', _, ⟨o', n, e2, c2, _⟩, _⟩ := I.list h1'
      rw [e1] at e2; cases e2
      rw [c1] at c2; exact absurd c2 (by decide +kernel)
    | _ => cases h'
  | .lst ds, d', v, h, h' => by
    obtain ⟨a, xs, rfl, h1, h2⟩ := h
    cases d' with
    | lst ds' =>
      obtain ⟨b, ys, e, h1', h2'⟩ := h'
      cases e
      have := I.list_inj h1 h1'
      subst this
      rw [Inv.reps_inj I h2 h2']
    | tup ds' =>
      obtain ⟨b, ys, e, h1', h2'⟩ := h'
      cases e
      obtain ⟨its, _, ⟨o, n, e1, c1, _⟩, _⟩ := I.list h1
      obtain ⟨its', _, ⟨o', e2, c2, _⟩, _⟩ := I.tuple h1'
      rw [e1] at e2; cases e2
      rw [c1] at c2; exact absurd c2 (by decide +kernel)
    | _ => cases h'
theorem Inv.reps_inj (I : Inv X pins σ H s) : ∀ {ds ds' : List D} {xs : List V}, Reps X.K H ds xs → Reps X.K H ds' xs → ds = ds'
  | [], [], _, _, _ => rfl
  | [], d :: ds, xs, h, h' => by
    obtain ⟨x, r, e, _⟩ := h'
    rw [show xs = [] from h] at e; cases e
  | d :: ds, [], xs, h, h' => by
    obtain ⟨x, r, e, _⟩ := h
    rw [show xs = [] from h'] at e; cases e
  | d :: ds, d' :: ds', xs, h, h' => by
    obtain ⟨x, r, rfl, h1, h2⟩ := h
    obtain ⟨y, r', e, h1', h2'⟩ := h'
    cases e
    rw [Inv.rep_inj I h1 h1', Inv.reps_inj I h2 h2']
end
open PySem.SeqAt
theorem Inv.rcTup (I : Inv X pins σ H s) (A : Around) {ds ds' : List D} {a b : Addr} {xs ys : List V} (hit : ∀ (i : Nat) (d d' : D) (x y : V) (u u' : Value), ds[i]? = some d → ds'[i]? = some d' → Rep X.K H d x → Rep X.K H d' y → RelV x u → RelV y u' → EqAt A.in1 s u u' (eqD d d')) (h1 : SqT X.K H a xs) (h2 : Reps X.K H ds xs) (h1' : SqT X.K H b ys) (h2' : Reps X.K H ds' ys) (hu : A.units < cLine) : RcAt A s (.ref a) (.ref b) (eqDs ds ds') := by
    obtain ⟨its, r, p, _⟩ := I.tuple h1
    obtain ⟨its', r', p', _⟩ := I.tuple h1'
    have l1 := h2.length
    have l2 := h2'.length
    have l3 := r.length
    have l4 := r'.length
    have key := RcAt.tuples (e := fun j => match ds[j]?, ds'[j]? with | some d, some d' => eqD d d' | _, _ => false) p p' (A := A) (by omega) (fun j g1 g2 => by
      have g1' : j < its.length := by simpa using g1
      have g2' : j < its'.length := by simpa using g2
      have e1 : ds[j]? = some ds[j] := List.getElem?_eq_getElem (by omega)
      have e2 : ds'[j]? = some ds'[j] := List.getElem?_eq_getElem (by omega)
      show EqAt A.in1 s _ _ (match ds[j]?, ds'[j]? with | some d, some d' => eqD d d' | _, _ => false)
      rw [e1, e2]
      obtain ⟨x, hx, rx⟩ := h2.at e1
      obtain ⟨y, hy, ry⟩ := h2'.at e2
      obtain ⟨u, hu1, ru⟩ := r.get hx
      obtain ⟨u', hu2, ru'⟩ := r'.get hy
      have q1 : its.toArray[j] = u := by have : its[j]? = some its[j] := List.getElem?_eq_getElem g1'; rw [this] at hu1; simpa using hu1
      have q2 : its'.toArray[j] = u' := by have : its'[j]? = some its'[j] := List.getElem?_eq_getElem g2'; rw [this] at hu2; simpa using hu2
      rw [q1, q2]
      exact hit j _ _ x y u u' e1 e2 rx ry ru ru')
    have hs : its.toArray.size = ds.length := by simp; omega
    have hs' : its'.toArray.size = ds'.length := by simp; omega
    rw [hs, hs'] at key
    by_cases hl : ds.length = ds'.length
    · have e : ((List.range (min ds.length ds'.length)).all (fun j => match ds[j]?, ds'[j]? with | some d, some d' => eqD d d' | _, _ => false) && ds.length == ds'.length) = eqDs ds ds' := by
        rw [← hl, Nat.min_self, beq_self_eq_true, Bool.and_true]
        refine eqDs_all ds ds' _ hl fun i x y hx hy => ?_
        simp only [hx, hy]
      rw [e] at key
      exact key
    · have e : ((List.range (min ds.length ds'.length)).all (fun j => match ds[j]?, ds'[j]? with | some d, some d' => eqD d d' | _, _ => false) && ds.length == ds'.length) = eqDs ds ds' := by
        rw [eqDs_len ds ds' hl, beq_eq_false_iff_ne.mpr hl, Bool.and_false]
      rw [e] at key
      exact key
theorem Inv.rcLst (I : Inv X pins σ H s) (A : Around) {ds ds' : List D} {a b : Addr} {xs ys : List V} (hit : ∀ (i : Nat) (d d' : D) (x y : V) (u u' : Value), ds[i]? = some d → ds'[i]? = some d' → Rep X.K H d x → Rep X.K H d' y → RelV x u → RelV y u' → EqAt A.in1 s u u' (eqD d d')) (h1 : SqL X.K H a xs) (h2 : Reps X.K H ds xs) (h1' : SqL X.K H b ys) (h2' : Reps X.K H ds' ys) (hu : A.units < cLine) : RcAt A s (.ref a) (.ref b) (eqDs ds ds') := by
    obtain ⟨its, r, p, _⟩ := I.list h1
    obtain ⟨its', r', p', _⟩ := I.list h1'
    have l1 := h2.length
    have l2 := h2'.length
    have l3 := r.length
    have l4 := r'.length
    by_cases hl : ds.length = ds'.length
    · have key := RcAt.lists (e := fun j => match ds[j]?, ds'[j]? with | some d, some d' => eqD d d' | _, _ => false) p.isList p'.isList (A := A) (by simp; omega) (by omega) (fun j g1 g2 => by
        have g1' : j < its.length := by simpa using g1
        have g2' : j < its'.length := by simpa using g2
        have e1 : ds[j]? = some ds[j] := List.getElem?_eq_getElem (by omega)
        have e2 : ds'[j]? = some ds'[j] := List.getElem?_eq_getElem (by omega)
        show EqAt A.in1 s _ _ (match ds[j]?, ds'[j]? with | some d, some d' => eqD d d' | _, _ => false)
        rw [e1, e2]
        obtain ⟨x, hx, rx⟩ := h2.at e1
        obtain ⟨y, hy, ry⟩ := h2'.at e2
        obtain ⟨u, hu1, ru⟩ := r.get hx
        obtain ⟨u', hu2, ru'⟩ := r'.get hy
        have q1 : its.toArray[j] = u := by have : its[j]? = some its[j] := List.getElem?_eq_getElem g1'; rw [this] at hu1; simpa using hu1
        have q2 : its'.toArray[j] = u' := by have : its'[j]? = some its'[j] := List.getElem?_eq_getElem g2'; rw [this] at hu2; simpa using hu2
        rw [q1, q2]
        exact hit j _ _ x y u u' e1 e2 rx ry ru ru')
      have hs : its.toArray.size = ds.length := by simp; omega
      rw [hs, eqDs_all ds ds' _ hl fun i x y hx hy => by simp only [hx, hy]] at key
      exact key
    · have key := RcAt.lists_lengths p.isList p'.isList (A := A) (by simp; omega) (by omega)
      rw [eqDs_len ds ds' hl]
      exact key
theorem Inv.eqAt1 (I : Inv X pins σ H s) {n : Nat} (A : Around) (hit : ∀ (m : Nat) (ds ds' : List D) (i : Nat) (d d' : D) (x y : V) (u u' : Value), n = m + 1 → hgts ds ≤ m → ds[i]? = some d → ds'[i]? = some d' → Rep X.K H d x → Rep X.K H d' y → RelV x u → RelV y u' → EqAt A.in1 s u u' (eqD d d')) :
    ∀ (d d' : D) (v v' : V) (u u' : Value), Rep X.K H d v → Rep X.K H d' v' → RelV v u → RelV v' u' → hgt d ≤ n → A.units + n + 1 < cLine → EqAt A s u u' (eqD d d')
  | .tup ds, .tup ds', v, v', u, u', h, h', r, r', hn, hu => by
    obtain ⟨a, xs, rfl, h1, h2⟩ := id h
    obtain ⟨b, ys, rfl, h1', h2'⟩ := id h'
    cases r; cases r'
    rw [hgt] at hn
    by_cases z : a = b
    · subst z
      have e := I.rep_inj h h'
      rw [← e, eqD_refl]
      exact EqAt.same _
    · rw [eqD]
      exact EqAt.of_refs z (Inv.rcTup I A (fun i d d' x y u u' e1 e2 rx ry ru ru' => hit (n - 1) ds ds' i d d' x y u u' (by omega) (by omega) e1 e2 rx ry ru ru') h1 h2 h1' h2' (by omega))
  | .lst ds, .lst ds', v, v', u, u', h, h', r, r', hn, hu => by
    obtain ⟨a, xs, rfl, h1, h2⟩ := id h
    obtain ⟨b, ys, rfl, h1', h2'⟩ := id h'
    cases r; cases r'
    rw [hgt] at hn
    by_cases z : a = b
    · subst z
      have e := I.rep_inj h h'
      rw [← e, eqD_refl]
      exact EqAt.same _
    · rw [eqD]
      exact EqAt.of_refs z (Inv.rcLst I A (fun i d d' x y u u' e1 e2 rx ry ru ru' => hit (n - 1) ds ds' i d d' x y u u' (by omega) (by omega) e1 e2 rx ry ru ru') h1 h2 h1' h2' (by omega))
  | .tup ds, .lst ds', v, v', u, u', h, h', r, r', hn, hu => by
    obtain ⟨a, xs, rfl, h1, h2⟩ := id h
    obtain ⟨b, ys, rfl, h1', h2'⟩ := id h'
    cases r; cases r'
    obtain ⟨its, _, p, _⟩ := I.tuple h1
    obtain ⟨its', _, p', _⟩ := I.list h1'
    exact EqAt.tuple_list p p'.isList (by omega)
  | .lst ds, .tup ds', v, v', u, u', h, h', r, r', hn, hu => by
    obtain ⟨a, xs, rfl, h1, h2⟩ := id h
    obtain ⟨b, ys, rfl, h1', h2'⟩ := id h'
    cases r; cases r'
    obtain ⟨its, _, p, _⟩ := I.list h1
    obtain ⟨its', _, p', _⟩ := I.tuple h1'
    exact EqAt.list_tuple p.isList p' (by omega)
  | .tup ds, .non, v, v', u, u', h, h', r, r', hn, hu => by
    obtain ⟨a, xs, rfl, h1, h2⟩ := id h; cases (show v' = _ from h'); cases r; cases r'
    obtain ⟨its, _, p, _⟩ := I.tuple h1; exact EqAt.tuple_none p (by omega)
  | .tup ds, .bl _, v, v', u, u', h, h', r, r', hn, hu => by
    obtain ⟨a, xs, rfl, h1, h2⟩ := id h; cases (show v' = _ from h'); cases r; cases r'
    obtain ⟨its, _, p, _⟩ := I.tuple h1; exact EqAt.tuple_bool _ p (by omega)
  | .tup ds, .int _, v, v', u, u', h, h', r, r', hn, hu => by
    obtain ⟨a, xs, rfl, h1, h2⟩ := id h; cases (show v' = _ from h'); cases r; obtain ⟨t, rfl⟩ := r'
    obtain ⟨its, _, p, _⟩ := I.tuple h1; exact EqAt.tuple_int _ t p (by omega)
  | .tup ds, .str _, v, v', u, u', h, h', r, r', hn, hu => by
    obtain ⟨a, xs, rfl, h1, h2⟩ := id h; cases (show v' = _ from h'); cases r; obtain ⟨t, rfl⟩ := r'
    obtain ⟨its, _, p, _⟩ := I.tuple h1; exact EqAt.tuple_str _ t p (by omega)
  | .lst ds, .non, v, v', u, u', h, h', r, r', hn, hu => by
    obtain ⟨a, xs, rfl, h1, h2⟩ := id h; cases (show v' = _ from h'); cases r; cases r'
    obtain ⟨its, _, p, _⟩ := I.list h1; exact EqAt.list_none p.isList (by omega)
  | .lst ds, .bl _, v, v', u, u', h, h', r, r', hn, hu => by
    obtain ⟨a, xs, rfl, h1, h2⟩ := id h; cases (show v' = _ from h'); cases r; cases r'
    obtain ⟨its, _, p, _⟩ := I.list h1; exact EqAt.list_bool _ p.isList (by omega)
  | .lst ds, .int _, v, v', u, u', h, h', r, r', hn, hu => by
    obtain ⟨a, xs, rfl, h1, h2⟩ := id h; cases (show v' = _ from h'); cases r; obtain ⟨t, rfl⟩ := r'
    obtain ⟨its, _, p, _⟩ := I.list h1; exact EqAt.list_int _ t p.isList (by omega)
  | .lst ds, .str _, v, v', u, u', h, h', r, r', hn, hu => by
    obtain ⟨a, xs, rfl, h1, h2⟩ := id h; cases (show v' = _ from h'); cases r; obtain ⟨t, rfl⟩ := r'
    obtain ⟨its, _, p, _⟩ := I.list h1; exact EqAt.list_str _ t p.isList (by omega)
  | .non, .tup ds, v, v', u, u', h, h', r, r', hn, hu => by
    obtain ⟨a, xs, rfl, h1, h2⟩ := id h'; cases (show v = _ from h); cases r; cases r'
    obtain ⟨its, _, p, _⟩ := I.tuple h1; exact EqAt.none_tuple p (by omega)
  | .bl _, .tup ds, v, v', u, u', h, h', r, r', hn, hu => by
    obtain ⟨a, xs, rfl, h1, h2⟩ := id h'; cases (show v = _ from h); cases r; cases r'
    obtain ⟨its, _, p, _⟩ := I.tuple h1; exact EqAt.bool_tuple _ p (by omega)
  | .int _, .tup ds, v, v', u, u', h, h', r, r', hn, hu => by
    obtain ⟨a, xs, rfl, h1, h2⟩ := id h'; cases (show v = _ from h); cases r'; obtain ⟨t, rfl⟩ := r
    obtain ⟨its, _, p, _⟩ := I.tuple h1; exact EqAt.int_tuple _ t p (by omega)
  | .str _, .tup ds, v, v', u, u', h, h', r, r', hn, hu => by
    obtain ⟨a, xs, rfl, h1, h2⟩ := id h'; cases (show v = _ from h); cases r'; obtain ⟨t, rfl⟩ := r
    obtain ⟨its, _, p, _⟩ := I.tuple h1; exact EqAt.str_tuple _ t p (by omega)
  | .non, .lst ds, v, v', u, u', h, h', r, r', hn, hu => by
    obtain ⟨a, xs, rfl, h1, h2⟩ := id h'; cases (show v = _ from h); cases r; cases r'
    obtain ⟨its, _, p, _⟩ := I.list h1; exact EqAt.none_list p.isList (by omega)
  | .bl _, .lst ds, v, v', u, u', h, h', r, r', hn, hu => by
    obtain ⟨a, xs, rfl, h1, h2⟩ := id h'; cases (show v = _ from h); cases r; cases r'
    obtain ⟨its, _, p, _⟩ := I.list h1; exact EqAt.bool_list _ p.isList (by omega)
  | .int _, .lst ds, v, v', u, u', h, h', r, r', hn, hu => by
    obtain ⟨a, xs, rfl, h1, h2⟩ := id h'; cases (show v = _ from h); cases r'; obtain ⟨t, rfl⟩ := r
    obtain ⟨its, _, p, _⟩ := I.list h1; exact EqAt.int_list _ t p.isList (by omega)
  | .str _, .lst ds, v, v', u, u', h, h', r, r', hn, hu => by
    obtain ⟨a, xs, rfl, h1, h2⟩ := id h'; cases (show v = _ from h); cases r'; obtain ⟨t, rfl⟩ := r
    obtain ⟨its, _, p, _⟩ := I.list h1; exact EqAt.str_list _ t p.isList (by omega)
  | .non, .non, v, v', u, u', h, h', r, r', hn, hu => by cases (show v = _ from h); cases (show v' = _ from h'); exact eqAt_V r r' rfl rfl
  | .non, .bl _, v, v', u, u', h, h', r, r', hn, hu => by cases (show v = _ from h); cases (show v' = _ from h'); exact eqAt_V r r' rfl rfl
  | .non, .int _, v, v', u, u', h, h', r, r', hn, hu => by cases (show v = _ from h); cases (show v' = _ from h'); exact eqAt_V r r' rfl rfl
  | .non, .str _, v, v', u, u', h, h', r, r', hn, hu => by cases (show v = _ from h); cases (show v' = _ from h'); exact eqAt_V r r' rfl rfl
  | .bl _, .non, v, v', u, u', h, h', r, r', hn, hu => by cases (show v = _ from h); cases (show v' = _ from h'); exact eqAt_V r r' rfl rfl
  | .bl _, .bl _, v, v', u, u', h, h', r, r', hn, hu => by cases (show v = _ from h); cases (show v' = _ from h'); exact eqAt_V r r' rfl rfl
  | .bl _, .int _, v, v', u, u', h, h', r, r', hn, hu => by cases (show v = _ from h); cases (show v' = _ from h'); exact eqAt_V r r' rfl rfl
  | .bl _, .str _, v, v', u, u', h, h', r, r', hn, hu => by cases (show v = _ from h); cases (show v' = _ from h'); exact eqAt_V r r' rfl rfl
  | .int _, .non, v, v', u, u', h, h', r, r', hn, hu => by cases (show v = _ from h); cases (show v' = _ from h'); exact eqAt_V r r' rfl rfl
  | .int _, .bl _, v, v', u, u', h, h', r, r', hn, hu => by cases (show v = _ from h); cases (show v' = _ from h'); exact eqAt_V r r' rfl rfl
  | .int _, .int _, v, v', u, u', h, h', r, r', hn, hu => by cases (show v = _ from h); cases (show v' = _ from h'); exact eqAt_V r r' rfl rfl
  | .int _, .str _, v, v', u, u', h, h', r, r', hn, hu => by cases (show v = _ from h); cases (show v' = _ from h'); exact eqAt_V r r' rfl rfl
  | .str _, .non, v, v', u, u', h, h', r, r', hn, hu => by cases (show v = _ from h); cases (show v' = _ from h'); exact eqAt_V r r' rfl rfl
  | .str _, .bl _, v, v', u, u', h, h', r, r', hn, hu => by cases (show v = _ from h); cases (show v' = _ from h'); exact eqAt_V r r' rfl rfl
  | .str _, .int _, v, v', u, u', h, h', r, r', hn, hu => by cases (show v = _ from h); cases (show v' = _ from h'); exact eqAt_V r r' rfl rfl
  | .str _, .str _, v, v', u, u', h, h', r, r', hn, hu => by cases (show v = _ from h); cases (show v' = _ from h'); exact eqAt_V r r' rfl rfl
theorem Inv.eqAtN (I : Inv X pins σ H s) : ∀ (n : Nat) (A : Around) (d d' : D) (v v' : V) (u u' : Value), Rep X.K H d v → Rep X.K H d' v' → RelV v u → RelV v' u' → hgt d ≤ n → A.units + n + 1 < cLine → EqAt A s u u' (eqD d d') := by
  intro n
  induction n with
  | zero => exact fun A d d' v v' u u' h h' r r' hn hu => Inv.eqAt1 I A (fun m ds ds' i d d' x y u u' hm _ _ _ _ _ _ _ => absurd hm (by omega)) d d' v v' u u' h h' r r' hn hu
  | succ n ih =>
    exact fun A d d' v v' u u' h h' r r' hn hu => Inv.eqAt1 I A (fun m ds ds' i d d' x y u u' hm hd e1 e2 rx ry ru ru' => ih A.in1 d d' x y u u' rx ry ru ru' (by have := hgt_at e1; omega) (by show A.units + 1 + n + 1 < cLine; omega)) d d' v v' u u' h h' r r' hn hu
end
end L2
namespace L2
open PySem PySem.Spec PyProof.Rows PySem.SeqAt
section
variable {X : Cx} {pins : List (Addr × Obj)} {σ : St} {H : Hp} {s : Shared}
theorem Inv.neTup (I : Inv X pins σ H s) (A : Around) {ds ds' : List D} {a b : Addr} {xs ys : List V} (hit : ∀ (i : Nat) (d d' : D) (x y : V) (u u' : Value), ds[i]? = some d → ds'[i]? = some d' → Rep X.K H d x → Rep X.K H d' y → RelV x u → RelV y u' → EqAt A.in1 s u u' (eqD d d'))
    (h1 : SqT X.K H a xs) (h2 : Reps X.K H ds xs) (h1' : SqT X.K H b ys) (h2' : Reps X.K H ds' ys) (hu : A.units < cLine) : RcNeAt A s (.ref a) (.ref b) (!eqDs ds ds') := by
  obtain ⟨its, r, p, _⟩ := I.tuple h1
  obtain ⟨its', r', p', _⟩ := I.tuple h1'
  have l1 := h2.length
  have l2 := h2'.length
  have l3 := r.length
  have l4 := r'.length
  have key := RcNeAt.tuples (e := fun j => match ds[j]?, ds'[j]? with | some d, some d' => eqD d d' | _, _ => false) p p' (A := A) hu (fun j g1 g2 => by
    have g1' : j < its.length := by simpa using g1
    have g2' : j < its'.length := by simpa using g2
    have e1 : ds[j]? = some ds[j] := List.getElem?_eq_getElem (by omega)
    have e2 : ds'[j]? = some ds'[j] := List.getElem?_eq_getElem (by omega)
    show EqAt A.in1 s _ _ (match ds[j]?, ds'[j]? with | some d, some d' => eqD d d' | _, _ => false)
    rw [e1, e2]
    obtain ⟨x, hx, rx⟩ := h2.at e1
    obtain ⟨y, hy, ry⟩ := h2'.at e2
    obtain ⟨u, hu1, ru⟩ := r.get hx
    obtain ⟨u', hu2, ru'⟩ := r'.get hy
    have q1 : its.toArray[j] = u := by have : its[j]? = some its[j] := List.getElem?_eq_getElem g1'; rw [this] at hu1; simpa using hu1
    have q2 : its'.toArray[j] = u' := by have : its'[j]? = some its'[j] := List.getElem?_eq_getElem g2'; rw [this] at hu2; simpa using hu2
    rw [q1, q2]
    exact hit j _ _ x y u u' e1 e2 rx ry ru ru')
  have hs : its.toArray.size = ds.length := by simp; omega
  have hs' : its'.toArray.size = ds'.length := by simp; omega
  rw [hs, hs'] at key
  have e : ((List.range (min ds.length ds'.length)).all (fun j => match ds[j]?, ds'[j]? with | some d, some d' => eqD d d' | _, _ => false) && ds.length == ds'.length) = eqDs ds ds' := by
    by_cases hl : ds.length = ds'.length
    · rw [← hl, Nat.min_self, beq_self_eq_true, Bool.and_true]
      refine eqDs_all ds ds' _ hl fun i x y hx hy => ?_
      simp only [hx, hy]
    · rw [eqDs_len ds ds' hl, beq_eq_false_iff_ne.mpr hl, Bool.and_false]
  rw [e] at key
  exact key
theorem Inv.neLst (I : Inv X pins σ H s) (A : Around) {ds ds' : List D} {a b : Addr} {xs ys : List V} (hit : ∀ (i : Nat) (d d' : D) (x y : V) (u u' : Value), ds[i]? = some d → ds'[i]? = some d' → Rep X.K H d x → Rep X.K H d' y → RelV x u → RelV y u' → EqAt A.in1 s u u' (eqD d d'))
    (h1 : SqL X.K H a xs) (h2 : Reps X.K H ds xs) (h1' : SqL X.K H b ys) (h2' : Reps X.K H ds' ys) (hu : A.units < cLine) : RcNeAt A s (.ref a) (.ref b) (!eqDs ds ds') := by
  obtain ⟨its, r, p, _⟩ := I.list h1
  obtain ⟨its', r', p', _⟩ := I.list h1'
  have l1 := h2.length
  have l2 := h2'.length
  have l3 := r.length
  have l4 := r'.length
  by_cases hl : ds.length = ds'.length
  · have key := RcNeAt.lists (e := fun j => match ds[j]?, ds'[j]? with | some d, some d' => eqD d d' | _, _ => false) p.isList p'.isList (A := A) (by simp; omega) hu (fun j g1 g2 => by
      have g1' : j < its.length := by simpa using g1
      have g2' : j < its'.length := by simpa using g2
      have e1 : ds[j]? = some ds[j] := List.getElem?_eq_getElem (by omega)
      have e2 : ds'[j]? = some ds'[j] := List.getElem?_eq_getElem (by omega)
      show EqAt A.in1 s _ _ (match ds[j]?, ds'[j]? with | some d, some d' => eqD d d' | _, _ => false)
      rw [e1, e2]
      obtain ⟨x, hx, rx⟩ := h2.at e1
      obtain ⟨y, hy, ry⟩ := h2'.at e2
      obtain ⟨u, hu1, ru⟩ := r.get hx
      obtain ⟨u', hu2, ru'⟩ := r'.get hy
      have q1 : its.toArray[j] = u := by have : its[j]? = some its[j] := List.getElem?_eq_getElem g1'; rw [this] at hu1; simpa using hu1
      have q2 : its'.toArray[j] = u' := by have : its'[j]? = some its'[j] := List.getElem?_eq_getElem g2'; rw [this] at hu2; simpa using hu2
      rw [q1, q2]
      exact hit j _ _ x y u u' e1 e2 rx ry ru ru')
    have hs : its.toArray.size = ds.length := by simp; omega
    rw [hs, eqDs_all ds ds' _ hl fun i x y hx hy => by simp only [hx, hy]] at key
    exact key
  · have key := RcNeAt.lists_lengths p.isList p'.isList (A := A) (by simp; omega) hu
    rw [eqDs_len ds ds' hl]
    exact key
theorem Inv.rcD (I : Inv X pins σ H s) (A : Around) : ∀ (d d' : D) (v v' : V) (u u' : Value), Rep X.K H d v → Rep X.K H d' v' → RelV v u → RelV v' u' → A.units + hgt d + 1 < cLine → RcAt A s u u' (eqD d d')
  | .non, .non, v, v', u, u', h, h', r, r', hu => by cases (show v = _ from h); cases r; cases (show v' = _ from h'); cases r'; exact RcAt.none_none 
  | .non, .bl w2, v, v', u, u', h, h', r, r', hu => by cases (show v = _ from h); cases r; cases (show v' = _ from h'); cases r'; exact RcAt.none_bool _
  | .non, .int w2, v, v', u, u', h, h', r, r', hu => by cases (show v = _ from h); cases r; cases (show v' = _ from h'); obtain ⟨t', rfl⟩ := r'; exact RcAt.none_int _ t'
  | .non, .str w2, v, v', u, u', h, h', r, r', hu => by cases (show v = _ from h); cases r; cases (show v' = _ from h'); obtain ⟨t', rfl⟩ := r'; exact RcAt.none_str _ t'
  | .non, .tup ds', v, v', u, u', h, h', r, r', hu => by cases (show v = _ from h); cases r; obtain ⟨b, ys, rfl, h1', h2'⟩ := id h'; cases r'; obtain ⟨its', _, p', _⟩ := I.tuple h1'; exact RcAt.none_tuple  p' (by omega)
  | .non, .lst ds', v, v', u, u', h, h', r, r', hu => by cases (show v = _ from h); cases r; obtain ⟨b, ys, rfl, h1', h2'⟩ := id h'; cases r'; obtain ⟨its', _, p', _⟩ := I.list h1'; exact RcAt.none_list  p'.isList (by omega)
  | .bl w1, .non, v, v', u, u', h, h', r, r', hu => by cases (show v = _ from h); cases r; cases (show v' = _ from h'); cases r'; exact RcAt.bool_none _
  | .bl w1, .bl w2, v, v', u, u', h, h', r, r', hu => by cases (show v = _ from h); cases r; cases (show v' = _ from h'); cases r'; exact RcAt.bool_bool _ _
  | .bl w1, .int w2, v, v', u, u', h, h', r, r', hu => by cases (show v = _ from h); cases r; cases (show v' = _ from h'); obtain ⟨t', rfl⟩ := r'; exact RcAt.bool_int _ _ t'
  | .bl w1, .str w2, v, v', u, u', h, h', r, r', hu => by cases (show v = _ from h); cases r; cases (show v' = _ from h'); obtain ⟨t', rfl⟩ := r'; exact RcAt.bool_str _ _ t'
  | .bl w1, .tup ds', v, v', u, u', h, h', r, r', hu => by cases (show v = _ from h); cases r; obtain ⟨b, ys, rfl, h1', h2'⟩ := id h'; cases r'; obtain ⟨its', _, p', _⟩ := I.tuple h1'; exact RcAt.bool_tuple _ p' (by omega)
  | .bl w1, .lst ds', v, v', u, u', h, h', r, r', hu => by cases (show v = _ from h); cases r; obtain ⟨b, ys, rfl, h1', h2'⟩ := id h'; cases r'; obtain ⟨its', _, p', _⟩ := I.list h1'; exact RcAt.bool_list _ p'.isList (by omega)
  | .int w1, .non, v, v', u, u', h, h', r, r', hu => by cases (show v = _ from h); obtain ⟨t, rfl⟩ := r; cases (show v' = _ from h'); cases r'; exact RcAt.int_none _ t
  | .int w1, .bl w2, v, v', u, u', h, h', r, r', hu => by cases (show v = _ from h); obtain ⟨t, rfl⟩ := r; cases (show v' = _ from h'); cases r'; exact RcAt.int_bool _ t _
  | .int w1, .int w2, v, v', u, u', h, h', r, r', hu => by cases (show v = _ from h); obtain ⟨t, rfl⟩ := r; cases (show v' = _ from h'); obtain ⟨t', rfl⟩ := r'; exact RcAt.int_int _ t _ t'
  | .int w1, .str w2, v, v', u, u', h, h', r, r', hu => by cases (show v = _ from h); obtain ⟨t, rfl⟩ := r; cases (show v' = _ from h'); obtain ⟨t', rfl⟩ := r'; exact RcAt.int_str _ t _ t'
  | .int w1, .tup ds', v, v', u, u', h, h', r, r', hu => by cases (show v = _ from h); obtain ⟨t, rfl⟩ := r; obtain ⟨b, ys, rfl, h1', h2'⟩ := id h'; cases r'; obtain ⟨its', _, p', _⟩ := I.tuple h1'; exact RcAt.int_tuple _ t p' (by omega)
  | .int w1, .lst ds', v, v', u, u', h, h', r, r', hu => by cases (show v = _ from h); obtain ⟨t, rfl⟩ := r; obtain ⟨b, ys, rfl, h1', h2'⟩ := id h'; cases r'; obtain ⟨its', _, p', _⟩ := I.list h1'; exact RcAt.int_list _ t p'.isList (by omega)
  | .str w1, .non, v, v', u, u', h, h', r, r', hu => by cases (show v = _ from h); obtain ⟨t, rfl⟩ := r; cases (show v' = _ from h'); cases r'; exact RcAt.str_none _ t
  | .str w1, .bl w2, v, v', u, u', h, h', r, r', hu => by cases (show v = _ from h); obtain ⟨t, rfl⟩ := r; cases (show v' = _ from h'); cases r'; exact RcAt.str_bool _ t _
  | .str w1, .int w2, v, v', u, u', h, h', r, r', hu => by cases (show v = _ from h); obtain ⟨t, rfl⟩ := r; cases (show v' = _ from h'); obtain ⟨t', rfl⟩ := r'; exact RcAt.str_int _ t _ t'
  | .str w1, .str w2, v, v', u, u', h, h', r, r', hu => by cases (show v = _ from h); obtain ⟨t, rfl⟩ := r; cases (show v' = _ from h'); obtain ⟨t', rfl⟩ := r'; exact RcAt.str_str _ t _ t'
  | .str w1, .tup ds', v, v', u, u', h, h', r, r', hu => by cases (show v = _ from h); obtain ⟨t, rfl⟩ := r; obtain ⟨b, ys, rfl, h1', h2'⟩ := id h'; cases r'; obtain ⟨its', _, p', _⟩ := I.tuple h1'; exact RcAt.str_tuple _ t p' (by omega)
  | .str w1, .lst ds', v, v', u, u', h, h', r, r', hu => by cases (show v = _ from h); obtain ⟨t, rfl⟩ := r; obtain ⟨b, ys, rfl, h1', h2'⟩ := id h'; cases r'; obtain ⟨its', _, p', _⟩ := I.list h1'; exact RcAt.str_list _ t p'.isList (by omega)
  | .tup ds, .non, v, v', u, u', h, h', r, r', hu => by obtain ⟨a, xs, rfl, h1, h2⟩ := id h; cases r; cases (show v' = _ from h'); cases r'; obtain ⟨its, _, p, _⟩ := I.tuple h1; exact RcAt.tuple_none  p (by omega)
  | .tup ds, .bl w2, v, v', u, u', h, h', r, r', hu => by obtain ⟨a, xs, rfl, h1, h2⟩ := id h; cases r; cases (show v' = _ from h'); cases r'; obtain ⟨its, _, p, _⟩ := I.tuple h1; exact RcAt.tuple_bool _ p (by omega)
  | .tup ds, .int w2, v, v', u, u', h, h', r, r', hu => by obtain ⟨a, xs, rfl, h1, h2⟩ := id h; cases r; cases (show v' = _ from h'); obtain ⟨t', rfl⟩ := r'; obtain ⟨its, _, p, _⟩ := I.tuple h1; exact RcAt.tuple_int _ t' p (by omega)
  | .tup ds, .str w2, v, v', u, u', h, h', r, r', hu => by obtain ⟨a, xs, rfl, h1, h2⟩ := id h; cases r; cases (show v' = _ from h'); obtain ⟨t', rfl⟩ := r'; obtain ⟨its, _, p, _⟩ := I.tuple h1; exact RcAt.tuple_str _ t' p (by omega)
  | .tup ds, .tup ds', v, v', u, u', h, h', r, r', hu => by obtain ⟨a, xs, rfl, h1, h2⟩ := id h; cases r; obtain ⟨b, ys, rfl, h1', h2'⟩ := id h'; cases r'; rw [eqD]; exact Inv.rcTup I A (fun i d d' x y u u' e1 e2 rx ry ru ru' => Inv.eqAtN I (hgts ds) A.in1 d d' x y u u' rx ry ru ru' (hgt_at e1) (by rw [hgt] at hu; show A.units + 1 + hgts ds + 1 < cLine; omega)) h1 h2 h1' h2' (by omega)
  | .tup ds, .lst ds', v, v', u, u', h, h', r, r', hu => by obtain ⟨a, xs, rfl, h1, h2⟩ := id h; cases r; obtain ⟨b, ys, rfl, h1', h2'⟩ := id h'; cases r'; obtain ⟨its, _, p, _⟩ := I.tuple h1; obtain ⟨its', _, p', _⟩ := I.list h1'; exact RcAt.tuple_list  p p'.isList (by omega)
  | .lst ds, .non, v, v', u, u', h, h', r, r', hu => by obtain ⟨a, xs, rfl, h1, h2⟩ := id h; cases r; cases (show v' = _ from h'); cases r'; obtain ⟨its, _, p, _⟩ := I.list h1; exact RcAt.list_none  p.isList (by omega)
  | .lst ds, .bl w2, v, v', u, u', h, h', r, r', hu => by obtain ⟨a, xs, rfl, h1, h2⟩ := id h; cases r; cases (show v' = _ from h'); cases r'; obtain ⟨its, _, p, _⟩ := I.list h1; exact RcAt.list_bool _ p.isList (by omega)
  | .lst ds, .int w2, v, v', u, u', h, h', r, r', hu => by obtain ⟨a, xs, rfl, h1, h2⟩ := id h; cases r; cases (show v' = _ from h'); obtain ⟨t', rfl⟩ := r'; obtain ⟨its, _, p, _⟩ := I.list h1; exact RcAt.list_int _ t' p.isList (by omega)
  | .lst ds, .str w2, v, v', u, u', h, h', r, r', hu => by obtain ⟨a, xs, rfl, h1, h2⟩ := id h; cases r; cases (show v' = _ from h'); obtain ⟨t', rfl⟩ := r'; obtain ⟨its, _, p, _⟩ := I.list h1; exact RcAt.list_str _ t' p.isList (by omega)
  | .lst ds, .tup ds', v, v', u, u', h, h', r, r', hu => by obtain ⟨a, xs, rfl, h1, h2⟩ := id h; cases r; obtain ⟨b, ys, rfl, h1', h2'⟩ := id h'; cases r'; obtain ⟨its, _, p, _⟩ := I.list h1; obtain ⟨its', _, p', _⟩ := I.tuple h1'; exact RcAt.list_tuple  p.isList p' (by omega)
  | .lst ds, .lst ds', v, v', u, u', h, h', r, r', hu => by obtain ⟨a, xs, rfl, h1, h2⟩ := id h; cases r; obtain ⟨b, ys, rfl, h1', h2'⟩ := id h'; cases r'; rw [eqD]; exact Inv.rcLst I A (fun i d d' x y u u' e1 e2 rx ry ru ru' => Inv.eqAtN I (hgts ds) A.in1 d d' x y u u' rx ry ru ru' (hgt_at e1) (by rw [hgt] at hu; show A.units + 1 + hgts ds + 1 < cLine; omega)) h1 h2 h1' h2' (by omega)
theorem Inv.rcNeD (I : Inv X pins σ H s) (A : Around) : ∀ (d d' : D) (v v' : V) (u u' : Value), Rep X.K H d v → Rep X.K H d' v' → RelV v u → RelV v' u' → A.units + hgt d + 1 < cLine → RcNeAt A s u u' (!eqD d d')
  | .non, .non, v, v', u, u', h, h', r, r', hu => by cases (show v = _ from h); cases r; cases (show v' = _ from h'); cases r'; exact RcNeAt.none_none 
  | .non, .bl w2, v, v', u, u', h, h', r, r', hu => by cases (show v = _ from h); cases r; cases (show v' = _ from h'); cases r'; exact RcNeAt.none_bool _
  | .non, .int w2, v, v', u, u', h, h', r, r', hu => by cases (show v = _ from h); cases r; cases (show v' = _ from h'); obtain ⟨t', rfl⟩ := r'; exact RcNeAt.none_int _ t'
  | .non, .str w2, v, v', u, u', h, h', r, r', hu => by cases (show v = _ from h); cases r; cases (show v' = _ from h'); obtain ⟨t', rfl⟩ := r'; exact RcNeAt.none_str _ t'
  | .non, .tup ds', v, v', u, u', h, h', r, r', hu => by cases (show v = _ from h); cases r; obtain ⟨b, ys, rfl, h1', h2'⟩ := id h'; cases r'; obtain ⟨its', _, p', _⟩ := I.tuple h1'; exact RcNeAt.none_tuple  p' (by omega)
  | .non, .lst ds', v, v', u, u', h, h', r, r', hu => by cases (show v = _ from h); cases r; obtain ⟨b, ys, rfl, h1', h2'⟩ := id h'; cases r'; obtain ⟨its', _, p', _⟩ := I.list h1'; exact RcNeAt.none_list  p'.isList (by omega)
  | .bl w1, .non, v, v', u, u', h, h', r, r', hu => by cases (show v = _ from h); cases r; cases (show v' = _ from h'); cases r'; exact RcNeAt.bool_none _
  | .bl w1, .bl w2, v, v', u, u', h, h', r, r', hu => by cases (show v = _ from h); cases r; cases (show v' = _ from h'); cases r'; exact RcNeAt.bool_bool _ _
  | .bl w1, .int w2, v, v', u, u', h, h', r, r', hu => by cases (show v = _ from h); cases r; cases (show v' = _ from h'); obtain ⟨t', rfl⟩ := r'; exact RcNeAt.bool_int _ _ t'
  | .bl w1, .str w2, v, v', u, u', h, h', r, r', hu => by cases (show v = _ from h); cases r; cases (show v' = _ from h'); obtain ⟨t', rfl⟩ := r'; exact RcNeAt.bool_str _ _ t'
  | .bl w1, .tup ds', v, v', u, u', h, h', r, r', hu => by cases (show v = _ from h); cases r; obtain ⟨b, ys, rfl, h1', h2'⟩ := id h'; cases r'; obtain ⟨its', _, p', _⟩ := I.tuple h1'; exact RcNeAt.bool_tuple _ p' (by omega)
  | .bl w1, .lst ds', v, v', u, u', h, h', r, r', hu => by cases (show v = _ from h); cases r; obtain ⟨b, ys, rfl, h1', h2'⟩ := id h'; cases r'; obtain ⟨its', _, p', _⟩ := I.list h1'; exact RcNeAt.bool_list _ p'.isList (by omega)
  | .int w1, .non, v, v', u, u', h, h', r, r', hu => by cases (show v = _ from h); obtain ⟨t, rfl⟩ := r; cases (show v' = _ from h'); cases r'; exact RcNeAt.int_none _ t
  | .int w1, .bl w2, v, v', u, u', h, h', r, r', hu => by cases (show v = _ from h); obtain ⟨t, rfl⟩ := r; cases (show v' = _ from h'); cases r'; exact RcNeAt.int_bool _ t _
  | .int w1, .int w2, v, v', u, u', h, h', r, r', hu => by cases (show v = _ from h); obtain ⟨t, rfl⟩ := r; cases (show v' = _ from h'); obtain ⟨t', rfl⟩ := r'; exact RcNeAt.int_int _ t _ t'
  | .int w1, .str w2, v, v', u, u', h, h', r, r', hu => by cases (show v = _ from h); obtain ⟨t, rfl⟩ := r; cases (show v' = _ from h'); obtain ⟨t', rfl⟩ := r'; exact RcNeAt.int_str _ t _ t'
  | .int w1, .tup ds', v, v', u, u', h, h', r, r', hu => by cases (show v = _ from h); obtain ⟨t, rfl⟩ := r; obtain ⟨b, ys, rfl, h1', h2'⟩ := id h'; cases r'; obtain ⟨its', _, p', _⟩ := I.tuple h1'; exact RcNeAt.int_tuple _ t p' (by omega)
  | .int w1, .lst ds', v, v', u, u', h, h', r, r', hu => by cases (show v = _ from h); obtain ⟨t, rfl⟩ := r; obtain ⟨b, ys, rfl, h1', h2'⟩ := id h'; cases r'; obtain ⟨its', _, p', _⟩ := I.list h1'; exact RcNeAt.int_list _ t p'.isList (by omega)
  | .str w1, .non, v, v', u, u', h, h', r, r', hu => by cases (show v = _ from h); obtain ⟨t, rfl⟩ := r; cases (show v' = _ from h'); cases r'; exact RcNeAt.str_none _ t
  | .str w1, .bl w2, v, v', u, u', h, h', r, r', hu => by cases (show v = _ from h); obtain ⟨t, rfl⟩ := r; cases (show v' = _ from h'); cases r'; exact RcNeAt.str_bool _ t _
  | .str w1, .int w2, v, v', u, u', h, h', r, r', hu => by cases (show v = _ from h); obtain ⟨t, rfl⟩ := r; cases (show v' = _ from h'); obtain ⟨t', rfl⟩ := r'; exact RcNeAt.str_int _ t _ t'
  | .str w1, .str w2, v, v', u, u', h, h', r, r', hu => by cases (show v = _ from h); obtain ⟨t, rfl⟩ := r; cases (show v' = _ from h'); obtain ⟨t', rfl⟩ := r'; exact RcNeAt.str_str _ t _ t'
  | .str w1, .tup ds', v, v', u, u', h, h', r, r', hu => by cases (show v = _ from h); obtain ⟨t, rfl⟩ := r; obtain ⟨b, ys, rfl, h1', h2'⟩ := id h'; cases r'; obtain ⟨its', _, p', _⟩ := I.tuple h1'; exact RcNeAt.str_tuple _ t p' (by omega)
  | .str w1, .lst ds', v, v', u, u', h, h', r, r', hu => by cases (show v = _ from h); obtain ⟨t, rfl⟩ := r; obtain ⟨b, ys, rfl, h1', h2'⟩ := id h'; cases r'; obtain ⟨its', _, p', _⟩ := I.list h1'; exact RcNeAt.str_list _ t p'.isList (by omega)
  | .tup ds, .non, v, v', u, u', h, h', r, r', hu => by obtain ⟨a, xs, rfl, h1, h2⟩ := id h; cases r; cases (show v' = _ from h'); cases r'; obtain ⟨its, _, p, _⟩ := I.tuple h1; exact RcNeAt.tuple_none  p (by omega)
  | .tup ds, .bl w2, v, v', u, u', h, h', r, r', hu => by obtain ⟨a, xs, rfl, h1, h2⟩ := id h; cases r; cases (show v' = _ from h'); cases r'; obtain ⟨its, _, p, _⟩ := I.tuple h1; exact RcNeAt.tuple_bool _ p (by omega)
  | .tup ds, .int w2, v, v', u, u', h, h', r, r', hu => by obtain ⟨a, xs, rfl, h1, h2⟩ := id h; cases r; cases (show v' = _ from h'); obtain ⟨t', rfl⟩ := r'; obtain ⟨its, _, p, _⟩ := I.tuple h1; exact RcNeAt.tuple_int _ t' p (by omega)
  | .tup ds, .str w2, v, v', u, u', h, h', r, r', hu => by obtain ⟨a, xs, rfl, h1, h2⟩ := id h; cases r; cases (show v' = _ from h'); obtain ⟨t', rfl⟩ := r'; obtain ⟨its, _, p, _⟩ := I.tuple h1; exact RcNeAt.tuple_str _ t' p (by omega)
  | .tup ds, .tup ds', v, v', u, u', h, h', r, r', hu => by obtain ⟨a, xs, rfl, h1, h2⟩ := id h; cases r; obtain ⟨b, ys, rfl, h1', h2'⟩ := id h'; cases r'; rw [eqD]; exact Inv.neTup I A (fun i d d' x y u u' e1 e2 rx ry ru ru' => Inv.eqAtN I (hgts ds) A.in1 d d' x y u u' rx ry ru ru' (hgt_at e1) (by rw [hgt] at hu; show A.units + 1 + hgts ds + 1 < cLine; omega)) h1 h2 h1' h2' (by omega)
  | .tup ds, .lst ds', v, v', u, u', h, h', r, r', hu => by obtain ⟨a, xs, rfl, h1, h2⟩ := id h; cases r; obtain ⟨b, ys, rfl, h1', h2'⟩ := id h'; cases r'; obtain ⟨its, _, p, _⟩ := I.tuple h1; obtain ⟨its', _, p', _⟩ := I.list h1'; exact RcNeAt.tuple_list  p p'.isList (by omega)
  | .lst ds, .non, v, v', u, u', h, h', r, r', hu => by obtain ⟨a, xs, rfl, h1, h2⟩ := id h; cases r; cases (show v' = _ from h'); cases r'; obtain ⟨its, _, p, _⟩ := I.list h1; exact RcNeAt.list_none  p.isList (by omega)
  | .lst ds, .bl w2, v, v', u, u', h, h', r, r', hu => by obtain ⟨a, xs, rfl, h1, h2⟩ := id h; cases r; cases (show v' = _ from h'); cases r'; obtain ⟨its, _, p, _⟩ := I.list h1; exact RcNeAt.list_bool _ p.isList (by omega)
  | .lst ds, .int w2, v, v', u, u', h, h', r, r', hu => by obtain ⟨a, xs, rfl, h1, h2⟩ := id h; cases r; cases (show v' = _ from h'); obtain ⟨t', rfl⟩ := r'; obtain ⟨its, _, p, _⟩ := I.list h1; exact RcNeAt.list_int _ t' p.isList (by omega)
  | .lst ds, .str w2, v, v', u, u', h, h', r, r', hu => by obtain ⟨a, xs, rfl, h1, h2⟩ := id h; cases r; cases (show v' = _ from h'); obtain ⟨t', rfl⟩ := r'; obtain ⟨its, _, p, _⟩ := I.list h1; exact RcNeAt.list_str _ t' p.isList (by omega)
  | .lst ds, .tup ds', v, v', u, u', h, h', r, r', hu => by obtain ⟨a, xs, rfl, h1, h2⟩ := id h; cases r; obtain ⟨b, ys, rfl, h1', h2'⟩ := id h'; cases r'; obtain ⟨its, _, p, _⟩ := I.list h1; obtain ⟨its', _, p', _⟩ := I.tuple h1'; exact RcNeAt.list_tuple  p.isList p' (by omega)
  | .lst ds, .lst ds', v, v', u, u', h, h', r, r', hu => by obtain ⟨a, xs, rfl, h1, h2⟩ := id h; cases r; obtain ⟨b, ys, rfl, h1', h2'⟩ := id h'; cases r'; rw [eqD]; exact Inv.neLst I A (fun i d d' x y u u' e1 e2 rx ry ru ru' => Inv.eqAtN I (hgts ds) A.in1 d d' x y u u' rx ry ru ru' (hgt_at e1) (by rw [hgt] at hu; show A.units + 1 + hgts ds + 1 < cLine; omega)) h1 h2 h1' h2' (by omega)
noncomputable def rEqD (K : PySem.W.Frag) : R2 := fun x y H Q => ∃ d d', Rep K H d x ∧ Rep K H d' y ∧ hgt d ≤ 30 ∧ Q (.bl (eqD d d')) H
noncomputable def rNeD (K : PySem.W.Frag) : R2 := fun x y H Q => ∃ d d', Rep K H d x ∧ Rep K H d' y ∧ hgt d ≤ 30 ∧ Q (.bl (!eqD d d')) H
theorem op_eqD (hu : X.A.units + 40 < cLine) : OpR X (compareOp .Eq) (rEqD X.K) := by
  intro pins s σ H x y v u Q I rx ry h
  obtain ⟨d, d', h1, h2, hd, q⟩ := h
  exact I.rcD X.A d d' x y v u h1 h2 rx ry (by omega) _ _ _ _ (fin_bl I q rfl)
theorem op_neD (hu : X.A.units + 40 < cLine) : OpR X (compareOp .NotEq) (rNeD X.K) := by
  intro pins s σ H x y v u Q I rx ry h
  obtain ⟨d, d', h1, h2, hd, q⟩ := h
  exact I.rcNeD X.A d d' x y v u h1 h2 rx ry (by omega) _ _ _ _ (fin_bl I q rfl)
end
end L2
namespace Q
open PySem PySem.W PyProof.Rows
noncomputable def run {α : Type} (lt : Nat → Nat → Bool) : KasT α → α
  | .ret a => a
  | .ask i j k => run lt (k (lt i j))
theorem run_bind {α β : Type} (lt : Nat → Nat → Bool) (f : α → KasT β) : ∀ t : KasT α, run lt (t.bind f) = run lt (f (run lt t))
  | .ret a => rfl
  | .ask i j k => run_bind lt f (k (lt i j))
noncomputable def okT {α : Type} (lt : Nat → Nat → Bool) (n : Nat) : KasT α → Prop
  | .ret _ => True
  | .ask i j k => (i < n ∧ j < n ∧ i ≠ j) ∧ okT lt n (k (lt i j))
theorem ok_bind {α β : Type} {lt : Nat → Nat → Bool} {n : Nat} {f : α → KasT β} : ∀ {t : KasT α}, okT lt n t → okT lt n (f (run lt t)) → okT lt n (t.bind f)
  | .ret a, _, h => h
  | .ask i j k, h, h' => ⟨h.1, ok_bind h.2 h'⟩
structure Tot (lt : Nat → Nat → Bool) (n : Nat) : Prop where
  tri : ∀ i j, i < n → j < n → i ≠ j → lt i j = !lt j i
  tr : ∀ i j k, i < n → j < n → k < n → lt i j = true → lt j k = true → lt i k = true
noncomputable abbrev at' (p : Array Nat) (i : Nat) : Nat := p.getD i 0
theorem at_eq (p : Array Nat) (i : Nat) : at' p i = (p[i]?).getD 0 := by simp [at', Array.getD_eq_getD_getElem?]
structure Pm (p : Array Nat) (n : Nat) : Prop where
  perm : p.Perm (List.range n).toArray
theorem Pm.size {p : Array Nat} {n : Nat} (h : Pm p n) : p.size = n := by rw [h.perm.size_eq]; simp
theorem Pm.lt {p : Array Nat} {n : Nat} (h : Pm p n) {i : Nat} (hi : i < n) : at' p i < n := by
  have hs : i < p.size := by rw [h.size]; exact hi
  have e : at' p i = p[i] := by simp [at', hs]
  have m : p[i] ∈ (List.range n).toArray := h.perm.mem_iff.mp (Array.getElem_mem hs)
  rw [e]
  simpa using m
theorem Pm.inj {p : Array Nat} {n : Nat} (h : Pm p n) {i j : Nat} (hi : i < n) (hj : j < n) (e : at' p i = at' p j) : i = j := by
  have hsi : i < p.size := by rw [h.size]; exact hi
  have hsj : j < p.size := by rw [h.size]; exact hj
  have nd : p.toList.Nodup := by
    have q : p.toList.Perm (List.range n) := by simpa using Array.perm_iff_toList_perm.mp h.perm
    exact q.nodup_iff.mpr List.nodup_range
  have e1 : at' p i = p.toList[i]'(by simpa using hsi) := by simp [at', hsi]
  have e2 : at' p j = p.toList[j]'(by simpa using hsj) := by simp [at', hsj]
  rw [e1, e2] at e
  exact (List.getElem_inj nd).mp e
theorem at_rev {p : Array Nat} {i j : Nat} (hj : j ≤ p.size) (k : Nat) : at' (kas_rev p i j) k = if i ≤ k ∧ k < j then at' p (i + j - 1 - k) else at' p k := by
  rw [at_eq]
  unfold kas_rev
  rw [getElem?_mirror_all hj]
  split <;> rw [at_eq]
theorem at_bub {p : Array Nat} {src d : Nat} (hs : src < p.size) (hd : d ≤ src) (k : Nat) : at' (bubble p src d) k = if k = src - d then at' p src else if src - d < k ∧ k ≤ src then at' p (k - 1) else at' p k := by
  rw [at_eq, getElem?_bubble hs d hd]
  split
  · simp [at', hs]
  · split <;> rw [at_eq]
theorem Pm.rev {p : Array Nat} {n i j : Nat} (h : Pm p n) : Pm (kas_rev p i j) n := ⟨(mirror_perm _ _ _ _).trans h.perm⟩
theorem Pm.bub {p : Array Nat} {n i j : Nat} (h : Pm p n) : Pm (bubble p i j) n := ⟨(bubble_perm _ _ _).trans h.perm⟩
noncomputable def Up (lt : Nat → Nat → Bool) (p : Array Nat) (m : Nat) : Prop := ∀ i j, i < j → j < m → lt (at' p i) (at' p j) = true
noncomputable def Dn (lt : Nat → Nat → Bool) (p : Array Nat) (m : Nat) : Prop := ∀ i j, i < j → j < m → lt (at' p j) (at' p i) = true
section
variable {lt : Nat → Nat → Bool} {N : Nat} {p : Array Nat}
theorem Tot.flip (T : Tot lt N) (P : Pm p N) {i j : Nat} (hi : i < N) (hj : j < N) (n : i ≠ j) (h : lt (at' p i) (at' p j) = false) : lt (at' p j) (at' p i) = true := by
  have q := T.tri _ _ (P.lt hi) (P.lt hj) fun e => n (P.inj hi hj e)
  rw [h] at q
  simpa using q.symm
theorem Pm.ask {p : Array Nat} (P : Pm p N) {i j : Nat} (hi : i < N) (hj : j < N) (n : i ≠ j) : at' p i < N ∧ at' p j < N ∧ at' p i ≠ at' p j := ⟨P.lt hi, P.lt hj, fun e => n (P.inj hi hj e)⟩
theorem Up.succ (T : Tot lt N) (P : Pm p N) {n : Nat} (h1 : 1 ≤ n) (hn : n < N) (u : Up lt p n) (h : lt (at' p (n - 1)) (at' p n) = true) : Up lt p (n + 1) := by
  intro i j hij hj
  by_cases e : j = n
  · subst e
    by_cases e2 : i = j - 1
    · subst e2; exact h
    · exact T.tr _ _ _ (P.lt (by omega)) (P.lt (by omega)) (P.lt hn) (u i (j - 1) (by omega) (by omega)) h
  · exact u i j hij (by omega)
theorem Dn.succ (T : Tot lt N) (P : Pm p N) {n : Nat} (h1 : 1 ≤ n) (hn : n < N) (u : Dn lt p n) (h : lt (at' p n) (at' p (n - 1)) = true) : Dn lt p (n + 1) := by
  intro i j hij hj
  by_cases e : j = n
  · subst e
    by_cases e2 : i = j - 1
    · subst e2; exact h
    · exact T.tr _ _ _ (P.lt hn) (P.lt (by omega)) (P.lt (by omega)) h (u i (j - 1) (by omega) (by omega))
  · exact u i j hij (by omega)
theorem run_asc (T : Tot lt N) (P : Pm p N) : ∀ (f n : Nat), 1 ≤ n → n + f ≤ N → Up lt p n → ∃ m, run lt (kas_asc p f n) = m ∧ n ≤ m ∧ m ≤ n + f ∧ Up lt p m ∧ (m = n + f ∨ lt (at' p m) (at' p (m - 1)) = true) ∧ okT lt N (kas_asc p f n)
  | 0, n, h1, h2, u => ⟨n, rfl, Nat.le_refl _, Nat.le_refl _, u, .inl rfl, trivial⟩
  | f + 1, n, h1, h2, u => by
    unfold kas_asc
    have hask := P.ask (i := n) (j := n - 1) (by omega) (by omega) (by omega)
    simp only [run, okT]
    by_cases c : lt (at' p n) (at' p (n - 1)) = true
    · rw [if_pos c]
      exact ⟨n, rfl, Nat.le_refl _, by omega, u, .inr c, hask, trivial⟩
    · rw [if_neg c]
      have c' : lt (at' p n) (at' p (n - 1)) = false := by simpa using c
      obtain ⟨m, e, a1, a2, a3, a4, a5⟩ := run_asc T P f (n + 1) (by omega) (by omega) (u.succ T P h1 (by omega) (T.flip P (by omega) (by omega) (by omega) c'))
      refine ⟨m, e, by omega, by omega, a3, ?_, hask, a5⟩
      rcases a4 with z | z
      · exact .inl (by omega)
      · exact .inr z
theorem run_desc (T : Tot lt N) (P : Pm p N) : ∀ (f n : Nat), 1 ≤ n → n + f ≤ N → Dn lt p n → ∃ m, run lt (kas_desc f p n 0) = (p, m, 0) ∧ n ≤ m ∧ m ≤ n + f ∧ Dn lt p m ∧ okT lt N (kas_desc f p n 0)
  | 0, n, h1, h2, u => ⟨n, rfl, Nat.le_refl _, Nat.le_refl _, u, trivial⟩
  | f + 1, n, h1, h2, u => by
    unfold kas_desc
    have hask := P.ask (i := n) (j := n - 1) (by omega) (by omega) (by omega)
    have hask2 := P.ask (i := n - 1) (j := n) (by omega) (by omega) (by omega)
    simp only [run, okT]
    by_cases c : lt (at' p n) (at' p (n - 1)) = true
    · rw [if_pos c, if_neg (Nat.lt_irrefl 0)]
      obtain ⟨m, e, a1, a2, a3, a4⟩ := run_desc T P f (n + 1) (by omega) (by omega) (u.succ T P h1 (by omega) c)
      exact ⟨m, e, by omega, by omega, a3, hask, a4⟩
    · rw [if_neg c]
      have c' : lt (at' p n) (at' p (n - 1)) = false := by simpa using c
      have d := T.flip P (by omega) (by omega) (by omega) c'
      simp only [run, okT]
      rw [if_pos d]
      exact ⟨n, rfl, Nat.le_refl _, by omega, u, hask, hask2, trivial⟩
theorem run_tail (T : Tot lt N) (P : Pm p N) {n : Nat} (h1 : 1 ≤ n) (hn : n ≤ N) (u : Dn lt p n) : ∃ m p', run lt (kas_tail3 n N p) = (m, p') ∧ 1 ≤ m ∧ m ≤ N ∧ Up lt p' m ∧ Pm p' N ∧ okT lt N (kas_tail3 n N p) := by
  have u' : Up lt (kas_rev p 0 n) n := by
    intro i j hij hj
    rw [at_rev (by rw [P.size]; exact hn), at_rev (by rw [P.size]; exact hn), if_pos ⟨Nat.zero_le _, by omega⟩, if_pos ⟨Nat.zero_le _, hj⟩]
    exact u _ _ (by omega) (by omega)
  obtain ⟨m, e, a1, a2, a3, _, a5⟩ := run_asc T P.rev (N - n) n h1 (by omega) u'
  unfold kas_tail3
  refine ⟨m, kas_rev p 0 n, ?_, by omega, by omega, a3, P.rev, ok_bind a5 trivial⟩
  rw [run_bind, e]
  rfl
theorem run_descPart (T : Tot lt N) (P : Pm p N) {n : Nat} (hn : n + 1 ≤ N) (u : Dn lt p (n + 1)) : ∃ m p', run lt (kas_descPart n N p) = (m, p') ∧ 1 ≤ m ∧ m ≤ N ∧ Up lt p' m ∧ Pm p' N ∧ okT lt N (kas_descPart n N p) := by
  obtain ⟨m, e, a1, a2, a3, a4⟩ := run_desc T P (N - (n + 1)) (n + 1) (by omega) (by omega) u
  obtain ⟨m2, p2, b1, b2, b3, b4, b5, b6⟩ := run_tail T P (by omega) (by omega) a3
  unfold kas_descPart
  refine ⟨m2, p2, ?_, b2, b3, b4, b5, ok_bind a4 ?_⟩
  · rw [run_bind, e]
    exact b1
  · rw [e]
    exact b6
theorem run_count (T : Tot lt N) (P : Pm p N) (hN : 1 ≤ N) : ∃ m p', run lt (kas_count N p) = (m, p') ∧ 1 ≤ m ∧ m ≤ N ∧ Up lt p' m ∧ Pm p' N ∧ okT lt N (kas_count N p) := by
  obtain ⟨m, e, a1, a2, a3, a4, a5⟩ := run_asc T P (N - 1) 1 (Nat.le_refl _) (by omega) (fun i j hij hj => by omega)
  have hmid : ∃ m' p', run lt (if (m == N) = true then KasT.ret (m, p) else if m > 1 then KasT.ask (p.getD 0 0) (p.getD (m - 1) 0) fun c => if c = true then KasT.ret (m, p) else kas_descPart m N (kas_rev p 0 m) else kas_descPart m N p) = (m', p') ∧ 1 ≤ m' ∧ m' ≤ N ∧ Up lt p' m' ∧ Pm p' N ∧
      okT lt N (if (m == N) = true then KasT.ret (m, p) else if m > 1 then KasT.ask (p.getD 0 0) (p.getD (m - 1) 0) fun c => if c = true then KasT.ret (m, p) else kas_descPart m N (kas_rev p 0 m) else kas_descPart m N p) := by
    by_cases c : m = N
    · rw [if_pos (by simpa using c)]
      exact ⟨m, p, rfl, a1, by omega, a3, P, trivial⟩
    · rw [if_neg (by simpa using c)]
      by_cases d : m > 1
      · rw [if_pos d]
        simp only [run, okT]
        rw [if_pos (a3 0 (m - 1) (by omega) (by omega))]
        exact ⟨m, p, rfl, a1, by omega, a3, P, P.ask (by omega) (by omega) (by omega), trivial⟩
      · rw [if_neg d]
        obtain rfl : m = 1 := by omega
        rcases a4 with z | z
        · omega
        · exact run_descPart T P (by omega) fun i j hij hj => by
            obtain rfl : j = 1 := by omega
            obtain rfl : i = 0 := by omega
            exact z
  obtain ⟨m', p', b1, b2, b3, b4, b5, b6⟩ := hmid
  unfold kas_count
  refine ⟨m', p', ?_, b2, b3, b4, b5, ok_bind a5 ?_⟩
  · rw [run_bind, e]
    exact b1
  · rw [e]
    exact b6
theorem run_place (T : Tot lt N) (P : Pm p N) {k : Nat} (hk : k < N) (u : Up lt p k) : ∀ (f l r : Nat), l ≤ r → r ≤ k → r - l ≤ f → (∀ i, i < l → lt (at' p i) (at' p k) = true) → (∀ i, r ≤ i → i < k → lt (at' p k) (at' p i) = true) →
    ∃ q, run lt (kas_place p k f l r) = q ∧ q ≤ k ∧ (∀ i, i < q → lt (at' p i) (at' p k) = true) ∧ (∀ i, q ≤ i → i < k → lt (at' p k) (at' p i) = true) ∧ okT lt N (kas_place p k f l r)
  | 0, l, r, h1, h2, h3, a, b => ⟨l, rfl, by omega, a, fun i hi => b i (by omega), trivial⟩
  | f + 1, l, r, h1, h2, h3, a, b => by
    unfold kas_place
    by_cases c : l ≥ r
    · rw [if_pos c]
      exact ⟨l, rfl, by omega, a, fun i hi => b i (by omega), trivial⟩
    · rw [if_neg c]
      have hask := P.ask (i := k) (j := (l + r) / 2) hk (by omega) (by omega)
      simp only [run, okT]
      by_cases d : lt (at' p k) (at' p ((l + r) / 2)) = true
      · rw [if_pos d]
        have key := run_place T P hk u f l ((l + r) / 2) (by omega) (by omega) (by omega) a fun i hi hik => ?_
        obtain ⟨q, y1, y2, y3, y4, y5⟩ := key
        exact ⟨q, y1, y2, y3, y4, hask, y5⟩
        by_cases e : i = (l + r) / 2
        · rw [e]; exact d
        · exact T.tr _ _ _ (P.lt hk) (P.lt (by omega)) (P.lt (by omega)) d (u _ _ (by omega) hik)
      · rw [if_neg d]
        have d' := T.flip P hk (by omega : (l + r) / 2 < N) (by omega) (by simpa using d)
        have key := run_place T P hk u f ((l + r) / 2 + 1) r (by omega) h2 (by omega) (fun i hi => ?_) b
        obtain ⟨q, y1, y2, y3, y4, y5⟩ := key
        exact ⟨q, y1, y2, y3, y4, hask, y5⟩
        by_cases e : i = (l + r) / 2
        · rw [e]; exact d'
        · exact T.tr _ _ _ (P.lt (by omega)) (P.lt (by omega)) (P.lt hk) (u _ _ (by omega) (by omega)) d'
end
theorem run_bin {lt : Nat → Nat → Bool} {N : Nat} (T : Tot lt N) : ∀ (f k : Nat) (p : Array Nat), Pm p N → k + f = N → Up lt p k → ∃ p', run lt (kas_bin f p k) = p' ∧ Up lt p' N ∧ Pm p' N ∧ okT lt N (kas_bin f p k)
  | 0, k, p, P, h, u => ⟨p, rfl, by rw [← h]; exact u, P, trivial⟩
  | f + 1, k, p, P, h, u => by
    have hk : k < N := by omega
    obtain ⟨q, e, hq, a, b, okp⟩ := run_place T P hk u k 0 k (Nat.zero_le _) (Nat.le_refl _) (by omega) (fun i hi => absurd hi (Nat.not_lt_zero _)) fun i h1 h2 => by omega
    have key := run_bin T f (k + 1) (bubble p k (k - q)) P.bub (by omega) fun i j hij hj => ?_
    obtain ⟨p', y1, y2, y3, y4⟩ := key
    unfold kas_bin
    refine ⟨p', ?_, y2, y3, ok_bind okp ?_⟩
    · rw [run_bind, e]
      exact y1
    · rw [e]
      exact y4
    have hs : k < p.size := by rw [P.size]; exact hk
    rw [at_bub hs (by omega), at_bub hs (by omega)]
    have eq : k - (k - q) = q := by omega
    rw [eq]
    by_cases c1 : i = q
    · rw [if_pos c1, if_neg (by omega), if_pos (by omega)]
      exact b _ (by omega) (by omega)
    · rw [if_neg c1]
      by_cases c2 : j = q
      · rw [if_pos c2, if_neg (by omega)]
        exact a i (by omega)
      · rw [if_neg c2]
        by_cases c3 : q < i
        · rw [if_pos (by omega), if_pos (by omega)]
          exact u _ _ (by omega) (by omega)
        · rw [if_neg (by omega)]
          by_cases c4 : q < j
          · rw [if_pos (by omega)]
            exact u _ _ (by omega) (by omega)
          · rw [if_neg (by omega)]
            exact u _ _ (by omega) (by omega)
theorem run_sort {lt : Nat → Nat → Bool} {N : Nat} (T : Tot lt N) (hN : 1 ≤ N) : Pm (run lt (kas_sort N)) N ∧ Up lt (run lt (kas_sort N)) N ∧ okT lt N (kas_sort N) := by
  have P0 : Pm (List.toArray (List.range N)) N := ⟨Array.Perm.refl _⟩
  obtain ⟨m, p', e, a1, a2, a3, a4, a5⟩ := run_count T P0 hN
  have hm : max m 1 = m := by omega
  have hmid : ∃ p2, run lt (if m < N then kas_bin (N - max m 1) p' (max m 1) else KasT.ret p') = p2 ∧ Up lt p2 N ∧ Pm p2 N ∧ okT lt N (if m < N then kas_bin (N - max m 1) p' (max m 1) else KasT.ret p') := by
    rw [hm]
    by_cases c : m < N
    · rw [if_pos c]
      exact run_bin T (N - m) m p' a4 (by omega) a3
    · rw [if_neg c]
      have e2 : m = N := by omega
      exact ⟨p', rfl, by rw [← e2]; exact a3, a4, trivial⟩
  obtain ⟨p2, b1, b2, b3, b4⟩ := hmid
  have er : run lt (kas_sort N) = p2 := by
    unfold kas_sort
    rw [run_bind, e]
    exact b1
  rw [er]
  refine ⟨b3, b2, ?_⟩
  unfold kas_sort
  refine ok_bind a5 ?_
  rw [e]
  exact b4
theorem wp_run {lt : Nat → Nat → Bool} {N : Nat} {S : Shared → Prop} {cmp : Nat → Nat → (Bool → Shared → Prop) → Shared → Prop} {α : Type} {G : α → Shared → Prop}
    (h : ∀ i j C s, i < N → j < N → i ≠ j → S s → (∀ s', S s' → C (lt i j) s') → cmp i j C s) :
    ∀ (t : KasT α) (s : Shared), okT lt N t → S s → (∀ s', S s' → G (run lt t) s') → t.kasWp cmp G s
  | .ret a, s, _, hs, g => g s hs
  | .ask i j k, s, ok, hs, g => h i j _ s ok.1.1 ok.1.2.1 ok.1.2.2 hs fun s' hs' => wp_run h (k (lt i j)) s' ok.2 hs' g
end Q
namespace L2
open PySem PySem.Spec PyProof.Rows
structure Fly (h₀ h : Heap) (H : Hp) (pn : List (Addr × Obj)) (a : Addr) (c : Value) (d : Option Addr) : Prop where
  ex : ∃ T oe vs oT ts, h.get? a = some oe ∧ oe.cls = c ∧ oe.dict = d ∧ oe.data = .fields vs ∧ vs[1]? = some (.ref T) ∧ T ≠ a ∧ h.get? T = some oT ∧ oT.data = .fields ts ∧ ts[3]? = some .none ∧ h₀.get? T = none ∧ H T = none ∧ ∀ p ∈ pn, p.1 ≠ T
  new : h₀.get? a = none
  un : H a = none
  pins : ∀ p ∈ pn, p.1 ≠ a
noncomputable def CXx (P : Program) (w : World) : CXT := fun outer H s E e s' =>
  ∃ a c d H', e = .ref a ∧ s'.os = s.os ∧ AllBare s'.gens ∧ Un (frs outer) [] H H' s.heap s'.heap ∧ HOk P w H' s'.heap ∧ Fly s.heap s'.heap H' [] a c d ∧ E c d H'
section
variable {X : Cx} {pins : List (Addr × Obj)} {σ : St} {H : Hp} {s : Shared}
theorem Inv.turnedN {h' : Heap} {t' : Nat} {it : Addr} (I : Inv X pins σ H s) (k : ∀ b o, b ≠ it → s.heap.get? b = some o → h'.get? b = some o) (hn : H it = none) (hL : it ≠ X.env.locals)
    (h1 : X.s₀.heap.get? it = none) (h2 : ∀ x c, X.env.cells.lookup x = some c → c ≠ it) (h3 : ∀ p ∈ X.pn ++ pins, p.1 ≠ it) : Inv X pins σ H { s with heap := h', toks := t' } := by
  have ne0 : ∀ b o, X.s₀.heap.get? b = some o → b ≠ it := fun b o e z => by rw [z, h1] at e; cases e
  have nit : ∀ b u, H b = some u → b ≠ it := fun b u e z => by rw [z, hn] at e; cases e
  refine ⟨I.ok, I.os, I.bare, ⟨fun b o e n hb hx => k b o (ne0 b o e) (I.base.keep b o e n hb hx), fun b o e n hb hx => ?_, I.base.free, fun b o e hx => ?_, I.base.tups, I.base.frzs, I.base.tbls⟩, ?_, fun x c e => ?_, I.free, I.freeC, fun p hp => ?_, fun b u e => ?_, I.len⟩
  · obtain ⟨sl, q⟩ := I.base.slot b o e n hb hx
    exact ⟨sl, k _ _ (ne0 b o e) q⟩
  · obtain ⟨o', q⟩ := I.base.there b o e hx
    exact ⟨o', k _ _ (ne0 b o e) q⟩
  · obtain ⟨m, ⟨o, es, ep, ho, r⟩, hl⟩ := I.loc
    refine ⟨m, ⟨o, es, ep, k _ _ (Ne.symm hL) ho, r⟩, fun i x v e1 e2 e3 => ?_⟩
    obtain ⟨u, ru, l⟩ := hl i x v e1 e2 e3
    refine ⟨u, ru, ?_⟩
    rcases l with l | ⟨kk, c, e, oc, q, dd⟩
    · exact .inl l
    · exact .inr ⟨kk, c, e, oc, k _ _ (h2 x c e) q, dd⟩
  · obtain ⟨v, oc, q, dd⟩ := I.cell x c e
    exact ⟨v, oc, k _ _ (h2 x c e) q, dd⟩
  · obtain ⟨e, n, ne, nf, d⟩ := I.pin p hp
    exact ⟨k _ _ (h3 p hp) e, n, ne, nf, d⟩
  · refine (I.hok b u e).stay (fun c v hc q => k c v ?_ q) (fun _ q => q) fun _ _ q => q
    rcases hc with z | z
    · rw [z]; exact nit b u e
    · exact nit c _ z
theorem Inv.rec_ne (I : Inv X pins σ H s) {a : Addr} {o : Obj} {vs : Array Value} (e : s.heap.get? a = some o) (hd : o.data = .fields vs) : a ≠ X.env.locals ∧ ∀ x c, X.env.cells.lookup x = some c → c ≠ a := by
  refine ⟨fun z => ?_, fun x c hc z => ?_⟩
  · obtain ⟨m, ⟨o', es, ep, ho', hd', _⟩, _⟩ := I.loc
    rw [← z, e] at ho'
    cases ho'
    rw [hd] at hd'
    cases hd'
  · obtain ⟨v, o', ho', hd'⟩ := I.cell x c hc
    rw [z, e] at ho'
    cases ho'
    rw [hd] at hd'
    cases hd'
theorem ObjOk.has {P : Program} {w : World} {H : Hp} {h : Heap} {a : Addr} {o : HO} (x : ObjOk P w H h a o) : ∃ ob, h.get? a = some ob := by
  cases o with
  | lst xs => obtain ⟨_, _, _, _, e⟩ := x; exact ⟨_, e⟩
  | tup xs => obtain ⟨_, _, _, _, e, _⟩ := x; exact ⟨_, e⟩
  | dK kvs => obtain ⟨_, _, _, _, o, _, _, e, _⟩ := x; exact ⟨_, e⟩
  | dT kvs => obtain ⟨_, _, _, _, o, _, _, e, _⟩ := x; exact ⟨_, e⟩
  | set S n => obtain ⟨o, _, _, _, e, _⟩ := x; exact ⟨_, e⟩
  | ins C dx fs => obtain ⟨_, _, _, e, _⟩ := x; exact ⟨_, e⟩
  | own y => exact x
  | xd fs => obtain ⟨_, ⟨_, _, _, e, _⟩, _⟩ := x; exact ⟨_, e⟩
  | rng lo hi => obtain ⟨_, _, _, e⟩ := x; exact ⟨_, e⟩
  | frz ob u => obtain ⟨e, _⟩ := x; exact ⟨_, e⟩
  | tbl ps => exact ⟨_, x⟩
  | met f y => exact ⟨_, x⟩
  | ext φ => exact x.2.1
section
variable {M : Model} {E : Value → Shared → Prop} {Q : Unit → Shared → Prop}
theorem enter {a : Addr} {oe : Obj} {vs : Array Value} {head : Value} {more : Bool} (I : Inv X pins σ H s) (stk : X.stack = X.env :: X.outer) (hf : X.env.frame = some X.env.locals)
    (he : s.heap.get? a = some oe) (hd : oe.data = .fields vs) (hsz : 1 < vs.size) (h0 : X.s₀.heap.get? a = none) (hH : H a = none) (hp : ∀ p ∈ X.pn ++ pins, p.1 ≠ a)
    (h : ∀ s2, Inv X pins σ H s2 → Fly X.s₀.heap s2.heap H (X.pn ++ pins) a oe.cls oe.dict → Q () s2) :
    wpAny M X.A (do let f ← frameOf X.env; let l ← entryPlaceOf X.env.locals more; let b ← EntryCells.newEntry head f .none (rawInt X.env.locals) .none l; setField (.ref a) 1 b)
      (fun _ s' => wpAny M X.A (setFlight (.ref a) none) Q E s') E s := by
  have hfr : X.A.frames = some (X.env :: X.outer) := by rw [← stk]; exact I.ok.frames
  have hl : s.heap.FunFrames X.base (X.env :: X.outer) := by rw [← stk]; exact I.stack
  have nofr : ∀ b ∈ frs X.stack, H b = none := I.stkFree
  refine wpAny_bind (wpAny_frameOf_fun hfr hl hf fun h1 hs => ?_)
  have hs' : Heap.SlotsOnly (frs X.stack) s.heap h1 := by rw [stk]; exact hs
  have hane : a ∉ frs X.stack := fun hm => by
    rw [stk] at hm
    obtain ⟨_, o, ho, hnf⟩ := hl.mem hm
    rw [he] at ho
    cases ho
    exact hnf vs hd
  have u1 : Un (frs X.stack) [] H H s.heap h1 :=
    ⟨fun b o e _ hb _ => (hs'.2.1 b hb).trans e, fun b o e _ _ _ => hs'.2.2 b o e, fun _ _ _ n _ => n, fun b o e _ => let ⟨sl, q⟩ := hs'.2.2 b o e; ⟨_, q⟩, fun _ _ q => q, fun _ _ _ q => q, fun _ ps q => ⟨#[], by rw [q]; simp⟩⟩
  have k1 : HOk X.prog X.w H h1 := fun b u e => by
    refine (I.hok b u e).stay (fun c v hc q => (hs'.2.1 c fun hm => ?_).trans q) (fun _ q => q) fun _ _ q => q
    have n := nofr c hm
    rcases hc with z | z
    · rw [z, e] at n; cases n
    · rw [z] at n; cases n
  have I1 : Inv X pins σ H { s with heap := h1 } := I.call (g' := s.gens) (t' := s.toks) (d' := s.drawn) (ch := []) u1 k1 I.bare fun _ z => nomatch z
  have he1 : h1.get? a = some oe := (hs'.2.1 a hane).trans he
  refine wpAny_bind (wpAny_entryPlaceOf fun pl hpl => ?_)
  unfold EntryCells.newEntry newFields
  refine wpAny_bind (wpAny_newObj_type ?_ (hpl.sizeOk5 _ _ _ _ _))
  generalize hob : ({ cls := .type "traceback", dict := none, data := .fields ([head, .ref X.env.locals, .none, rawInt X.env.locals, .none] ++ (if pl.isEmpty then List.replicate 6 Value.none else pl)).toArray } : Obj) = ob
  have hodata : ob.data = .fields ([head, .ref X.env.locals, .none, rawInt X.env.locals, .none] ++ (if pl.isEmpty then List.replicate 6 Value.none else pl)).toArray := by rw [← hob]
  have hofree : ob.isFreed = false := by rw [← hob]; rfl
  have I2 : Inv X pins σ H { s with heap := h1.push ob } := I1.kept (t' := s.toks) fun b o e => Heap.get?_push_of_some _ e
  have he2 : (h1.push ob).get? a = some oe := Heap.get?_push_of_some _ he1
  have hT2 : (h1.push ob).get? h1.objs.size = some ob := Heap.get?_push_size _ hofree
  have hTa : h1.objs.size ≠ a := Nat.ne_of_gt (Heap.lt_size he1)
  have hd3 := Obj.data_mapFields hd (·.setIfInBounds 1 (Value.ref h1.objs.size))
  refine wpAny_setField he2 hd hsz ?_
  obtain ⟨ra1, ra2⟩ := I.rec_ne he hd
  have I3 : Inv X pins σ H { s with heap := (h1.push ob).update a (Obj.mapFields (·.setIfInBounds 1 (.ref h1.objs.size))) } :=
    I2.turnedN (t' := s.toks) (fun b o hb e => by rw [Heap.get?_update_other _ _ (Ne.symm hb)]; exact e) hH ra1 h0 ra2 hp
  have he3 := Heap.get?_update_self (Obj.mapFields (·.setIfInBounds 1 (Value.ref h1.objs.size))) he2 (Obj.isFreed_of_fields hd3)
  have hT3 : ((h1.push ob).update a (Obj.mapFields (·.setIfInBounds 1 (Value.ref h1.objs.size)))).get? h1.objs.size = some ob := by
    rw [Heap.get?_update_other _ _ (Ne.symm hTa)]
    exact hT2
  have hszT : 3 < ([head, .ref X.env.locals, .none, rawInt X.env.locals, .none] ++ (if pl.isEmpty then List.replicate 6 Value.none else pl)).toArray.size := by
    simp only [List.size_toArray, List.length_append, List.length_cons, List.length_nil]
    omega
  have hv1 : (vs.setIfInBounds 1 (Value.ref h1.objs.size))[1]? = some (.ref h1.objs.size) := by simp [hsz]
  refine wpAny_setFlight_none he3 hd3 hv1 hT3 hodata hszT ?_
  have hTle : s.heap.objs.size ≤ h1.objs.size := Nat.le_of_eq hs.1.symm
  have hT0 : X.s₀.heap.get? h1.objs.size = none := Heap.get?_none_of_le (Nat.le_trans I.sz hTle)
  have hTH : H h1.objs.size = none := I.hok.fresh hTle
  obtain ⟨rt1, rt2⟩ := I3.rec_ne hT3 hodata
  have hpT : ∀ p ∈ X.pn ++ pins, p.1 ≠ h1.objs.size := fun p hq z => by
    have q := Heap.lt_size (I.pin p hq).1
    exact absurd (Nat.lt_of_lt_of_le (z ▸ q) hTle) (Nat.lt_irrefl _)
  have I4 := I3.turnedN (t' := s.toks) (h' := ((h1.push ob).update a (Obj.mapFields (·.setIfInBounds 1 (.ref h1.objs.size)))).update h1.objs.size (Obj.mapFields (·.setIfInBounds 3 .none)))
    (fun b o hb e => by rw [Heap.get?_update_other _ _ (Ne.symm hb)]; exact e) hTH rt1 hT0 rt2 hpT
  refine h _ I4 ⟨⟨h1.objs.size, _, _, _, _, ?_, Obj.cls_mapFields _ _, ?_, hd3, hv1, hTa, Heap.get?_update_self _ hT3 (Obj.isFreed_of_fields (Obj.data_mapFields hodata _)), Obj.data_mapFields hodata _, ?_, hT0, hTH, hpT⟩, h0, hH, hp⟩
  · show (Heap.update _ _ _).get? a = _
    rw [Heap.get?_update_other _ _ hTa]
    exact he3
  · obtain ⟨c', d', dt', sl'⟩ := oe
    cases dt' <;> rfl
  · rw [Array.getElem?_setIfInBounds_self_of_lt hszT]
theorem note_new {a : Addr} {c : Value} {args : List Value} {h' : Heap} (I : Inv X pins σ H s) (stk : X.stack = X.env :: X.outer) (hf : X.env.frame = some X.env.locals) (hx : X.ex = []) (hm : Heap.MadeExcOf s.heap h' a c args)
    (h : ∀ s2, Inv X pins σ H s2 → Fly X.s₀.heap s2.heap H (X.pn ++ pins) a c none → Q () s2) :
    wpAny M X.A (noteFrame (.ref a) X.env) (fun _ s' => wpAny M X.A (setFlight (.ref a) none) Q E s') E { s with heap := h' } := by
  obtain ⟨t, ht, _, _⟩ := hm.there
  have I1 : Inv X pins σ H { s with heap := h' } := I.kept (t' := s.toks) hm.keeps
  have hH : H a = none := by
    cases q : H a with
    | none => rfl
    | some o =>
      obtain ⟨ob, e⟩ := (I.hok a o q).has
      rw [hm.new] at e
      cases e
  unfold noteFrame
  simp only [hf]
  refine wpAny_bind (wpAny_field (x := .none) ht rfl (by rfl) ?_)
  rw [if_neg (show ¬ (Value.none != Value.none) = true by simp)]
  have h0 : X.s₀.heap.get? a = none := by
    cases q : X.s₀.heap.get? a with
    | none => rfl
    | some o =>
      obtain ⟨o', e⟩ := I.base.there a o q (by rw [hx]; simp)
      rw [hm.new] at e
      cases e
  exact enter I1 stk hf ht rfl (by simp) h0 hH (fun p hp z => by have := (I.pin p hp).1; rw [z, hm.new] at this; cases this) h
theorem note_fly {a : Addr} {c : Value} {d : Option Addr} {H' : Hp} {s' : Shared} (I : Inv X pins σ H s) (stk : X.stack = X.env :: X.outer) (hf : X.env.frame = some X.env.locals) (hx : X.ex = []) (ho : s'.os = s.os) (hg : AllBare s'.gens) (u : Un (frs X.stack) [] H H' s.heap s'.heap) (ok : HOk X.prog X.w H' s'.heap)
    (F : Fly s.heap s'.heap H' [] a c d) (h : ∀ s2, Inv X pins σ H' s2 → Fly X.s₀.heap s2.heap H' (X.pn ++ pins) a c d → Q () s2) :
    wpAny M X.A (noteFrame (.ref a) X.env) (fun _ s' => wpAny M X.A (setFlight (.ref a) none) Q E s') E s' := by
  obtain ⟨⟨T, oe, vs, oT, ts, he, rfl, rfl, hd, h1, hTa, hT, hdT, h3, hnT, hHT, _⟩, hna, hHa, _⟩ := F
  have I1 : Inv X pins σ H' s' := I.call' (ch := []) ho u ok hg fun _ z => nomatch z
  have back : ∀ b, s.heap.get? b = none → X.s₀.heap.get? b = none := fun b n => by
    cases q : X.s₀.heap.get? b with
    | none => rfl
    | some o =>
      obtain ⟨o', e⟩ := I.base.there b o q (by rw [hx]; simp)
      rw [n] at e
      cases e
  have np : ∀ b, s.heap.get? b = none → ∀ p ∈ X.pn ++ pins, p.1 ≠ b := fun b n p hp z => by have := (I.pin p hp).1; rw [z, n] at this; cases this
  unfold noteFrame
  simp only [hf]
  refine wpAny_bind (wpAny_field he hd h1 ?_)
  rw [if_pos (show (Value.ref T != Value.none) = true by simp)]
  refine wpAny_bind (wpAny_field hT hdT h3 ?_)
  rw [if_neg (show ¬ (Value.none == rawInt X.env.locals) = true by simp [rawInt])]
  refine wpAny_bind (wpAny_setField hT hdT (Array.getElem?_eq_some_iff.mp h3).1 ?_)
  obtain ⟨rt1, rt2⟩ := I1.rec_ne hT hdT
  have I2 := I1.turnedN (t' := s'.toks) (h' := s'.heap.update T (Obj.mapFields (·.setIfInBounds 3 .none))) (fun b o hb e => by rw [Heap.get?_update_other _ _ (Ne.symm hb)]; exact e) hHT rt1 (back T hnT) rt2 (np T hnT)
  have he2 : (s'.heap.update T (Obj.mapFields (·.setIfInBounds 3 .none))).get? a = some oe := by rw [Heap.get?_update_other _ _ hTa]; exact he
  exact enter I2 stk hf he2 hd (Array.getElem?_eq_some_iff.mp h1).1 (back a hna) hHa (np a hna) h
end
end
end L2
namespace L2
open PySem PySem.Spec PySem.W PyProof.Rows
noncomputable def excOk (K : PySem.W.Frag) (C : Addr) : Bool :=
  findIn K (.ref C) "__getattribute__" == some (some (.builtin "BaseException.__getattribute__")) && findIn K (.ref C) "__getattr__" == some none &&
  findIn K (.ref C) "__class__" == some (some (.builtin "object.__class__")) && specialIn K (.builtin "object.__class__") "__get__" == some (some (.builtin "getset_descriptor.__get__")) &&
  takesIn K (.builtin "object.__class__") == some true && mroIn K C (.type "object") == some true && mroIn K C (.type "BaseException") == some true && (clsIn K C).isSome
structure ExcOk (K : PySem.W.Frag) (C : Addr) : Prop where
  ga : findIn K (.ref C) "__getattribute__" = some (some (.builtin "BaseException.__getattribute__"))
  hook : findIn K (.ref C) "__getattr__" = some none
  cl : findIn K (.ref C) "__class__" = some (some (.builtin "object.__class__"))
  get : specialIn K (.builtin "object.__class__") "__get__" = some (some (.builtin "getset_descriptor.__get__"))
  tk : takesIn K (.builtin "object.__class__") = some true
  obj : mroIn K C (.type "object") = some true
  bex : mroIn K C (.type "BaseException") = some true
  isc : (clsIn K C).isSome = true
theorem excOk_of {K : PySem.W.Frag} {C : Addr} (h : excOk K C = true) : ExcOk K C := by
  unfold excOk at h
  simp only [Bool.and_eq_true, beq_iff_eq] at h
  obtain ⟨⟨⟨⟨⟨⟨⟨a, b⟩, c⟩, d⟩, e⟩, f⟩, g⟩, i⟩ := h
  exact ⟨a, b, c, d, e, f, g, i⟩
theorem split_bexc : splitId "BaseException.__getattribute__" = some ("BaseException", "__getattribute__") := by decide +kernel
theorem kind_bexc : builtinKind "BaseException.__getattribute__" = some .slot := by decide +kernel
theorem ga_ne : (Value.builtin "BaseException.__getattribute__" == Value.builtin "object.__getattribute__") = false := by decide +kernel
section
variable {prog : Program} {w : World} {A : Around} {E : Value → Shared → Prop} {s : Shared} {K : PySem.W.Frag} {a C : Addr} {o : Obj} {od : Option Obj}
theorem bexc_check {M : Model} {nameV : Value} {Q : Unit → Shared → Prop} {h : Heap} {g : Array GenState} {d : Drawn} {t : Nat} {os : OsState} (kin : K.In h) (J : InstAt h a o C od) (F : ExcOk K C) (hq : Q () ⟨h, g, d, t, os⟩) :
    wpAny M A (checkBuiltinCall "BaseException.__getattribute__" ⟨[.ref a, nameV], []⟩) Q E ⟨h, g, d, t, os⟩ := by
  have L0 := J.type (M := M)
  have L4 := looks_mroIn (M := M) kin F.bex
  have ha := PySem.F.args_bexc_ga (.ref a) nameV
  simp only [checkBuiltinCall, kind_bexc, split_bexc]
  unfold isInstance
  repeat (first | lk | wp_step)
  exact hq
theorem bexc_call {tk : Tok} {R : Result → Shared → Prop} (kin : K.In s.heap) (J : InstAt s.heap a o C od) (F : ExcOk K C) (h : R (.ok (.ret (.ref C))) s) :
    codeAny (model prog w) A (.call (.builtin "BaseException.__getattribute__") ⟨[.ref a, .str "__class__" tk], []⟩) R s := by
  have hf : findObj K C od "__class__" = some (.bind (.builtin "getset_descriptor.__get__") (.builtin "object.__class__")) := by
    obtain ⟨cd, hc⟩ := Option.isSome_iff_exists.mp F.isc
    unfold findObj
    rw [hc, Option.bind_some, F.cl, Option.bind_some]
    simp [F.get, F.tk]
  obtain ⟨hh, g, d, t, os⟩ := s
  have L0 := J.type (M := model prog w)
  have L3 := looks_find (M := model prog w) kin J hf
  refine codeAny_call_builtin PySem.F.attrBase_ValueError.ga.plain PySem.F.entry_bexc_ga (bexc_check kin J F ?_)
  unfold Builtin.«object.__getattribute__»
  repeat (first | with_reducible refine wpAny_call ?_ | lk | wp_step)
  refine class_get (s := ⟨hh, g, d, t, os⟩) kin J F.obj ?_
  repeat (first | lk | wp_step)
  exact h
theorem exc_class {Q : Option Value → Shared → Prop} (kin : K.In s.heap) (J : InstAt s.heap a o C od) (F : ExcOk K C) (h : Q (some (.ref C)) { s with toks := s.toks + 1 }) :
    wpAny (model prog w) A (getAttr? (.ref a) "__class__") Q E s := by
  obtain ⟨hh, g, d, t, os⟩ := s
  have L0 := J.type (M := model prog w)
  have L1 := looks_findIn (M := model prog w) kin F.ga
  have L2 := looks_findIn (M := model prog w) kin F.hook
  have hf : findObj K C od "__class__" = some (.bind (.builtin "getset_descriptor.__get__") (.builtin "object.__class__")) := by
    obtain ⟨cd, hc⟩ := Option.isSome_iff_exists.mp F.isc
    unfold findObj
    rw [hc, Option.bind_some, F.cl, Option.bind_some]
    simp [F.get, F.tk]
  have L3 := looks_find (M := model prog w) kin J hf
  have L4 := looks_mroIn (M := model prog w) kin F.bex
  unfold getAttr? getAttrBy? getAttrBy
  refine wpAny_bind (wpAny_mkText (wpAny_bind (wpAny_attempt (wpAny_holding (wpAny_bind (L0.at (wpAny_bind (L1.at ?_))))))))
  show wpAny _ _ (if (onTheHeap (.ref C) && (Value.builtin "BaseException.__getattribute__" == Value.builtin "object.__getattribute__")) = true then _ else _) _ _ _
  rw [ga_ne, Bool.and_false, if_neg Bool.false_ne_true]
  unfold getAttrByItsOwn hookBefore
  rw [if_pos (show onTheHeap (.ref C) = true from rfl)]
  refine wpAny_bind (L2.at ?_)
  unfold callGetattribute boundAndCalled
  rw [Bool.false_and, if_neg Bool.false_ne_true]
  refine wpAny_bind (wpAny_attempt (wpAny_holding (wpAny_bind ?_)))
  rw [PySem.F.attrBase_ValueError.ga.bind (.ref a)]
  refine wpAny_pure (wpAny_call (bexc_call (s := ⟨hh, g, d, t + 1, os⟩) kin J F ?_))
  exact handed_on rfl (wpAny_pure h)
end
end L2
namespace L2
open PySem PySem.Spec PySem.W PyProof.Rows
abbrev bmV : List Value := [.type "ValueError", .type "Exception", .type "BaseException", .type "object"]
noncomputable def excOd (a : Addr) (c : Value) (d : Option Addr) : HO := .ext fun h => ∃ o, h.get? a = some o ∧ o.cls = c ∧ o.dict = d ∧ notCls o = true
noncomputable abbrev excO (a : Addr) (c : Value) : HO := excOd a c none
section
variable {K : PySem.W.Frag} {a C : Addr}
theorem kitx_exc (F : ExcOk K C) : KitX K (.ref a) (.ref C) (fun h => ∃ o od, InstAt h a o C od) where
  ty := fun M h _ p => by obtain ⟨o, od, J⟩ := p; exact J.type
  it := fun M h kin _ => by
    obtain ⟨cd, hc⟩ := Option.isSome_iff_exists.mp F.isc
    unfold clsIn at hc
    split at hc
    · rename_i ho
      intro A Q E s k q
      unfold isType loadHead
      exact wpAny_bind (wpAny_loadPart (k _ _ (kin _ _ ho)) (wpAny_pure q))
    · cases hc
  ne := fun h tp dd its n sl kin htp => by
    obtain ⟨cd, hc⟩ := Option.isSome_iff_exists.mp F.isc
    refine Bool.eq_false_iff.mpr fun q => ?_
    obtain rfl : C = tp := Value.ref.inj (beq_iff_eq.mp q)
    unfold clsIn at hc
    split at hc
    · rename_i ho
      have z := (kin _ _ ho).symm.trans htp
      cases z
    · cases hc
  ca := fun kin p k => by obtain ⟨o, od, J⟩ := p; exact exc_class kin J F k
theorem excO_inst {P : Program} {w : World} {H : Hp} {h : Heap} (ok : HOk P w H h) (e : H a = some (excO a (.ref C))) : ∃ o od, InstAt h a o C od := by
  obtain ⟨⟨o, e1, e2, e3, e4⟩, _⟩ := ok a _ e
  exact ⟨o, none, e1, e2, e4, by rw [e3]; exact True.intro⟩
theorem excOd_inst {P : Program} {w : World} {H : Hp} {h : Heap} {d : Option Addr} (ok : HOk P w H h) (e : H a = some (excOd a (.ref C) d)) (hd : ∀ dd, d = some dd → ∃ φ, H dd = some (.ext φ)) : ∃ o od, InstAt h a o C od := by
  obtain ⟨⟨o, e1, e2, e3, e4⟩, _⟩ := ok a _ e
  cases d with
  | none => exact ⟨o, none, e1, e2, e4, by rw [e3]; exact True.intro⟩
  | some dd =>
    obtain ⟨u, hu⟩ := hd dd rfl
    obtain ⟨od, z⟩ := (ok dd _ hu).2.1
    exact ⟨o, some od, e1, e2, e4, by rw [e3]; exact z⟩
end
section
variable {X : Cx}
theorem call_isinstX : CallR X (.builtin "isinstance") (fun xs H Q => ∃ a C y cv b, xs = [.ref a, y] ∧ H a = some (excO a (.ref C)) ∧ excOk X.K C = true ∧ ((∃ T, y = .ty T ∧ cv = Value.type T) ∨ (∃ D, y = .ref D ∧ cv = Value.ref D)) ∧ kitOne X.K (.ref C) cv = some b ∧ Q (.bl b) H) := by
  intro pins s σ H xs us Q I rv h
  obtain ⟨a, C, y, cv, b, rfl, ea, ok, hy, e, q⟩ := h
  obtain ⟨u, c, rfl, ru, rc⟩ := rv.two
  obtain rfl : u = Value.ref a := ru
  have hc : c = cv := by
    rcases hy with ⟨T, rfl, rfl⟩ | ⟨D, rfl, rfl⟩
    · cases rc; rfl
    · cases rc; rfl
  subst hc
  exact kia_one (kitx_exc (excOk_of ok)) I.kIn (excO_inst I.hok ea) e (fun z => nomatch z) fun tk => ⟨.bl b, H, I.tok tk, rfl, q⟩
theorem exc_obj {K : PySem.W.Frag} {h : Heap} {C : Addr} {bmB : List Value} {newId : String} (kin : K.In h) (q : excIn K C bmB newId = true) :
    ∃ nm qn N bs bm hd sn sub ab col dd k0 k1 k2 k3 k5 mN, h.get? C = some (excClassObj nm qn C N bs bm hd sn sub ab col dd k0 k1 k2 k3 k5 newId) ∧ h.Ns N mN ∧ mN "__init__" = none ∧ OwnTail h bmB bm := by
  unfold excIn at q
  split at q
  case h_2 => cases q
  rename_i od cd sl ho
  split at q
  case h_2 => cases q
  rename_i C' bm j0 j1 j2 j3 n j5 hm hs
  rw [Bool.and_eq_true, Bool.and_eq_true, Bool.and_eq_true, Bool.and_eq_true, Bool.and_eq_true, beq_iff_eq, beq_iff_eq, beq_iff_eq] at q
  obtain ⟨⟨⟨⟨⟨e1, e2⟩, e3⟩, e4⟩, e5⟩, e6⟩ := q
  subst e1
  subst e2
  obtain ⟨c1, c2, c3, c4, c5, c6, c7, c8, c9, c10, c11⟩ := cd
  have e7 : c3 = .ref C' :: bm := hm
  have e8 : c11 = false := by simpa using e3
  have e9 : sl = #[j0, j1, j2, j3, some (.builtin n), j5] := by
    apply Array.ext'
    exact hs
  subst e7
  subst e8
  subst e9
  exact ⟨_, _, _, _, _, _, _, _, _, _, _, _, _, _, _, _, _, kin _ _ ho, .of_isNs (isNs_of_in kin e5), nsMap_none_of_in kin e5 e6, tail_of_in kin e4⟩
theorem ps_raise {x : Str} {e : Expr} {es : List Expr} {t : TA} {C : Addr} {np cpos pos : Pos} {E : St → XK} (hg : Gl X x) (hm : X.mg x = some (.ref C)) (hk : keepIn X.K (.ref C) = true) (hq : excIn X.K C bmV "ValueError.__new__" = true) (ha : PA X (e :: es) t) (hc : X.calm = true) (hdb : (x == ("__debug__" : Str)) = false)
    (hst : starEach (e :: es) X.env = (false, eval e X.env) :: starEach es X.env) (hpl : (backTo cpos (starEach es X.env)).any (·.1) = false)
    (made : ∀ pins σ H s a c args h', Inv X pins σ H s → Heap.MadeExcOf s.heap h' a c args → E σ c none H → X.xe (.ref a) { s with heap := h' }) :
    PS X (.Raise (some (.Call (.Name x np) (e :: es) [] cpos)) none pos) (fun D σ H => t σ H fun vs H1 => vs.length ≤ sizeLine ∧ E σ (.ref C) none H1) := by
  intro pins s σ H D I h
  obtain ⟨nm, qn, N, bs, bm, hd, sn, sub, ab, col, dd, k0, k1, k2, k3, k5, mN, hC, hN, hni, T⟩ := exc_obj (bmB := bmV) I.mod.kin hq
  have hbase : bm.contains (.type "BaseException") = true := T.hasType (by decide +kernel)
  rw [arm_exec_Raise]
  show wpAny _ _ (do standAt pos; raiseStmt X.env (some (do let v ← eval (.Call (.Name x np) (e :: es) [] cpos) X.env; standAt pos; pure v)) none) _ _ s
  refine wpAny_bind (wpAny_standAt (wpAny_raiseStmt_made_sub (C := C) (nm := nm) (q := qn) (N := N) (bs := bs) (bm := bm) (hdct := hd) (sn := sn) (sub := sub) (ab := ab) (col := col) (dd := dd) (k0 := k0) (k1 := k1) (k2 := k2) (k3 := k3) (k5 := k5) (newId := "ValueError.__new__") hbase (I.ok.hd hc) (wpAny_bind (wpAny_mono (Q := fun v s1 => ∃ a u, v = .ref a ∧ s1.heap.get? C = some (excClassObj nm qn C N bs bm hd sn sub ab col dd k0 k1 k2 k3 k5 "ValueError.__new__") ∧ s1.heap.get? a = some { cls := .ref C, data := .fields #[.ref u, .none, .none, .none, .bool false, .none] } ∧ X.xe (.ref a) s1) (E := X.xe) ?_ (fun v s1 z => wpAny_bind (wpAny_standAt (wpAny_pure z))) fun _ _ z => z))))
  refine wpAny_Call_Name_kw (ld_glob I hg hm ?_ hdb)
  refine PySem.W.callWith_K (h₀ := X.base) I.ok.mod.kin hk (thn (ha cpos pins s σ H _ I h) fun us s1 ⟨vs, H1, I1, r, hlen, q⟩ => ⟨I1.kIn, ?_⟩) hst hpl
  have hC1 := I1.bk _ _ hC
  obtain ⟨hh, gg, dr, tk, os⟩ := s1
  refine wpAny_call_exc_subT (hrest := by rw [List.nil_append, ← r.length]; exact hlen) PySem.F.excBase_ValueError (T.keeps I1.bk) hC1 (hN.keeps I1.bk) hni fun h' a hmk => ?_
  obtain ⟨u, hu, _, _⟩ := hmk.there
  exact ⟨a, u, rfl, hmk.keeps _ _ hC1, hu, made pins σ H1 _ a _ _ h' I1 hmk q⟩
end
end L2
namespace L2
open PySem PySem.Spec PySem.W PyProof.Rows
noncomputable def Cx.re (X : Cx) (A : Around) (calm : Bool) (pn : List (Addr × Obj)) (xe : Value → Shared → Prop) : Cx := { X with A := A, calm := calm, pn := pn, xe := xe }
section
variable {X : Cx} {pins : List (Addr × Obj)} {σ : St} {H : Hp} {s : Shared}
theorem Inv.re {A : Around} {calm : Bool} {pn pins' : List (Addr × Obj)} {xe : Value → Shared → Prop} (I : Inv X pins σ H s) (hA : A.frames = X.A.frames) (hc : calm = true → A.handled = none) (hp : ∀ p ∈ pn ++ pins', p ∈ X.pn ++ pins) :
    Inv (X.re A calm pn xe) pins' σ H s :=
  ⟨⟨I.ok.mod, I.ok.kind, I.ok.glob, I.ok.blt, I.ok.above, I.ok.inj, I.ok.has, I.ok.cab, hc, hA.trans I.ok.frames, I.ok.stk, I.ok.exf, I.ok.bs, I.ok.bsz, I.ok.noex, I.ok.exfs, I.ok.funs, I.ok.frf⟩,
    I.os, I.bare, I.base, I.loc, I.cell, I.free, I.freeC, fun p q => I.pin p (hp p q), I.hok, I.len⟩
theorem Inv.unre {A : Around} {calm : Bool} {pn pins' : List (Addr × Obj)} {xe : Value → Shared → Prop} (ok : X.Ok) (I : Inv (X.re A calm pn xe) pins' σ H s) (hp : ∀ p ∈ X.pn ++ pins, p ∈ pn ++ pins') : Inv X pins σ H s :=
  ⟨ok, I.os, I.bare, I.base, I.loc, I.cell, I.free, I.freeC, fun p q => I.pin p (hp p q), I.hok, I.len⟩
theorem name_lost {M : Model} {A : Around} {E : Value → Shared → Prop} {i : Nat} {n : Str} {pos : Pos} {Q : Unit → Shared → Prop} (I : Inv X pins σ H s) (hN : X.N.Nodup) (hi : X.N[i]? = some n) (hk : X.env.scope.names.lookup n = some .local)
    (h : ∀ s', Inv X pins (σ.set i none) H s' → Q () s') : wpAny M A (do bindName X.env n .none; unbindBehindTheSuite X.env n pos) Q E s := by
  obtain ⟨m, hn, hl⟩ := id I.loc
  have hcls : (X.env.scope.kind == .class || (X.env.scope.kind == .module && X.env.locals != X.env.globals)) = false := by rw [I.ok.kind]; rfl
  obtain ⟨oL, _, _, hoL, _⟩ := id hn
  refine wpAny_nameGoes_keeps hk hn hcls fun h' v hn' hs => h _ ?_
  have up : ∀ b o, X.s₀.heap.get? b = some o → b ≠ X.env.locals := fun b o e => Nat.ne_of_lt (Nat.lt_of_lt_of_le (Heap.lt_size e) I.ok.above)
  refine ⟨I.ok, I.os, I.bare, ⟨fun b o e n hb hx => (hs.2 b (up b o e)).trans (I.base.keep b o e n hb hx), fun b o e n hb hx => ?_, I.base.free, fun b o e hx => ?_, I.base.tups, I.base.frzs, I.base.tbls⟩, ⟨_, hn', fun j y v' e1 e2 e3 => ?_⟩, fun y c e => ?_, I.free, I.freeC, fun p hp => ?_, fun b ob e => ?_, by simpa using I.len⟩
  · obtain ⟨sl, e1⟩ := I.base.slot b o e n hb hx
    exact ⟨sl, (hs.2 b (up b o e)).trans e1⟩
  · obtain ⟨o', e1⟩ := I.base.there b o e hx
    exact ⟨o', (hs.2 b (up b o e)).trans e1⟩
  · by_cases hj : j = i
    · subst hj
      rw [List.getElem?_set] at e2
      split at e2
      · split at e2 <;> cases e2
      · exact absurd rfl (by assumption)
    · rw [List.getElem?_set_ne (Ne.symm hj)] at e2
      obtain ⟨u', r', q⟩ := hl j y v' e1 e2 e3
      refine ⟨u', r', ?_⟩
      rcases q with ⟨k, e⟩ | ⟨k, c, e, z⟩
      · refine .inl ⟨k, ?_⟩
        have : y ≠ n := fun e => hj (nodup_ix hN e1 (e ▸ hi))
        simp [this, e]
      · exact .inr ⟨k, c, e, z.sameBut hs (I.cne y c e)⟩
  · obtain ⟨w', z⟩ := I.cell y c e
    exact ⟨w', z.sameBut hs (I.cne y c e)⟩
  · obtain ⟨e, n, ne, nf, d⟩ := I.pin p hp
    exact ⟨(hs.2 p.1 ne).trans e, n, ne, nf, d⟩
  · refine (I.hok b ob e).stay (fun c w' hc q => (hs.2 c ?_).trans q) (fun _ q => q) fun _ _ q => q
    have hf := I.free
    rintro rfl
    rcases hc with z | z
    · rw [← z, hf] at e; cases e
    · rw [hf] at z; cases z
theorem Inv.take {a : Addr} {c : Value} {d : Option Addr} (I : Inv X pins σ H s) (hx : X.ex = []) (F : Fly X.s₀.heap s.heap H (X.pn ++ pins) a c d) : Inv X pins σ (upd H a (excOd a c d)) s := by
  obtain ⟨⟨T, oe, vs, oT, ts, he, ec, ed, hd, _⟩, hna, hHa, hp⟩ := F
  obtain ⟨ra1, ra2⟩ := I.rec_ne he hd
  refine ⟨I.ok, I.os, I.bare, ⟨I.base.keep, I.base.slot, fun b o e n hb => ?_, I.base.there, fun b xs e => ?_, fun b o u e => ?_, fun b ps e => ?_⟩, I.loc, I.cell, ?_, fun x c' e => ?_, fun p q => ?_, fun b u e => ?_, I.len⟩
  · rw [upd_ne (fun z => by rw [z, hna] at e; cases e)]
    exact I.base.free b o e n hb
  · have q := I.base.tups b xs e
    rw [upd_ne (ne_of_none q hHa)]
    exact q
  · have q := I.base.frzs b o u e
    rw [upd_ne (ne_of_none q hHa)]
    exact q
  · obtain ⟨more, q⟩ := I.base.tbls b ps e
    exact ⟨more, by rw [upd_ne (ne_of_none q hHa)]; exact q⟩
  · rw [upd_ne (Ne.symm ra1)]
    exact I.free
  · rw [upd_ne (ra2 x c' e)]
    exact I.freeC x c' e
  · obtain ⟨e, n, ne, nf, d⟩ := I.pin p q
    exact ⟨e, by rw [upd_ne (hp p q)]; exact n, ne, nf, d⟩
  · by_cases hb : b = a
    · subst hb
      rw [upd_same] at e
      cases e
      refine ⟨⟨oe, he, ec, ed, by unfold notCls; rw [hd]⟩, ⟨oe, he⟩, fun h1 h2 p k => ?_⟩
      obtain ⟨o, e1, r⟩ := p
      exact ⟨o, k o e1, r⟩
    · rw [upd_ne hb] at e
      exact (I.hok b u e).stay (fun _ _ _ q => q) (fun c' q => by rw [upd_ne (ne_of_none q hHa)]; exact q) fun c' xs q => by rw [upd_ne (ne_of_none q hHa)]; exact q
end
noncomputable def Ends.drop (D : Ends) (i : Nat) : Ends := { nx := fun σ H => D.nx (σ.set i none) H, rt := D.rt, bk := fun σ H => D.bk (σ.set i none) H, ct := fun σ H => D.ct (σ.set i none) H }
noncomputable def eCatch (K : PySem.W.Frag) (C : Addr) (i : Nat) (ts : TS) (D : Ends) : St → XK := fun σ c d H =>
  c = c ∧ exmOne K c (.ref C) = some true ∧ ∀ a, H a = none → ts (D.drop i) (σ.set i (some (.ref a))) (upd H a (excOd a c d))
noncomputable def wCatch (X : Cx) (pins : List (Addr × Obj)) (D : Ends) (hs : List ExceptHandler) : Value → Shared → Prop := fun e s1 =>
  wpAny (model X.prog X.w) X.A (noteFrame e X.env) (fun _ s2 => wpAny (model X.prog X.w) X.A (setFlight e none) (fun _ s3 => wpAny (model X.prog X.w) X.A (handleBy e X.env hs) (SP X pins D) X.xe s3) X.xe s2) X.xe s1
section
variable {X : Cx} {pins : List (Addr × Obj)} {σ : St} {H : Hp} {s : Shared} {x n : Str} {C : Addr} {i : Nat} {b₀ : Stmt} {suite : List Stmt} {np hpos pos : Pos} {ts : TS} {D : Ends}
structure TryOk (X : Cx) (x n : Str) (C : Addr) (i : Nat) (suite : List Stmt) (ts : TS) : Prop where
  nd : X.N.Nodup
  at_ : X.N[i]? = some n
  loc : X.env.scope.names.lookup n = some .local
  gl : Gl X x
  mg : X.mg x = some (.ref C)
  db : (x == ("__debug__" : Str)) = false
  stk : X.stack = X.env :: X.outer
  fr : X.env.frame = some X.env.locals
  ex : X.ex = []
  su : ∀ (pins : List (Addr × Obj)) (a : Addr), PSs (X.re (X.A.mark (some (.ref a))) false (X.pn ++ pins) (fun _ _ => False)) suite ts
theorem caught_ok {a : Addr} {c : Value} {d : Option Addr} (O : TryOk X x n C i (b₀ :: suite) ts) (I : Inv X pins σ H s) (F : Fly X.s₀.heap s.heap H (X.pn ++ pins) a c d) (h : eCatch X.K C i ts D σ c d H) :
    wpAny (model X.prog X.w) X.A (handleBy (.ref a) X.env [.ExceptHandler (some (.Name x np)) (some n) (b₀ :: suite) hpos]) (SP X pins D) X.xe s := by
  obtain ⟨_, hm, hk⟩ := h
  obtain ⟨⟨T, oe, vs, oT, tv, he, ec, ed, hd, h1, hTa, hT, hdT, h3, hnT, hHT, hpT⟩, hna, hHa, hp⟩ := F
  refine wpAny_handleBy_cons (codeAny_handlers_test ?_) (by intro q; cases q)
  have I0 : Inv (X.re (X.A.mark (some (.ref a))) false (X.pn ++ pins) (fun _ _ => False)) [] σ H s := I.re rfl (fun z => nomatch z) fun p q => by simpa using q
  refine ld_glob I0 O.gl O.mg ?_ O.db
  have LT : Looks (model X.prog X.w) s.heap (typeOf (.ref a)) c := ec ▸ (Looks.ld he).andThen .now
  refine (exm_one I.kIn LT hm).here (codeAny_handlers_suite_as ?_)
  refine wpAny_setFlight_none he hd h1 hT hdT (Array.getElem?_eq_some_iff.mp h3).1 ?_
  obtain ⟨rt1, rt2⟩ := I.rec_ne hT hdT
  have I1 := I.turnedN (t' := s.toks) (h' := s.heap.update T (Obj.mapFields (·.setIfInBounds 3 .none))) (fun b o hb e => by rw [Heap.get?_update_other _ _ (Ne.symm hb)]; exact e) hHT rt1 hnT rt2 hpT
  have F1 : Fly X.s₀.heap (s.heap.update T (Obj.mapFields (·.setIfInBounds 3 .none))) H (X.pn ++ pins) a c d := by
    refine ⟨⟨T, oe, vs, _, _, by rw [Heap.get?_update_other _ _ hTa]; exact he, ec, ed, hd, h1, hTa, Heap.get?_update_self _ hT (Obj.isFreed_of_fields (Obj.data_mapFields hdT _)), Obj.data_mapFields hdT _, ?_, hnT, hHT, hpT⟩, hna, hHa, hp⟩
    rw [Array.getElem?_setIfInBounds_self_of_lt (Array.getElem?_eq_some_iff.mp h3).1]
  have I2 := I1.take O.ex F1
  refine store_ok I2 O.nd O.at_ (.inl O.loc) (v := .ref a) rfl (fun s3 I3 => ?_) (.inr O.loc)
  have I4 : Inv (X.re (X.A.mark (some (.ref a))) false (X.pn ++ pins) (fun _ _ => False)) [] (σ.set i (some (.ref a))) (upd H a (excOd a c d)) s3 := I3.re rfl (fun z => nomatch z) fun p q => by simpa using q
  refine wpAny_mono (O.su pins a [] s3 _ _ (D.drop i) I4 (hk a hHa)) (fun f s4 q => ?_) fun _ _ z => z.elim
  have back : ∀ {σ' : St} {H' : Hp}, Inv (X.re (X.A.mark (some (.ref a))) false (X.pn ++ pins) (fun _ _ => False)) [] σ' H' s4 → Inv X pins σ' H' s4 := fun {σ' H'} J => J.unre I.ok fun p q => by simpa using q
  cases f with
  | next =>
    obtain ⟨σ', H', J, q⟩ := q
    exact name_lost (back J) O.nd O.at_ O.loc fun s5 J5 => ⟨_, _, J5, q⟩
  | brk =>
    obtain ⟨σ', H', J, q⟩ := q
    exact name_lost (back J) O.nd O.at_ O.loc fun s5 J5 => ⟨_, _, J5, q⟩
  | cont =>
    obtain ⟨σ', H', J, q⟩ := q
    exact name_lost (back J) O.nd O.at_ O.loc fun s5 J5 => ⟨_, _, J5, q⟩
  | ret u =>
    obtain ⟨v, σ', H', J, rv, q⟩ := q
    exact name_lost (back J) O.nd O.at_ O.loc fun s5 J5 => ⟨v, _, _, J5, rv, q⟩
theorem try_pass (O : TryOk X x n C i (b₀ :: suite) ts) {pins' : List (Addr × Obj)} {e : Value} {s' : Shared} (ok : X.Ok) (hc : X.calm = true)
    (I : Inv (X.re X.A X.calm (X.pn ++ pins) (wCatch X pins D [.ExceptHandler (some (.Name x np)) (some n) (b₀ :: suite) hpos])) pins' σ H s) (h : CXx X.prog X.w X.stack H s (eCatch X.K C i ts D σ) e s') :
    wCatch X pins D [.ExceptHandler (some (.Name x np)) (some n) (b₀ :: suite) hpos] e s' := by
  obtain ⟨a, c, d, H', rfl, ho, hg, u, hok, F, q⟩ := h
  have J : Inv X pins σ H s := I.unre ok fun p z => List.mem_append_left _ z
  exact note_fly J O.stk O.fr O.ex ho hg u hok F fun s2 I2 F2 => caught_ok O I2 F2 q
theorem try_made (O : TryOk X x n C i (b₀ :: suite) ts) {pins' : List (Addr × Obj)} {a : Addr} {c : Value} {args : List Value} {h' : Heap} (ok : X.Ok)
    (I : Inv (X.re X.A X.calm (X.pn ++ pins) (wCatch X pins D [.ExceptHandler (some (.Name x np)) (some n) (b₀ :: suite) hpos])) pins' σ H s) (hm : Heap.MadeExcOf s.heap h' a c args) (h : eCatch X.K C i ts D σ c none H) :
    wCatch X pins D [.ExceptHandler (some (.Name x np)) (some n) (b₀ :: suite) hpos] (.ref a) { s with heap := h' } := by
  have J : Inv X pins σ H s := I.unre ok fun p z => List.mem_append_left _ z
  exact note_new J O.stk O.fr O.ex hm fun s2 I2 F2 => caught_ok O I2 F2 h
theorem ps_try {body : List Stmt} {tb : Ends → TS} (hb : ∀ pins D, X.Ok → PSs (X.re X.A X.calm (X.pn ++ pins) (wCatch X pins D [.ExceptHandler (some (.Name x np)) (some n) (b₀ :: suite) hpos])) body (tb D)) :
    PS X (.Try body [.ExceptHandler (some (.Name x np)) (some n) (b₀ :: suite) hpos] [] [] pos) (fun D σ H => tb D D σ H) := by
  intro pins s σ H D I h
  have I0 : Inv (X.re X.A X.calm (X.pn ++ pins) (wCatch X pins D [.ExceptHandler (some (.Name x np)) (some n) (b₀ :: suite) hpos])) [] σ H s := I.re rfl I.ok.hd fun p q => by simpa using q
  refine wpAny_Try_except (wpAny_mono (hb pins D I.ok [] s σ H D I0 h) (fun f s1 q => ?_) fun e s1 q => q)
  have back : ∀ {σ' : St} {H' : Hp}, Inv (X.re X.A X.calm (X.pn ++ pins) (wCatch X pins D [.ExceptHandler (some (.Name x np)) (some n) (b₀ :: suite) hpos])) [] σ' H' s1 → Inv X pins σ' H' s1 := fun {σ' H'} J => J.unre I.ok fun p q => by simpa using q
  cases f with
  | next =>
    obtain ⟨σ', H', J, q⟩ := q
    exact pss_nil pins s1 σ' H' D (back J) q
  | brk =>
    obtain ⟨σ', H', J, q⟩ := q
    exact ⟨_, _, back J, q⟩
  | cont =>
    obtain ⟨σ', H', J, q⟩ := q
    exact ⟨_, _, back J, q⟩
  | ret u =>
    obtain ⟨v, σ', H', J, rv, q⟩ := q
    exact ⟨v, _, _, back J, rv, q⟩
end
end L2
namespace L2
open PySem PySem.Spec PySem.W PyProof.Rows
noncomputable abbrev XS := St → XK
noncomputable abbrev N0 : XS := fun _ => E0
noncomputable def PassS (CX : CXT) (X : Cx) (E : XS) : Prop := ∀ (pins : List (Addr × Obj)) (σ : St) (H : Hp) (s : Shared) (e : Value) (s' : Shared), Inv X pins σ H s → CX X.stack H s (E σ) e s' → X.xe e s'
noncomputable def MadeS (X : Cx) (E : XS) : Prop := ∀ (pins : List (Addr × Obj)) (σ : St) (H : Hp) (s : Shared) (a : Addr) (c : Value) (args : List Value) (h' : Heap), Inv X pins σ H s → Heap.MadeExcOf s.heap h' a c args → E σ c none H → X.xe (.ref a) { s with heap := h' }
section
variable {X : Cx} {CX : CXT} {k : Nat} {f : Addr} {fd : FuncData} {ps : List Str} {sp : Sp} {dvs : List V} {ds : List Value} {E : XS} {x : Str} {p pos : Pos} {e : Expr} {es : List Expr} {t : TA}
theorem run_fnS {pins : List (Addr × Obj)} {σ : St} {H : Hp} {s : Shared} {Q : VK} {us : List Value} {vs : List V} (F : FnOk X.prog X.w X.K X.mg X.base CX k f fd ps sp) (hr : Room k X.A) (hb : Binds X.K fd ps ds) (hd : Vals dvs ds) (hx : PassS CX X E)
    (I : Inv X pins σ H s) (r : Vals vs us) (h : sp (vs ++ dvs) H Q (E σ)) : wpAny (model X.prog X.w) X.A (call (.ref f) us) (EP X pins σ Q) X.xe s := by
  have r2 : Vals (vs ++ dvs) (us ++ ds) := r.append hd
  have hl : (us ++ ds).length = ps.length := r2.length.symm.trans (F.len _ _ _ _ h)
  refine wpAny_call (codeAny_mono (F.run X.A X.stack s H ⟨us, []⟩ (us ++ ds) (vs ++ dvs) Q (E σ) hr I.env0 (hb s us I.kIn hl) r2 h) fun r s' hq => ?_)
  cases r with
  | error e => exact hx pins σ H s e s' I hq
  | ok fl => cases fl <;> first | exact I.after hq | exact False.elim hq
theorem pe_callS (F : FnOk X.prog X.w X.K X.mg X.base CX k f fd ps sp) (hr : Room k X.A) (hg : Gl X x) (hm : X.mg x = some (.ref f)) (hk : PySem.W.keepIn X.K (.ref f) = true) (hb : Binds X.K fd ps ds) (hd : Vals dvs ds) (hx : PassS CX X E)
    (ha : PA X (e :: es) t) (hdb : (x == ("__debug__" : Str)) = false) (he : starEach (e :: es) X.env = (false, eval e X.env) :: starEach es X.env) (hpl : (backTo pos (starEach es X.env)).any (·.1) = false) :
    PE X (.Call (.Name x p) (e :: es) [] pos) (fun σ H Q => tCall sp dvs (E σ) t σ H Q) := by
  intro pins s σ H Q I h
  refine wpAny_Call_Name_kw (ld_glob I hg hm ?_ hdb)
  exact PySem.W.callWith_K (h₀ := X.base) I.ok.mod.kin hk (thn (ha pos pins s σ H _ I h) fun us s1 ⟨vs, H1, I1, r, q⟩ => ⟨I1.kIn, run_fnS F hr hb hd hx I1 r q⟩) he hpl
theorem pe_call0S (F : FnOk X.prog X.w X.K X.mg X.base CX k f fd ps sp) (hr : Room k X.A) (hg : Gl X x) (hm : X.mg x = some (.ref f)) (hk : PySem.W.keepIn X.K (.ref f) = true) (hb : Binds X.K fd ps ds) (hd : Vals dvs ds) (hx : PassS CX X E)
    (hdb : (x == ("__debug__" : Str)) = false) : PE X (.Call (.Name x p) [] [] pos) (fun σ H Q => tCall sp dvs (E σ) tNil σ H Q) := by
  intro pins s σ H Q I h
  refine wpAny_Call_Name_kw (ld_glob I hg hm ?_ hdb)
  exact PySem.W.callWith_K0 I.kIn hk (run_fnS (us := []) F hr hb hd hx I .nil h)
end
section
variable {P : Program} {w : World} {K : PySem.W.Frag} {mg : Str → Option Value} {base : Heap}
theorem body_pass {N : List Str} {qual : Str} {scope : Scope} {f : Addr} {cd : Value} {A : Around} {outer : List Env} {s : Shared} {H : Hp} {E : XK} :
    PassS (CXx P w) (cxOf (CXx P w) P w K mg base N qual scope f cd A outer s H E) (fun _ => E) := by
  intro pins σ H1 s1 e s' I h
  obtain ⟨a, c, d, H', rfl, ho, hg, u, hok, F, q⟩ := h
  show wpAny _ _ (leaving _ _) _ _ _
  unfold leaving
  refine wpAny_bind (note_fly I rfl rfl rfl ho hg u hok F fun s2 I2 F2 => ?_)
  obtain ⟨⟨T, oe, vs, oT, ts, h1, h2, h3, h4, h5, h6, h7, h8, h9, h10, h11, _⟩, b1, b2, _⟩ := F2
  exact ⟨a, c, d, H', rfl, I2.os, I2.bare, I2.base, I2.hok, ⟨⟨T, oe, vs, oT, ts, h1, h2, h3, h4, h5, h6, h7, h8, h9, h10, h11, fun _ z => nomatch z⟩, b1, b2, fun _ z => nomatch z⟩, q⟩
theorem body_made {N : List Str} {qual : Str} {scope : Scope} {f : Addr} {cd : Value} {A : Around} {outer : List Env} {s : Shared} {H : Hp} {E : XK} :
    MadeS (cxOf (CXx P w) P w K mg base N qual scope f cd A outer s H E) (fun _ => E) := by
  intro pins σ H1 s1 a c args h' I hm q
  show wpAny _ _ (leaving _ _) _ _ _
  unfold leaving
  refine wpAny_bind (note_new I rfl rfl rfl hm fun s2 I2 F2 => ?_)
  obtain ⟨⟨T, oe, vs, oT, ts, h1, h2, h3, h4, h5, h6, h7, h8, h9, h10, h11, _⟩, b1, b2, _⟩ := F2
  exact ⟨a, c, none, H1, rfl, I2.os, I2.bare, I2.base, I2.hok, ⟨⟨T, oe, vs, oT, ts, h1, h2, h3, h4, h5, h6, h7, h8, h9, h10, h11, fun _ z => nomatch z⟩, b1, b2, fun _ z => nomatch z⟩, q⟩
theorem cxx0 {o : List Env} {H : Hp} {s : Shared} {e : Value} {s' : Shared} (h : CXx P w o H s E0 e s') : False := by
  obtain ⟨_, _, _, _, _, _, _, _, _, _, q⟩ := h
  exact q
theorem FnOk.calm {k : Nat} {f : Addr} {fd : FuncData} {ps : List Str} {sp : Sp} (F : FnOk P w K mg base (CXx P w) k f fd ps sp) : FnOk P w K mg base CX0 k f fd ps (fun vs H Q _ => sp vs H Q E0) :=
  ⟨fun vs H Q E h => F.len vs H Q E0 h, fun A outer s H args us vs Q E hr he hb hv hs => codeAny_mono (F.run A outer s H args us vs Q E0 hr he hb hv hs) fun r s' q => by
    cases r with
    | error e => exact cxx0 q
    | ok fl => cases fl <;> exact q⟩
end
end L2
namespace Q
open PySem PySem.Spec PySem.W PyProof.Rows L2
noncomputable def outOf (lt : Nat → Nat → Bool) (vs : List Value) : List Value := if vs.length < 2 then vs else (run lt (kas_sort vs.length)).toList.map fun i => vs.getD i .none
noncomputable def Asks (prog : Program) (w : World) (A : Around) (lt : Nat → Nat → Bool) (vs : List Value) (h0 : Heap) : Prop :=
  ∀ s1 : Shared, (∀ b o, h0.get? b = some o → s1.heap.get? b = some o) →
    ∃ κ, (∀ (Q' : SortKind → Shared → Prop) (E' : Value → Shared → Prop), Q' κ s1 → wpAny (model prog w) A (keyKind' vs.toArray) Q' E' s1) ∧
      ∀ i j (C : Bool → Shared → Prop), i < vs.length → j < vs.length → i ≠ j → C (lt i j) s1 → kas_ask prog w A κ vs i j C s1
section
variable {prog : Program} {w : World} {A : Around} {E : Value → Shared → Prop} {s : Shared} {lt : Nat → Nat → Bool} {vs : List Value}
theorem small64 {n : Nat} (h : n < 64) : n ≤ sizeLine := by rw [sizeLine_eq]; omega
theorem sort_by {a : Addr} {n : Nat} {h0 : Heap} {P : PySem.Fin → Shared → Prop} (T : Tot lt vs.length) (ho : s.heap.get? a = some (seqObj "list" vs.toArray n)) (k0 : ∀ b o, h0.get? b = some o → s.heap.get? b = some o ∧ b ≠ a) (h64 : vs.length < 64)
    (ask : 2 ≤ vs.length → Asks prog w A lt vs h0) (h : P (.done (.ret .none)) { s with heap := sortedHeap s.heap a vs (outOf lt vs).toArray }) : wpAny (model prog w) A (Builtin.«list.sort» ⟨[.ref a], []⟩) P E s := by
  have hv : vs.toArray.size = vs.length := by simp
  obtain ⟨c, hc⟩ : ∃ c, (s.heap.update a (Obj.mapSeq fun _ => #[])).get? a = some (seqObj "list" #[] c) := ⟨_, get?_update_seq ho _⟩
  have hc' : (((s.heap.update a (Obj.mapSeq fun _ => #[])).push (seqObj "tuple" vs.toArray 0)).push (seqObj "list" #[] 0)).get? a = some (seqObj "list" #[] c) := Heap.get?_push_of_some _ (Heap.get?_push_of_some _ hc)
  have keep : ∀ b o, h0.get? b = some o → (((s.heap.update a (Obj.mapSeq fun _ => #[])).push (seqObj "tuple" vs.toArray 0)).push (seqObj "list" #[] 0)).get? b = some o := fun b o e =>
    Heap.get?_push_of_some _ (Heap.get?_push_of_some _ ((Heap.get?_update_other _ _ (Ne.symm (k0 b o e).2)).trans (k0 b o e).1))
  rw [list_sort_plain]
  refine wpAny_bind (listItems_at ho rfl (wpAny_bind (listUpdate_at ho rfl ?_ (by rw [hv]; exact small64 h64) (Nat.zero_le _))))
  refine wpAny_bind (seqEpoch_at hc rfl (wpAny_bind (wpAny_newTuple ?_ (show vs.length ≤ _ from small64 h64))))
  refine wpAny_bind (wpAny_newList (wpAny_holding ?_) (Nat.zero_le _))
  by_cases hn : vs.length < 2
  · have e : outOf lt vs = vs := if_pos hn
    rw [e] at h
    dsimp only
    rw [if_pos (by rw [hv]; exact hn), if_pos (by rw [hv]; exact hn)]
    refine wpAny_bind (wpAny_pure (wpAny_bind ?_))
    rw [StateT.run_pure]
    refine wpAny_pure (wpAny_bind (seqEpoch_at hc' rfl (wpAny_bind (listUpdate_at hc' rfl ?_ (Nat.zero_le _) ?_))))
    · have e2 : (arrOf (SortSt.mk' general' (vs.toArray.zip vs.toArray) #[] 7 none)).map (·.2) = vs.toArray := by
        show (vs.toArray.zip vs.toArray).map (·.2) = vs.toArray
        apply Array.ext'
        simp [List.map_snd_zip]
      rw [e2]
      have e3 : failedOf ((), SortSt.mk' general' (vs.toArray.zip vs.toArray) #[] 7 none).snd = none := rfl
      rw [e3]
      simp only [bne_self_eq_false, Bool.false_eq_true, if_false]
      exact wpAny_pure h
    · show ((vs.toArray.zip vs.toArray).map (·.2)).size ≤ _
      rw [Array.size_map, Array.size_zip, hv, Nat.min_self]
      exact Nat.le_succ_of_le (small64 h64)
  · have h2 : 2 ≤ vs.length := by omega
    have e : outOf lt vs = (run lt (kas_sort vs.length)).toList.map fun i => vs.getD i .none := if_neg hn
    rw [e] at h
    dsimp only
    rw [if_neg (by rw [hv]; exact hn), if_neg (by rw [hv]; exact hn)]
    obtain ⟨κ, hk1, hk2⟩ := ask h2 { s with heap := ((s.heap.update a (Obj.mapSeq fun _ => #[])).push (seqObj "tuple" vs.toArray 0)).push (seqObj "list" #[] 0) } keep
    obtain ⟨P1, U1, O1⟩ := run_sort T (by omega : 1 ≤ vs.length)
    refine wpAny_bind (hk1 _ _ (wpAny_bind ?_))
    have key := kat_run (prog := prog) (w := w) (A := A) (E := E) (κ := κ) (ks := vs) (vs := vs) (s := { s with heap := ((s.heap.update a (Obj.mapSeq fun _ => #[])).push (seqObj "tuple" vs.toArray 0)).push (seqObj "list" #[] 0) })
      (Q := fun st' s' => s' = { s with heap := ((s.heap.update a (Obj.mapSeq fun _ => #[])).push (seqObj "tuple" vs.toArray 0)).push (seqObj "list" #[] 0) } ∧ arrOf st' = (run lt (kas_sort vs.length)).map (kas_item (vs.toArray.zip vs.toArray)) ∧ failedOf st' = none)
      (G := fun p s' => s' = { s with heap := ((s.heap.update a (Obj.mapSeq fun _ => #[])).push (seqObj "tuple" vs.toArray 0)).push (seqObj "list" #[] 0) } ∧ p = run lt (kas_sort vs.length)) rfl h2 h64
      (fun p st' s' _ e1 e2 e3 => ⟨e3.1, by rw [e1, e3.2], e2⟩)
      (wp_run (S := fun s' => s' = { s with heap := ((s.heap.update a (Obj.mapSeq fun _ => #[])).push (seqObj "tuple" vs.toArray 0)).push (seqObj "list" #[] 0) }) (fun i j C s' hi hj hij hs hC => by
        subst hs
        exact hk2 i j C hi hj hij (hC _ rfl)) _ _ O1 rfl fun s' hs => ⟨hs, rfl⟩)
    refine wpAny_mono key ?_ fun _ _ z => z
    rintro ⟨⟨⟩, st'⟩ s' ⟨rfl, har, hf⟩
    have hout := kat_snds (ks := vs) (vs := vs) rfl har
    dsimp only
    rw [hout, hf]
    have hlen : (List.toArray ((run lt (kas_sort vs.length)).toList.map fun i => vs.getD i Value.none)).size ≤ sizeLine + 1 := by
      rw [List.size_toArray, List.length_map, Array.length_toList, P1.size]
      exact Nat.le_succ_of_le (small64 h64)
    refine wpAny_bind (seqEpoch_at hc' rfl (wpAny_bind (listUpdate_at hc' rfl ?_ (Nat.zero_le _) hlen)))
    simp only [bne_self_eq_false, Bool.false_eq_true, if_false]
    exact wpAny_pure h
theorem sorted_by {l : Addr} {Q : Value → Shared → Prop} (T : Tot lt vs.length) (hl : s.heap.IsList l vs.toArray) (h64 : vs.length < 64) (ask : 2 ≤ vs.length → Asks prog w A.in1.in1 lt vs s.heap)
    (h : Q (.ref (s.heap.objs.size + 1)) { s with heap := sortedAll s.heap vs (outOf lt vs).toArray }) : wpAny (model prog w) A (call (.builtin "sorted") [.ref l]) Q E s := by
  refine Calls.call_function_entry kind_sorted plain_sorted entry_sorted (args_sorted1 _) ?_
  unfold Builtin.«sorted»
  refine wpAny_bind (m := checkCount "sorted" 1 1 _) (wpAny_pure (wpAny_bind (collect_list hl (wpAny_bind (wpAny_newList ?_ (show vs.length ≤ _ from small64 h64))) (small64 h64))))
  generalize hH : (s.heap.push (seqObj "list" #[] 0)).update s.heap.objs.size (Obj.mapSeq (· ++ vs.toArray)) = h1
  have hz : h1.objs.size = s.heap.objs.size + 1 := by rw [← hH, Heap.size_update, size_push']
  have kp : ∀ b o, s.heap.get? b = some o → h1.get? b = some o := fun b o e => by
    have hb := Heap.lt_size e
    rw [← hH, Heap.get?_update_other _ _ (Nat.ne_of_gt hb)]
    exact Heap.get?_push_of_some _ e
  have hg : (h1.push (seqObj "list" vs.toArray 0)).get? (s.heap.objs.size + 1) = some (seqObj "list" vs.toArray 0) := by
    rw [← hz]
    exact Heap.get?_push_size _ rfl
  have hq : sortedAll s.heap vs (outOf lt vs).toArray = sortedHeap (h1.push (seqObj "list" vs.toArray 0)) (s.heap.objs.size + 1) vs (outOf lt vs).toArray := by rw [← hH]; rfl
  rw [hq] at h
  show wpAny _ _ _ _ _ { s with heap := h1.push (seqObj "list" vs.toArray 0) }
  rw [hz]
  refine wpAny_bind (wpAny_holding (wpAny_call_entry slot_list_sort ⟨_, hg, rfl⟩ entry_list_sort (sort_by T hg (fun b o e => ⟨Heap.get?_push_of_some _ (kp b o e), Nat.ne_of_lt (Nat.lt_succ_of_lt (Heap.lt_size e))⟩) h64 ask ⟨_, rfl, ?_⟩) (args_list_sort _)))
  exact wpAny_pure ⟨_, rfl, h⟩
end
end Q
namespace Q
open PySem PySem.Spec PySem.W PyProof.Rows L2
noncomputable def tlt (x y : Str) : Bool := decide (x.cps.toList < y.cps.toList)
noncomputable def ltOf (ks : List Str) (i j : Nat) : Bool := tlt (ks.getD i "") (ks.getD j "")
noncomputable def ord (ks : List Str) : List Nat := if ks.length < 2 then List.range ks.length else (run (ltOf ks) (kas_sort ks.length)).toList
noncomputable def sortBy {α : Type} (d : α) (ks : List Str) (ys : List α) : List α := (ord ks).map fun i => ys.getD i d
theorem str_ext {x y : Str} (h : x.cps.toList = y.cps.toList) : x = y := by
  obtain ⟨a⟩ := x
  obtain ⟨b⟩ := y
  have : a = b := Array.toList_inj.mp h
  rw [this]
theorem tlt_trans {x y z : Str} (a : tlt x y = true) (b : tlt y z = true) : tlt x z = true := by
  unfold tlt at *
  rw [decide_eq_true_eq] at *
  exact List.lt_trans a b
theorem tlt_tri {x y : Str} (h : x ≠ y) : tlt x y = !tlt y x := by
  unfold tlt
  by_cases c : x.cps.toList < y.cps.toList
  · have d : ¬ y.cps.toList < x.cps.toList := fun z => List.lt_irrefl _ (List.lt_trans c z)
    simp [c, d]
  · by_cases d : y.cps.toList < x.cps.toList
    · simp [c, d]
    · exact absurd (str_ext (List.le_antisymm (List.not_lt.mp d) (List.not_lt.mp c))) h
theorem tot_of {ks : List Str} (nd : ks.Nodup) : Tot (ltOf ks) ks.length where
  tri := fun i j hi hj h => tlt_tri fun e => h (by
    rw [List.getD_eq_getElem?_getD, List.getD_eq_getElem?_getD, List.getElem?_eq_getElem hi, List.getElem?_eq_getElem hj] at e
    exact (List.getElem_inj nd).mp e)
  tr := fun i j k _ _ _ a b => tlt_trans a b
theorem ord_len (ks : List Str) (nd : ks.Nodup) : (ord ks).length = ks.length := by
  unfold ord
  split
  · simp
  · rw [Array.length_toList, (run_sort (tot_of nd) (by omega)).1.size]
theorem out_vals {ks : List Str} {ys : List V} {vs : List Value} (nd : ks.Nodup) (hl : ks.length = ys.length) (r : Vals ys vs) : Vals (sortBy .non ks ys) (outOf (ltOf ks) vs) := by
  have hlen := r.length
  have e : vs.length = ks.length := by omega
  unfold outOf sortBy ord
  rw [e]
  by_cases c : ks.length < 2
  · rw [if_pos c, if_pos c]
    have e2 : (List.range ks.length).map (fun i => ys.getD i V.non) = ys := by
      rw [hl]
      apply List.ext_getElem
      · simp
      · intro i h1 h2
        simp [h2]
    rw [e2]
    exact r
  · rw [if_neg c, if_neg c]
    have P := (run_sort (tot_of nd) (by omega)).1
    have all : ∀ l : List Nat, (∀ i ∈ l, i < ks.length) → Vals (l.map fun i => ys.getD i V.non) (l.map fun i => vs.getD i Value.none) := by
      intro l
      induction l with
      | nil => exact fun _ => .nil
      | cons i l ih =>
        intro h
        have hi : i < ys.length := by have := h i (.head _); omega
        obtain ⟨u, hu, ru⟩ := r.get (List.getElem?_eq_getElem hi)
        refine .cons ?_ (ih fun j hj => h j (.tail _ hj))
        show L2.RelV (ys.getD i V.non) (vs.getD i Value.none)
        rw [List.getD_eq_getElem?_getD, List.getElem?_eq_getElem hi, List.getD_eq_getElem?_getD, hu]
        exact ru
    refine all _ fun i hi => ?_
    have m : i ∈ (List.range ks.length).toArray := P.perm.mem_iff.mp (Array.mem_toList_iff.mp hi)
    simpa using m
theorem strs_of : ∀ {ks : List Str} {vs : List Value}, Vals (ks.map V.str) vs → StrsAre vs ks
  | [], _, .nil => .nil
  | k :: ks, _, .cons r t => by
    obtain ⟨tk, rfl⟩ := r
    exact .cons k tk (strs_of t)
theorem str_at {ks : List Str} {vs : List Value} (r : StrsAre vs ks) {i : Nat} (hi : i < ks.length) : ∃ t, vs.getD i .none = .str (ks.getD i "") t := by
  induction r generalizing i with
  | nil => exact absurd hi (Nat.not_lt_zero _)
  | cons y t h ih =>
    cases i with
    | zero => exact ⟨t, rfl⟩
    | succ i => exact ih (by simpa using hi)
theorem strs_len {ks : List Str} {vs : List Value} (r : StrsAre vs ks) : vs.length = ks.length := by
  induction r with
  | nil => rfl
  | cons y t h ih => simp [ih]
section
variable {prog : Program} {w : World} {A : Around}
theorem asks_strs {ks : List Str} {vs : List Value} {h0 : Heap} (r : StrsAre vs ks) (h2 : 2 ≤ vs.length) : Asks prog w A (ltOf ks) vs h0 := by
  intro s1 _
  refine ⟨oneType', fun Q' E' q => ?_, fun i j C hi hj _ q => ?_⟩
  · match vs, r, h2 with
    | v1 :: v2 :: rest, r, _ =>
      rw [keyKind_strs r]
      exact wpAny_pure q
  · rw [strs_len r] at hi hj
    obtain ⟨t, e1⟩ := str_at r hi
    obtain ⟨u, e2⟩ := str_at r hj
    unfold kas_ask
    rw [e1, e2, keyLt'_oneType]
    exact oneLt_str q
noncomputable def TupsOf (h : Heap) (vs : List Value) (ks : List Str) : Prop := Paired (fun v k => ∃ a o xs n t, v = .ref a ∧ h.get? a = some o ∧ o.cls = .type "tuple" ∧ o.data = .seq xs n ∧ xs[0]? = some (Value.str k t)) vs ks
theorem tups_at {h : Heap} {vs : List Value} {ks : List Str} (r : TupsOf h vs ks) {i : Nat} (hi : i < vs.length) : ∃ a o xs n t, vs.getD i .none = .ref a ∧ h.get? a = some o ∧ o.data = .seq xs n ∧ xs[0]? = some (Value.str (ks.getD i "") t) := by
  unfold TupsOf at r
  induction r generalizing i with
  | nil => exact absurd hi (Nat.not_lt_zero _)
  | cons y t ih =>
    cases i with
    | zero =>
      obtain ⟨a, o, xs, n, t, e1, e2, e3, e4, e5⟩ := y
      exact ⟨a, o, xs, n, t, e1, e2, e4, e5⟩
    | succ i => exact ih (by simpa using hi)
theorem tups_kat {h h1 : Heap} (kp : ∀ b o, h.get? b = some o → h1.get? b = some o) {vs : List Value} {ks : List Str} (r : TupsOf h vs ks) : ∃ fs, KatTups h1 vs fs ∧ fs.length = vs.length ∧ ∀ v ∈ fs, ∃ x t, v = Value.str x t := by
  unfold TupsOf at r
  induction r with
  | nil => exact ⟨[], .nil, rfl, fun v hv => nomatch hv⟩
  | cons y t ih =>
    obtain ⟨fs, a1, a2, a3⟩ := ih
    obtain ⟨a, o, xs, n, t, rfl, e2, e3, e4, e5⟩ := y
    refine ⟨_ :: fs, .cons (kp _ _ e2) e3 e4 e5 a1, by simp [a2], fun v hv => ?_⟩
    rcases List.mem_cons.mp hv with rfl | hv
    · exact ⟨_, _, rfl⟩
    · exact a3 v hv
theorem zip_first {xs ys : Array Value} {x y : Value} (hx : xs[0]? = some x) (hy : ys[0]? = some y) : ∃ r, xs.toList.zip ys.toList = (x, y) :: r := by
  obtain ⟨lx⟩ := xs
  obtain ⟨ly⟩ := ys
  cases lx with
  | nil => simp at hx
  | cons a lx =>
    cases ly with
    | nil => simp at hy
    | cons b ly =>
      have e1 : a = x := by simpa using hx
      have e2 : b = y := by simpa using hy
      subst e1 e2
      exact ⟨_, rfl⟩
theorem asks_tups {ks : List Str} {vs : List Value} {h0 : Heap} (nd : ks.Nodup) (hl : vs.length = ks.length) (r : TupsOf h0 vs ks) (h2 : 2 ≤ vs.length) : Asks prog w A (ltOf ks) vs h0 := by
  intro s1 kp
  refine ⟨tuples' true, fun Q' E' q => ?_, fun i j C hi hj hij q => ?_⟩
  · obtain ⟨fs, a1, a2, a3⟩ := tups_kat kp r
    refine kat_kind (T := .type "str") a1 (by omega) (fun v hv => ?_) rfl q
    obtain ⟨x, t, rfl⟩ := a3 v hv
    exact Looks.of_pure rfl
  · obtain ⟨a, o, xs, n, t, e1, e2, e3, e4⟩ := tups_at r hi
    obtain ⟨b, o', ys, n', u, f1, f2, f3, f4⟩ := tups_at r hj
    unfold kas_ask
    rw [e1, f1]
    obtain ⟨rest, ez⟩ := zip_first e4 f4
    refine kat_lt (kp _ _ e2) e3 (kp _ _ f2) f3 ?_
    rw [ez]
    refine kat_cons (eqBool_str ?_)
    have hne : ks.getD i "" ≠ ks.getD j "" := fun e => hij (by
      rw [hl] at hi hj
      rw [List.getD_eq_getElem?_getD, List.getD_eq_getElem?_getD, List.getElem?_eq_getElem hi, List.getElem?_eq_getElem hj] at e
      exact (List.getElem_inj nd).mp e)
    rw [show (ks.getD i "" == ks.getD j "") = false by simpa using hne]
    exact kat_no (oneLt_str q)
end
noncomputable def TupKeys (H : Hp) (ys : List V) (ks : List Str) : Prop := Paired (fun v k => ∃ a rest, v = V.ref a ∧ H a = some (.tup (V.str k :: rest))) ys ks
noncomputable def rSort (K : PySem.W.Frag) : List V → Hp → VK → Prop := fun xs H Q => ∃ p ys ks, xs = [V.ref p] ∧ SqL K H p ys ∧ ks.length < 64 ∧ ks.Nodup ∧ (ys = ks.map V.str ∨ TupKeys H ys ks) ∧ ∀ l, H l = none → Q (.ref l) (upd H l (.lst (sortBy .non ks ys)))
theorem tupKeys_len {H : Hp} : ∀ {ys : List V} {ks : List Str}, TupKeys H ys ks → ks.length = ys.length
  | _, _, .nil => rfl
  | _, _, .cons _ t => by simp [tupKeys_len t]
theorem tups_of {P : Program} {w : World} {H : Hp} {h : Heap} (ok : HOk P w H h) : ∀ {ys : List V} {ks : List Str} {vs : List Value}, TupKeys H ys ks → Vals ys vs → TupsOf h vs ks
  | _, _, _, .nil, .nil => .nil
  | _, _, _, .cons y t, .cons r q => by
    obtain ⟨a, rest, rfl, e⟩ := y
    cases r
    obtain ⟨_, its, rv, o, e1, e2, n, e3⟩ := ok a _ e
    cases rv with
    | cons r0 _ =>
      obtain ⟨tk, rfl⟩ := r0
      exact .cons ⟨a, o, _, n, tk, rfl, e1, e2, e3, by simp⟩ (tups_of ok t q)
theorem call_sorted {X : Cx} : CallR X (.builtin "sorted") (rSort X.K) := by
  intro pins s σ H xs us Q I r h
  obtain ⟨p, ys, ks, rfl, hq, h64, nd, hk, q⟩ := h
  obtain ⟨u, rfl, rx⟩ := vals1 r
  cases rx
  obtain ⟨its, r', pl, hz⟩ := I.list hq
  have hl : ks.length = ys.length := by
    rcases hk with rfl | hk
    · simp
    · exact tupKeys_len hk
  have hlen := r'.length
  have hv : its.length = ks.length := by omega
  refine sorted_by (lt := ltOf ks) (vs := its) (by rw [hv]; exact tot_of nd) pl.isList (by omega) (fun h2 => ?_) ?_
  · rcases hk with rfl | hk
    · exact asks_strs (strs_of r') h2
    · exact asks_tups nd hv (tups_of I.hok hk r') h2
  · obtain ⟨c, hc⟩ := sortedAll_at s.heap its (outOf (ltOf ks) its).toArray
    have hz2 : (sortBy V.non ks ys).length ≤ sizeLine := by
      unfold sortBy
      rw [List.length_map, ord_len ks nd]
      omega
    exact ⟨.ref (s.heap.objs.size + 1), _, I.laid (t' := s.toks) (fun b o e => sortedAll_old e) (Nat.le_succ _) (show ObjOk X.prog X.w _ _ _ (.lst (sortBy .non ks ys)) from ⟨hz2, _, c, out_vals nd hl r', hc⟩), rfl, q _ (I.hok.fresh (Nat.le_succ _))⟩
end Q
set_option maxHeartbeats 3200000
namespace Q
open PySem PySem.Spec PySem.W PyProof.Rows L2
noncomputable def has (acc : List Key) (k : Key) : Bool := acc.any fun x => decide (x = k)
theorem has_iff {acc : List Key} {k : Key} : has acc k = true ↔ k ∈ acc := by
  unfold has
  rw [List.any_eq_true]
  constructor
  · rintro ⟨x, h, e⟩
    rw [← of_decide_eq_true e]
    exact h
  · exact fun h => ⟨k, h, decide_eq_true rfl⟩
noncomputable def more (acc : List Key) (k : Key) : List Key := if has acc k = true then acc else acc ++ [k]
noncomputable def met (ks : List Key) : List Key := ks.foldl more []
theorem met_snoc (ks : List Key) (k : Key) : met (ks ++ [k]) = more (met ks) k := by unfold met; rw [List.foldl_append]; rfl
theorem mem_more {acc : List Key} {k j : Key} : j ∈ more acc k ↔ j ∈ acc ∨ j = k := by
  unfold more
  split
  · rename_i h
    constructor
    · exact .inl
    · rintro (z | rfl)
      · exact z
      · exact has_iff.mp h
  · simp
theorem more_len (acc : List Key) (k : Key) : (more acc k).length = if has acc k = true then acc.length else acc.length + 1 := by
  unfold more
  split <;> simp
theorem met_le (ks : List Key) : (met ks).length ≤ ks.length := by
  unfold met
  have g : ∀ (l acc : List Key), (l.foldl more acc).length ≤ acc.length + l.length := by
    intro l
    induction l with
    | nil => intro acc; simp
    | cons k l ih =>
      intro acc
      have h1 := ih (more acc k)
      have h2 := more_len acc k
      rw [List.foldl_cons, List.length_cons]
      split at h2 <;> omega
  simpa using g ks []
section
variable {prog : Program} {w : World} {A : Around} {R : Result → Shared → Prop} {I : Addr} {fp wr : List Addr} {G : Array GenState → Array GenState → Prop} {n : Nat} {P : Nat → Value → Prop} {St : Nat → Shared → Prop}
theorem set_loop (W : WalksS prog w A.in1 I fp wr G n P St) (S : Addr) (hSf : S ∉ fp) (ks : List Key) (hn : ks.length = n) (hv : ∀ i v, P i v → ∃ k, ks[i]? = some k ∧ RelV (kV k) v) (hb : n + 1 < scanBound) :
    ∀ (m i : Nat) (s : Shared), n - i = m → i ≤ n → St i s → s.heap.SetOf (mixKind prog w) S (has (met (ks.take i))) (met (ks.take i)).length →
      (∀ s', Moved (S :: wr) G s s' → s'.heap.SetOf (mixKind prog w) S (has (met ks)) (met ks).length → R (.ok (.ret .none)) s') →
      codeAny (model prog w) A (.builtin "set.update.loop" ⟨[.ref S, .ref I], []⟩) R s
  | 0, i, s, hm, hi, st, hS, hR => by
    obtain rfl : i = n := by omega
    rw [← hn, List.take_length] at hS
    refine codeAny_builtin PyProof.Rows.F.entry_set_update_loop ?_
    rw [Around.under_plainId PyProof.Rows.F.plain_set_update_loop _]
    show wpAny _ A.in1 (pyNext (.ref I) >>= _) _ _ s
    refine wpAny_bind (W.done s _ _ st fun s' mv => ?_)
    obtain ⟨o, es, ep, t, ho, rest⟩ := hS
    exact wpAny_pure (hR s' (mv.mono fun b hb => List.mem_cons_of_mem _ hb) ⟨o, es, ep, t, mv.heap S _ (fun z => hSf (W.sub _ z)) ho, rest⟩)
  | m + 1, i, s, hm, hi, st, hS, hR => by
    have hlt : i < n := by omega
    refine codeAny_builtin PyProof.Rows.F.entry_set_update_loop ?_
    rw [Around.under_plainId PyProof.Rows.F.plain_set_update_loop _]
    show wpAny _ A.in1 (pyNext (.ref I) >>= _) _ _ s
    refine wpAny_bind (W.item i s _ _ hlt st fun v s' hP st' mv => ?_)
    obtain ⟨k, hk, rv⟩ := hv i v hP
    have hS1 : s'.heap.SetOf (mixKind prog w) S (has (met (ks.take i))) (met (ks.take i)).length := by
      obtain ⟨o, es, ep, t, ho, rest⟩ := hS
      exact ⟨o, es, ep, t, mv.heap S _ (fun z => hSf (W.sub _ z)) ho, rest⟩
    have hsc : v.scannable = true := by
      cases k with
      | inl j => obtain ⟨t, rfl⟩ := rv; rfl
      | inr x => obtain ⟨t, rfl⟩ := rv; rfl
    show wpAny _ A.in1 (holding [v] (setAdd S v) >>= _) _ _ s'
    refine wpAny_bind (wpAny_holding ?_)
    unfold setAdd
    refine wpAny_holding (wpAny_bind ((mixKind prog w).pyHash (k := k) (kV_is rv) ?_))
    have hle := met_le (ks.take i)
    rw [List.length_take] at hle
    refine wpAny_setAddHashed_of (knd := mixKind prog w) (s := { s' with toks := s'.toks + 1 }) (kV_is rv) hsc hS1 (by omega) fun h' hsb hS2 => ?_
    have et : ks.take (i + 1) = ks.take i ++ [k] := by rw [List.take_add_one, hk]; rfl
    have hS3 : h'.SetOf (mixKind prog w) S (has (met (ks.take (i + 1)))) (met (ks.take (i + 1))).length := by
      rw [et, met_snoc]
      obtain ⟨o, es, ep, t, ho, hex, hd, hel, hmem, hbb, hf, hnn⟩ := hS2
      refine ⟨o, es, ep, t, ho, hex, hd, hel, fun j => ?_, hbb, hf, by rw [more_len]; exact hnn⟩
      rw [← hmem j, has_iff, mem_more, Bool.or_eq_true, has_iff, decide_eq_true_eq]
    refine wpAny_pure ⟨plainId_quiet PyProof.Rows.F.plain_set_update_loop _, set_loop W S hSf ks hn hv hb m (i + 1) _ (by omega) hlt (W.frame _ s' _ _ st' (Nat.le_succ _) fun b hq o e => ?_) hS3 fun s'' mv2 hS4 => ?_⟩
    · rw [hsb.2 b (fun z : b = S => hSf (by rw [← z]; exact hq))]
      exact e
    · refine hR s'' (Moved.trans W.gtrans ((mv.mono fun b hb => List.mem_cons_of_mem _ hb).then_heap (Nat.le_succ _) fun b o hq e => ?_) mv2) hS4
      rw [hsb.2 b (fun z : b = S => hq (by rw [z]; exact List.mem_cons_self))]
      exact e
end
end Q
namespace Q
open PySem PySem.Spec PySem.W PyProof.Rows L2
noncomputable abbrev nset (led : Bool) : Obj := { cls := .type "set", dict := none, data := .set #[] 0 (.fresh 0 0 led) }
section
variable {prog : Program} {w : World} {A : Around} {E : Value → Shared → Prop} {s : Shared}
theorem set_call {l : Addr} {items : Array Value} {ks : List Key} {Q : Value → Shared → Prop} (hh : A.handled = none) (hl : s.heap.IsList l items) (hk : ks.length = items.size)
    (hv : ∀ (i : Nat) (v : Value), items[i]? = some v → ∃ k, ks[i]? = some k ∧ RelV (kV k) v) (hb : items.size + 1 < scanBound)
    (h : ∀ (h' : Heap) (tk : Nat), h'.SetOf (mixKind prog w) s.heap.objs.size (has (met ks)) (met ks).length → (∀ b o, b < s.heap.objs.size → s.heap.get? b = some o → h'.get? b = some o) → Q (.ref s.heap.objs.size) { s with heap := h', toks := tk }) :
    wpAny (model prog w) A (call (.type "set") [.ref l]) Q E s := by
  have c0 := F.called_set
  obtain ⟨c, tl, hmro⟩ := c0.mro
  have f1 := c0.made
  have f2 := c0.sub
  have f3 := c0.notType
  have f4 := c0.canCreate
  have f5 := F.typeCall_set_1 (.ref l)
  refine wpAny_call (codeAny_of_tree ?_)
  show wpAny _ _ (callAny (.type "set") _) _ _ _
  refine wpAny_pure ⟨Code.quiet_builtin _ (by decide +kernel), codeAny_builtin F.entry_type_call ?_⟩
  rw [Around.under_plain (weight_type_call_type "set" [.ref l] []) rfl]
  repeat (any_goals (first | assumption | wp_step))
  refine codeAny_mono (code_set_new_1 (.ref l) (E := E) (Q₁ := fun obj s1 => ∃ led : Bool, obj = .ref s.heap.objs.size ∧ s1 = { s with heap := s.heap.push (nset led) }) fun led => ⟨led, rfl, rfl⟩) fun r s1 hr => ?_
  rcases r with e | fl
  · exact hr
  rcases fl with _ | _ | _ | obj
  · exact hr.elim
  · exact hr.elim
  · exact hr.elim
  obtain ⟨led, rfl, rfl⟩ := hr
  have hS : (s.heap.push (nset led)).get? s.heap.objs.size = some (nset led) := Heap.get?_push_size _ rfl
  have hT : Shared.TypeIs { s with heap := s.heap.push (nset led) } (.ref s.heap.objs.size) "set" := ⟨_, hS, rfl⟩
  have f6 := c0.init.lookup
  have f7 := c0.init.bind (.ref s.heap.objs.size)
  repeat (any_goals (first | assumption | wp_step))
  refine codeAny_mono (codeAny_call_builtin (R := wants (fun r s2 => r = .none ∧ ∃ h' tk, s2 = { s with heap := h', toks := tk } ∧ h'.SetOf (mixKind prog w) s.heap.objs.size (has (met ks)) (met ks).length ∧
    (∀ b o, b < s.heap.objs.size → s.heap.get? b = some o → h'.get? b = some o)) E) c0.init.plain F.entry_set_init (check_set_init_1 hT ?_)) fun r2 s2 hr2 => ?_
  · obtain ⟨ol, hol, hcl, nl, hdl⟩ := hl
    obtain ⟨oc, od, odt, osl⟩ := ol
    obtain rfl : oc = .type "list" := hcl
    obtain rfl : odt = .seq items nl := hdl
    have hol' : (s.heap.push (nset led)).get? l = some { cls := .type "list", dict := od, data := .seq items nl, slots := osl } := Heap.get?_push_of_some _ hol
    have g1 := F.sub_list_set
    have g2 := F.sub_list_frozenset
    have g3 : (Value.type "list" == Value.type "dict") = false := by decide
    have hl1 : (s.heap.push (nset led)).IsList l items := ⟨_, hol', rfl, nl, rfl⟩
    unfold Builtin.«set.__init__» noKeywords Builtin.Frozenset.updateFrom
    generalize hPI : pyIter = PI
    wp_walk
    subst hPI
    refine wpAny_pyIter_list hl1 (wpAny_bind (wpAny_runValue ?_))
    have hlt : l < s.heap.objs.size := Heap.lt_size hol
    have h3 : A.in1.in1.in1.handled = none := by simp [hh]
    have hz : (s.heap.push (nset led)).objs.size = s.heap.objs.size + 1 := Heap.size_push _ _
    have hne : l ≠ (s.heap.push (nset led)).objs.size := by rw [hz]; exact Nat.ne_of_lt (Nat.lt_succ_of_lt hlt)
    have hnf : s.heap.objs.size ∉ [(s.heap.push (nset led)).objs.size, l] := by
      rw [hz]
      intro z
      rcases List.mem_cons.mp z with z | z
      · exact Nat.ne_of_lt (Nat.lt_succ_self _) z
      · exact Nat.ne_of_gt hlt (List.mem_singleton.mp z)
    refine set_loop ((Walks.list h3 _ l hne items).toS) s.heap.objs.size hnf ks hk hv hb (items.size - 0) 0 _ (by omega) (Nat.zero_le _) ⟨⟨_, Heap.get?_push_size _ rfl, rfl, rfl⟩, hl1.push _⟩ ?_ fun s' mv hS' => ?_
    · have hg : ((s.heap.push (nset led)).push { cls := .type "list_iterator", data := .fields #[.ref l, .int 0 0] }).get? s.heap.objs.size = some (nset led) := Heap.get?_push_of_some _ hS
      exact ⟨nset led, #[], 0, _, hg, ⟨rfl, rfl, rfl⟩, rfl, fun e he => by simp at he, fun k => by simp [met, has], by decide, by rfl, rfl⟩
    · obtain ⟨h', g', d', tk', os'⟩ := s'
      obtain rfl : g' = s.gens := mv.gens
      obtain rfl : d' = s.drawn := mv.drawn
      obtain rfl : os' = s.os := mv.os
      show wpAny _ _ _ _ _ _
      refine wpAny_pure ?_
      show wpAny _ _ (ret Value.none) _ _ _
      refine wpAny_pure ⟨rfl, h', tk', rfl, hS', fun b o hq e => mv.heap b o (fun z => ?_) (Heap.get?_push_of_some _ (Heap.get?_push_of_some _ e))⟩
      rcases List.mem_cons.mp z with z | z
      · exact Nat.ne_of_lt hq z
      · exact Nat.ne_of_lt (Nat.lt_succ_of_lt hq) ((List.mem_singleton.mp z).trans hz)
  · rcases r2 with e | fl2
    · exact hr2
    rcases fl2 with _ | _ | _ | v
    · exact hr2.elim
    · exact hr2.elim
    · exact hr2.elim
    obtain ⟨rfl, h', tk, rfl, hS', hk'⟩ := hr2
    repeat (any_goals (first | assumption | wp_step))
    exact h _ _ hS' hk'
end
noncomputable def setO (a : Addr) (n : Nat) : HO := .ext fun h => ∃ o es ep t, h.get? a = some o ∧ o.ExactSet ∧ o.data = .set es ep t ∧ es.size < scanBound ∧ t.fits es.size = true ∧ es.size = n
theorem keys_at : ∀ {ks : List Key} {us : List Value}, Vals (ks.map kV) us → ∀ (i : Nat) (v : Value), us[i]? = some v → ∃ k, ks[i]? = some k ∧ RelV (kV k) v
  | [], _, .nil, i, v, e => by simp at e
  | k :: ks, _, .cons r t, 0, v, e => by
    simp at e
    subst e
    exact ⟨k, rfl, r⟩
  | k :: ks, _, .cons r t, i + 1, v, e => keys_at t i v (by simpa using e)
noncomputable def rSet (K : PySem.W.Frag) : List V → Hp → VK → Prop := fun xs H Q => ∃ p ks, xs = [V.ref p] ∧ SqL K H p (ks.map kV) ∧ ks.length < 4000 ∧ ∀ a, H a = none → Q (.ref a) (upd H a (setO a (met ks).length))
theorem call_set {X : Cx} (hc : X.calm = true) : CallR X (.type "set") (rSet X.K) := by
  intro pins s σ H xs us Q I r h
  obtain ⟨p, ks, rfl, hq, hz, q⟩ := h
  obtain ⟨u, rfl, rx⟩ := vals1 r
  cases rx
  obtain ⟨its, r', pl, _⟩ := I.list hq
  have hlen := r'.length
  rw [List.length_map] at hlen
  refine set_call (ks := ks) (I.ok.hd hc) pl.isList (by rw [List.size_toArray]; exact hlen) (fun i v e => keys_at r' i v (by simpa using e)) (by rw [List.size_toArray, ← hlen]; unfold scanBound; omega) fun h' tk hS kp => ?_
  refine ⟨.ref s.heap.objs.size, _, I.laid (t' := tk) (fun b o e => kp b o (Heap.lt_size e) e) (Nat.le_refl _) (show ObjOk X.prog X.w _ _ _ (setO _ (met ks).length) from ?_), rfl, q _ (I.hok.fresh (Nat.le_refl _))⟩
  obtain ⟨o, es, ep, t, ho, hex, hd, hel, hmem, hbb, hf, hn⟩ := hS
  refine ⟨⟨o, es, ep, t, ho, hex, hd, hbb, hf, hn⟩, ⟨o, ho⟩, fun h1 h2 z k => ?_⟩
  obtain ⟨o, es, ep, t, ho, rest⟩ := z
  exact ⟨o, es, ep, t, k o ho, rest⟩
theorem call_len_setO {X : Cx} : CallR X (.builtin "len") (fun xs H Q => ∃ a n, xs = [V.ref a] ∧ H a = some (setO a n) ∧ Q (.int n) H) := by
  intro pins s σ H xs us Q I r h
  obtain ⟨a, n, rfl, e, q⟩ := h
  obtain ⟨u, rfl, rx⟩ := vals1 r
  cases rx
  obtain ⟨⟨o, es, ep, t, ho, hex, hd, hbb, hf, rfl⟩, _⟩ := I.hok a _ e
  refine call_len_set ho hex hd hf (by have : es.size < 4096 := hbb; omega) ?_
  exact ⟨.int es.size, H, I.tok _, ⟨_, rfl⟩, q⟩
end Q
namespace L2
open PySem PySem.Spec PyProof.Rows
section
variable {X : Cx}
noncomputable def rCat0 (K : PySem.W.Frag) : R2 := fun x y H Q => ∃ a b ys, x = .ref a ∧ y = .ref b ∧ SqT K H a [] ∧ SqT K H b ys ∧ Q (.ref b) H
theorem op_cat0 : OpR X (binaryOp .Add) (rCat0 X.K) := by
  intro pins s σ H x y v u Q I rx ry h
  obtain ⟨a, b, ys, rfl, rfl, ha, hb, q⟩ := h
  cases rx
  cases ry
  obtain ⟨its, r1, p1, _⟩ := I.tuple ha
  obtain ⟨its2, r2, p2, _⟩ := I.tuple hb
  cases r1
  obtain ⟨⟨cls, dd, data, sl⟩, ho, hc, n, hd⟩ := id p1
  obtain ⟨⟨cls2, dd2, data2, sl2⟩, ho2, hc2, n2, hd2⟩ := id p2
  simp only at hc hd hc2 hd2
  subst hc hd hc2 hd2
  exact concat_meets ⟨_, ho, rfl⟩ ⟨_, ho2, rfl⟩ noFill_tuple_add seq_tuple_add PySem.F.slot_tuple_add PySem.F.entry_tuple_add (PySem.F.args_tuple_add_2 _ _) (tuple_addW0 a b _ _ n n2 dd dd2 sl sl2 rfl) ⟨ho, ho2, .ref b, H, I, rfl, q⟩
theorem fold_size (a b : Array Nat) : ∀ k : Nat, ((List.replicate k a).foldl (· ++ ·) b).size = b.size + k * a.size
  | 0 => by simp
  | k + 1 => by
    rw [List.replicate_succ, List.foldl_cons, fold_size a (b ++ a) k, Array.size_append, Nat.succ_mul]
    omega
noncomputable def rRepS : R2 := fun x y H Q => ∃ (z : Str) (n : Int), x = .str z ∧ y = .int n ∧ 2 ≤ n ∧ n ≤ 1000 ∧ 1 ≤ z.length ∧ z.length ≤ 1000 ∧ Q (.str ⟨(List.replicate n.toNat z.cps).foldl (· ++ ·) #[]⟩) H
theorem op_repS : OpR X (binaryOp .Mult) rRepS := by
  intro pins s σ H x y v u Q I rx ry h
  obtain ⟨z, n, rfl, rfl, h1, h2, h3, h4, q⟩ := h
  obtain ⟨t, rfl⟩ := rx
  obtain ⟨t', rfl⟩ := ry
  have c1 : ¬ n < 1 := by omega
  have c2 : (n == 1 || z.length == 0) = false := by
    rw [Bool.or_eq_false_iff]
    exact ⟨by simp; omega, by simp; omega⟩
  have hm : z.length * n.toNat ≤ 1000 * 1000 := Nat.mul_le_mul h4 (by omega)
  have hn : ((n.toNat : Nat) : Int) = n := by omega
  have hm2 : (z.length : Int) * n ≤ 1000 * 1000 := by
    rw [← hn, ← Int.natCast_mul]
    exact Int.ofNat_le.mpr hm
  refine P.mul_str (by rw [decide_eq_false (by omega), decide_eq_false (by omega)]; rfl) (fun _ _ => ?_) (fun _ _ => ?_) ?_
  · exact Int.not_lt.mpr (Int.le_ediv_of_mul_le (by omega) (by omega))
  · exact decide_eq_false (Nat.not_lt.mpr (Nat.le_trans hm (by decide)))
  · rw [if_neg c1, if_neg (by rw [c2]; exact Bool.false_ne_true)]
    refine ⟨?_, .str _, H, I.tok _, ⟨_, rfl⟩, q⟩
    show ((List.replicate n.toNat z.cps).foldl (· ++ ·) #[]).size ≤ _
    rw [fold_size]
    exact Nat.le_trans (by rw [Nat.mul_comm]; simpa [Str.length] using hm) (by decide : 1000 * 1000 ≤ sizeLine)
noncomputable def rJoin (K : PySem.W.Frag) : V → List V → Hp → VK → Prop := fun x vs H Q => ∃ (sep : Str) (p : Addr) (ys : List Str), x = .str sep ∧ vs = [.ref p] ∧ SqL K H p (ys.map V.str) ∧ sep.length ≤ 16 ∧ (ys.map (·.length)).sum + ys.length ≤ 1048576 ∧ Q (.str (Txt.join sep ys)) H
theorem strs_vals : ∀ {ks : List Str} {vs : List Value}, Vals (ks.map V.str) vs → StrsAre vs ks
  | [], _, .nil => .nil
  | k :: ks, _, .cons r t => by
    obtain ⟨tk, rfl⟩ := r
    exact .cons k tk (strs_vals t)
theorem mt_join : MtR X "str.join" (rJoin X.K) := by
  intro pins s σ H x vs v us Q I rx rv h
  obtain ⟨sep, p, ys, rfl, rfl, hq, h1, h2, q⟩ := h
  obtain ⟨t, rfl⟩ := rx
  obtain ⟨u, rfl, ru⟩ := vals1 rv
  cases ru
  obtain ⟨its, r, pl, hz⟩ := I.list hq
  exact join_listW pl.isList (by simpa using strs_vals r) h1 h2 fun t' k => ⟨.str _, H, I.tok k, ⟨_, rfl⟩, q⟩
end
end L2
set_option maxHeartbeats 1000000
namespace HT
open PySem PySem.Spec PyProof.Rows
section
variable {prog : Program} {w : World} {K : Type} [DecidableEq K] {knd : HeapKind prog w K} {A : Around} {s : Shared} {E : Value → Shared → Prop}
variable (knd) in
end
end HT
namespace L2
open PySem PySem.Spec PyProof.Rows
section
variable {X : Cx} {pins : List (Addr × Obj)} {σ : St} {H : Hp} {s : Shared} {a b : Addr} {v : V} {r : Value} {A : Around} {E : Value → Shared → Prop} {kvs : List (List Key × V)} {k : List Key}
end
end L2
namespace L2
open PySem PySem.Spec PyProof.Rows
section
variable {X : Cx}
theorem nums_rep : ∀ {ns : List Int} {its : List Value}, Vals (ns.map V.int) its → (∀ v ∈ its, ∃ a t, v = Value.int a t) ∧ numsOf its = ns
  | [], _, .nil => ⟨fun _ h => (nomatch h), rfl⟩
  | n :: ns, _, .cons r t => by
    obtain ⟨tk, rfl⟩ := r
    obtain ⟨h1, h2⟩ := nums_rep t
    refine ⟨fun v hv => ?_, by rw [numsOf, h2]⟩
    rcases List.mem_cons.mp hv with rfl | hv
    · exact ⟨_, _, rfl⟩
    · exact h1 v hv
theorem ints_rep {ns : List Int} {its : List Value} (r : Vals (ns.map V.int) its) : ∃ xs : Array (Int × Tok), its.toArray = intItems xs ∧ preSum (numAt xs) xs.size = ns.sum := by
  obtain ⟨h1, h2⟩ := nums_rep r
  obtain ⟨xs, e⟩ := AllInts.items (vs := its.toArray) fun v hv => h1 v (by simpa using hv)
  refine ⟨xs, e, ?_⟩
  rw [preSum_eq, List.take_of_length_le (by simp), ← nums_intItems, ← e, h2]
theorem call_sum (hc : X.calm = true) : CallR X (.builtin "sum") (fun xs H Q => ∃ (p : Addr) (ns : List Int), xs = [.ref p] ∧ SqL X.K H p (ns.map V.int) ∧ Q (.int ns.sum) H) := by
  intro pins s σ H xs us Q I rv h
  obtain ⟨p, ns, rfl, hq, q⟩ := h
  obtain ⟨u, rfl, ru⟩ := rv.one
  cases ru
  obtain ⟨its, r, pl, hz⟩ := I.list hq
  obtain ⟨ys, e1, e2⟩ := ints_rep r
  have pl' := pl.isList
  rw [e1] at pl'
  refine sum_intListG (I.ok.hd hc) pl' fun h' tk t' hk => ?_
  rw [e2]
  exact ⟨.int ns.sum, H, I.kept (t' := tk) hk, ⟨_, rfl⟩, q⟩
theorem len_bodyH {prog : Program} {w : World} {K : Type} [DecidableEq K] {knd : HeapKind prog w K} {A : Around} {E : Value → Shared → Prop} {s : Shared} {d : Addr} {xs : List (K × Addr × Value)} {Q : Value → Shared → Prop} (hd : (d == sysModules) = false) (hm : s.heap.DictOfH knd d xs) (hfit : (xs.length : Int) < 2 ^ 63)
    (h : Q (.int xs.length (s.toks + 1)) { s with toks := s.toks + 1 + 1 }) : wpAny (model prog w) A (call (.builtin "len") [.ref d]) Q E s := by
  have ml : MeetsIn prog w (Builtin.«dict.__len__» ⟨[.ref d], []⟩) (fun _ R s => ∃ xs, s.heap.DictOfH knd d xs ∧ R (.ok (.ret (.int xs.length s.toks))) { s with toks := s.toks + 1 }) :=
    .of_wp fun A R s ⟨xs, hm, h⟩ => by
      obtain ⟨o, es, ep, ho, hc, hdat, he, _⟩ := hm
      show wpAny _ _ (dictSize d >>= _) _ _ s
      unfold dictSize
      refine wpAny_bind (wpAny_bind (wpAny_dictEntries ho hdat (wpAny_pure ?_)))
      show wpAny _ _ (Builtin.Dict.pendingCount d >>= _) _ _ s
      refine wpAny_bind (wpAny_pendingCount_other hd ?_)
      refine wpAny_ret_mkInt ?_
      have : es.size = xs.length := size_of_entries he
      rw [Nat.add_zero, this]; exact h
  refine Calls.call_function_entry kind_len plain_len entry_len (args_len1 _) ?_
  unfold Builtin.«len»
  refine wpAny_bind (m := oneArg "len" _) (wpAny_pure ?_)
  refine wpAny_bind (m := callSpecial? (.ref d) (Str.ofString "__len__")) (wpAny_callSpecial?_slot (name := Str.ofString "__len__") hm.typeIs F.slot_dict_len
    (call_meetsIn F.slot_dict_len hm.typeIs F.entry_dict_len (F.args_dict_len_1 _) ml ⟨xs, hm, ?_⟩))
  show wpAny _ _ _ _ _ { s with toks := s.toks + 1 }
  refine wpAny_bind (wpAny_holding (wpAny_pure ?_))
  refine wpAny_bind (wpAny_letGo ?_)
  show wpAny _ _ (if ((xs.length : Nat) : Int) < 0 then _ else _) _ _ _
  rw [if_neg (by omega)]
  show wpAny _ _ (if ((xs.length : Nat) : Int) ≥ 2 ^ 63 then _ else _) _ _ _
  rw [if_neg (by omega)]
  exact wpAny_bind (wpAny_mkInt (wpAny_pure ⟨_, rfl, h⟩))
theorem call_len_dT : CallR X (.builtin "len") (fun xs H Q => ∃ a kvs, xs = [V.ref a] ∧ H a = some (.dT kvs) ∧ Q (.int kvs.length) H) := by
  intro pins s σ H xs us Q I r h
  obtain ⟨a, kvs, rfl, e, q⟩ := h
  obtain ⟨u, rfl, rx⟩ := vals1 r
  cases rx
  obtain ⟨z, hd, ys, rel, dd⟩ := dt_of I.hok e
  refine len_bodyH hd dd (by rw [← Paired.length rel]; rw [sizeLine_eq] at z; omega) ?_
  rw [← Paired.length rel]
  exact ⟨.int kvs.length, H, I.tok _, ⟨_, rfl⟩, q⟩
noncomputable def rIxD (K : PySem.W.Frag) : R2 := fun x y H Q => ∃ a b kvs k v, x = .ref a ∧ y = .ref b ∧ H a = some (.dT kvs) ∧ SqT K H b (k.map kV) ∧ valV kvs k = some v ∧ Q v H
noncomputable def rSetdef : V → List V → Hp → VK → Prop := fun x xs H Q => ∃ a b kvs k v, x = .ref a ∧ xs = [.ref b, v] ∧ H a = some (.dT kvs) ∧ H b = some (.tup (k.map kV)) ∧ kvs.length < sizeLine ∧
  (∀ z, valV kvs k = some z → Q z H) ∧ (valV kvs k = none → Q v (upd H a (.dT (putK kvs k v))))
end
end L2
namespace L2
open PySem PySem.Spec PyProof.Rows
section
variable {X : Cx}
noncomputable def isRef : V → Bool
  | .ref _ => true
  | _ => false
noncomputable def rInD (K : PySem.W.Frag) (neg : Bool) : R2 := fun x y H Q => ∃ p xs ds d, y = .ref p ∧ SqL K H p xs ∧ xs.all isRef = true ∧ Rep K H d x ∧ Reps K H ds xs ∧ hgts ds ≤ 30 ∧
  Q (.bl (if neg then !(ds.any fun d' => eqD d' d) else ds.any fun d' => eqD d' d)) H
open Classical in
noncomputable def eqW (K : PySem.W.Frag) (H : Hp) (d : D) (u : Value) : Bool := decide (∃ a d', u = .ref a ∧ Rep K H d' (.ref a) ∧ eqD d' d = true)
open Classical in
theorem eqW_of {pins : List (Addr × Obj)} {σ : St} {H : Hp} {s : Shared} (I : Inv X pins σ H s) {d d' : D} {a : Addr} (h : Rep X.K H d' (.ref a)) : eqW X.K H d (.ref a) = eqD d' d := by
  unfold eqW
  cases e : eqD d' d with
  | true => exact decide_eq_true (p := ∃ b d2, Value.ref a = .ref b ∧ Rep X.K H d2 (.ref b) ∧ eqD d2 d = true) ⟨a, d', rfl, h, e⟩
  | false =>
    refine decide_eq_false ?_
    rintro ⟨b, d2, e1, h2, e2⟩
    cases e1
    rw [I.rep_inj h2 h, e] at e2
    cases e2
theorem any_eqW {pins : List (Addr × Obj)} {σ : St} {H : Hp} {s : Shared} (I : Inv X pins σ H s) {d : D} : ∀ {ds : List D} {xs : List V} {us : List Value}, Vals xs us → xs.all isRef = true → Reps X.K H ds xs → us.any (eqW X.K H d) = ds.any fun d' => eqD d' d
  | [], _, us, r, _, h => by
    rw [show _ = [] from h] at r
    cases r
    rfl
  | d' :: ds, _, us, r, f, h => by
    obtain ⟨x, t, rfl, h1, h2⟩ := h
    cases r with
    | cons r1 r2 =>
      rw [List.all_cons, Bool.and_eq_true] at f
      cases x with
      | ref a =>
        cases r1
        rw [List.any_cons, List.any_cons, eqW_of I h1, any_eqW I r2 f.2 h2]
      | _ => exact absurd (show false = true from f.1) Bool.false_ne_true
theorem mem_eqW {pins : List (Addr × Obj)} {σ : St} {H : Hp} {s : Shared} (I : Inv X pins σ H s) {A : Around} {d : D} {x : V} {v : Value} (hd : Rep X.K H d x) (rx : RelV x v) (hu : A.units + 31 < cLine) : ∀ {ds : List D} {xs : List V} {us : List Value}, Vals xs us → xs.all isRef = true → Reps X.K H ds xs → hgts ds ≤ 30 → ∀ u ∈ us, SeqAt.EqAt A s u v (eqW X.K H d u)
  | [], _, us, r, _, h, _ => by
    rw [show _ = [] from h] at r
    cases r
    exact fun u hu => nomatch hu
  | d' :: ds, _, us, r, f, h, hh => by
    obtain ⟨y, t, rfl, h1, h2⟩ := h
    cases r with
    | cons r1 r2 =>
      rw [List.all_cons, Bool.and_eq_true] at f
      have hh' : max (hgt d') (hgts ds) ≤ 30 := hh
      cases y with
      | ref a =>
        cases r1
        intro w hw
        rcases List.mem_cons.mp hw with rfl | hw
        · rw [eqW_of I h1]
          exact I.eqAtN 30 A d' d _ x _ v h1 hd rfl rx (by omega) (by omega)
        · exact mem_eqW I hd rx hu r2 f.2 h2 (by omega) w hw
      | _ => exact absurd (show false = true from f.1) Bool.false_ne_true
theorem op_inD (hu : X.A.units + 40 < cLine) : OpR X (compareOp .In) (rInD X.K false) := by
  intro pins s σ H x y v u Q I rx ry h
  obtain ⟨p, xs, ds, d, rfl, hq, f, hd, hs, hh, q⟩ := h
  cases ry
  obtain ⟨its, r, pl, hz⟩ := I.list hq
  refine SeqAt.in_listAt (eqW X.K H d) pl.isList (fun w hw => mem_eqW I hd rx (by show X.A.units + 1 + 31 < cLine; omega) r f hs hh w (by simpa using hw)) ⟨.bl _, H, I, rfl, ?_⟩
  rw [show its.toArray.any (eqW X.K H d) = its.any (eqW X.K H d) by simp, any_eqW I r f hs]
  exact q
theorem op_notInD (hu : X.A.units + 40 < cLine) : OpR X (compareOp .NotIn) (rInD X.K true) := by
  intro pins s σ H x y v u Q I rx ry h
  obtain ⟨p, xs, ds, d, rfl, hq, f, hd, hs, hh, q⟩ := h
  cases ry
  obtain ⟨its, r, pl, hz⟩ := I.list hq
  refine SeqAt.notIn_listAt (eqW X.K H d) pl.isList (fun w hw => mem_eqW I hd rx (by show X.A.units + 1 + 31 < cLine; omega) r f hs hh w (by simpa using hw)) ⟨.bl _, H, I, rfl, ?_⟩
  rw [show its.toArray.any (eqW X.K H d) = its.any (eqW X.K H d) by simp, any_eqW I r f hs]
  exact q
end
end L2
namespace L2
open PySem PySem.Spec PyProof.Rows
section
variable {X : Cx} {e : Expr} {te : TE} {pos p2 p3 p4 : Pos} {cd : Nat}
noncomputable def tRev (K : PySem.W.Frag) (te : TE) : TE := fun σ H Q => te σ H fun x H1 => ∃ a xs, x = .ref a ∧ SqL K H1 a xs ∧ ∀ p, H1 p = none → Q (.ref p) (upd H1 p (.lst xs.reverse))
end
end L2
namespace Q
open PySem PySem.Spec PySem.W PyProof.Rows L2
noncomputable def ltI (ns : List Int) (i j : Nat) : Bool := decide (ns.getD i 0 < ns.getD j 0)
noncomputable def ordI (ns : List Int) : List Nat := if ns.length < 2 then List.range ns.length else (run (ltI ns) (kas_sort ns.length)).toList
noncomputable def sortI (ns : List Int) : List V := (ordI ns).map fun i => (ns.map V.int).getD i .non
noncomputable def rSortI (K : PySem.W.Frag) : List V → Hp → VK → Prop := fun xs H Q => ∃ p ns, xs = [V.ref p] ∧ SqL K H p (ns.map V.int) ∧ ns.length < 64 ∧ ns.Nodup ∧ ∀ l, H l = none → Q (.ref l) (upd H l (.lst (sortI ns)))
end Q
namespace L2
open PySem PySem.Spec PyProof.Rows
section
variable {X : Cx}
noncomputable def nats (n : Nat) : List V := (List.range n).map fun i : Nat => V.int (i : Int)
noncomputable def tLRng (ta : TA) : TE := fun σ H Q => ta σ H fun vs H1 => ∃ n : Nat, vs = [.int n] ∧ n ≤ 1000 ∧ ∀ p, H1 p = none → Q (.ref p) (upd H1 p (.lst (nats n)))
end
end L2
namespace L2
open PySem PySem.Spec PyProof.Rows
section
variable {X : Cx}
noncomputable def leP (a b c d : Int) : Bool := decide (a < c ∨ a = c ∧ b ≤ d)
noncomputable def rLeP (K : PySem.W.Frag) : R2 := fun x y H Q => ∃ p q a b c d, x = .ref p ∧ y = .ref q ∧ SqT K H p [.int a, .int b] ∧ SqT K H q [.int c, .int d] ∧ Q (.bl (leP a b c d)) H
noncomputable def rIndex : V → List V → Hp → VK → Prop := fun x vs H Q => ∃ (l : Addr) (ns : List Int) (k : Int), x = .ref l ∧ vs = [.int k] ∧ H l = some (.lst (ns.map V.int)) ∧ k ∈ ns ∧ ns.length ≤ 60 ∧ Q (.int (ns.idxOf k : Nat)) H
end
end L2
namespace Q
open PySem PySem.Spec PySem.W PyProof.Rows L2
noncomputable def plt (x y : Int × Int) : Bool := decide (x.1 < y.1 ∨ x.1 = y.1 ∧ x.2 < y.2)
noncomputable def ltP (ps : List (Int × Int)) (i j : Nat) : Bool := plt (ps.getD i (0, 0)) (ps.getD j (0, 0))
noncomputable def ordP (ps : List (Int × Int)) : List Nat := if ps.length < 2 then List.range ps.length else (run (ltP ps) (kas_sort ps.length)).toList
noncomputable def sortP {α : Type} (d : α) (ps : List (Int × Int)) (ys : List α) : List α := (ordP ps).map fun i => ys.getD i d
noncomputable def PairKeys (H : Hp) (ys : List V) (ps : List (Int × Int)) : Prop := Paired (fun v k => ∃ a, v = V.ref a ∧ H a = some (.tup [.int k.1, .int k.2])) ys ps
noncomputable def rSortP (K : PySem.W.Frag) : List V → Hp → VK → Prop := fun xs H Q => ∃ p ys ps, xs = [V.ref p] ∧ SqL K H p ys ∧ ps.length < 64 ∧ ps.Nodup ∧ PairKeys H ys ps ∧ ∀ l, H l = none → Q (.ref l) (upd H l (.lst (sortP .non ps ys)))
end Q
namespace D8
open PySem PySem.Spec PySem.W PyProof.Rows L2
noncomputable abbrev four : List (Int × Int) := [(0, 0), (0, 1), (1, 0), (1, 1)]
section
variable {prog : Program} {w : World} {A : Around} {E : Value → Shared → Prop} {s : Shared}
end
section
variable {prog : Program} {w : World} {A : Around} {R : Result → Shared → Prop} {I : Addr} {fp wr : List Addr} {G : Array GenState → Array GenState → Prop} {n : Nat} {P : Nat → Value → Prop} {St : Nat → Shared → Prop}
end
section
variable {prog : Program} {w : World} {A : Around} {E : Value → Shared → Prop} {s : Shared}
end
noncomputable def Prs (H : Hp) (as : List Addr) (ps : List (Int × Int)) : Prop := as.length = ps.length ∧ ∀ (i : Nat) a q, as[i]? = some a → ps[i]? = some q → H a = some (.tup [.int q.1, .int q.2])
noncomputable def rSetP (K : PySem.W.Frag) : List V → Hp → VK → Prop := fun xs H Q => ∃ p as ps, xs = [V.ref p] ∧ SqL K H p (as.map V.ref) ∧ Prs H as ps ∧ (∀ q ∈ ps, q ∈ four) ∧ ∀ a (ks : List (Int × Int)), H a = none → ks.Nodup → (∀ r, r ∈ ks ↔ r ∈ ps) → Q (.ref a) (upd H a (_root_.Q.setO a ks.length))
end D8
namespace L2
open PySem PySem.Spec PyProof.Rows
section
variable {X : Cx}
noncomputable def CDivB (_ j : Int) : Prop := 0 < j ∧ j.natAbs.log2 < 9000
noncomputable def rDivB : R2 := rI CDivB fun i j => .int (i / j)
noncomputable def rInsert : V → List V → Hp → VK → Prop := fun x vs H Q => ∃ l xs k y, x = .ref l ∧ vs = [.int k, y] ∧ H l = some (.lst xs) ∧ xs.length < sizeLine ∧ 0 ≤ k ∧ k ≤ xs.length ∧ Q .non (upd H l (.lst (xs.take k.toNat ++ y :: xs.drop k.toNat)))
end
end L2
namespace L2
open PySem PySem.Spec PyProof.Rows
section
variable {X : Cx}
noncomputable def rSplit : V → List V → Hp → VK → Prop := fun x vs H Q => ∃ z y : Str, x = .str z ∧ vs = [.str y] ∧ (y.length == 0) = false ∧ z.length + 2 ≤ sizeLine ∧ ∀ p, H p = none → Q (.ref p) (upd H p (.lst ((Txt.split z y).map V.str)))
theorem strs_numbered : ∀ (l : List (Str × Tok)), Vals ((l.map (·.1)).map V.str) (strValues l)
  | [] => .nil
  | (x, t) :: l => .cons ⟨t, rfl⟩ (strs_numbered l)
theorem mt_split : MtR X "str.split" rSplit := by
  intro pins s σ H v vs u us Q I rx rv h
  obtain ⟨x, y, rfl, rfl, hy, hz, q⟩ := h
  obtain ⟨t, rfl⟩ := rx
  obtain ⟨w, rfl, ru⟩ := rv.one
  obtain ⟨u, rfl⟩ := ru
  have fin : ∀ (l : List (Str × Tok)) (tk : Nat), l.map (·.1) = Txt.split x y → EP X pins σ Q (.ref s.heap.objs.size) { s with heap := s.heap.push { cls := .type "list", data := .seq (strValues l).toArray }, toks := tk } := fun l tk e => by
    have hl : ((Txt.split x y).map V.str).length ≤ sizeLine := by
      rw [List.length_map]
      exact Nat.le_trans (split_le x y) hz
    have hv : Vals ((Txt.split x y).map V.str) (strValues l) := by rw [← e]; exact strs_numbered l
    exact ⟨.ref s.heap.objs.size, _, I.lnew (t' := tk) hv hl, rfl, q _ (I.hok.fresh (Nat.le_refl _))⟩
  cases h1 : (decide (x.length < y.length) || decide (Builtin.Str.strKind x < Builtin.Str.strKind y))
  · cases hf : (Builtin.Str.occurrences x y 0 x.length (x.length + 1)).isEmpty
    · have hn : (Builtin.Str.partsBetween x (Builtin.Str.occurrences x y 0 x.length (x.length + 1)) y.length).length ≤ sizeLine := by
        rw [len_partsBetween]
        have := StrLaws.occ_length_le x y 0 x.length (x.length + 1)
        omega
      refine call_meets PySem.F.slot_str_split (typeIs_str _ _ _) PySem.F.entry_str_split (PySem.F.args_str_split_2 _ _) (PySem.meets_str_split_sep x y t u h1 hy hf (by omega) hn) ?_
      show wants _ _ _ { s with toks := _, heap := s.heap.push { cls := .type "list", data := .seq (strsFrom s.toks (Builtin.Str.partsBetween x (Builtin.Str.occurrences x y 0 x.length (x.length + 1)) y.length)).toArray } }
      rw [strsFrom_eq]
      exact fin (numbered s.toks _) _ ((numbered_texts _ _).trans ((if_neg (ne_true_of_eq_false h1)).trans (if_neg (ne_true_of_eq_false hf))).symm)
    · exact call_meets PySem.F.slot_str_split (typeIs_str _ _ _) PySem.F.entry_str_split (PySem.F.args_str_split_2 _ _) (PySem.meets_str_split_not_found x y t u h1 hy hf) (fin [(x, t)] _ ((if_neg (ne_true_of_eq_false h1)).trans (if_pos hf)).symm)
  · exact call_meets PySem.F.slot_str_split (typeIs_str _ _ _) PySem.F.entry_str_split (PySem.F.args_str_split_2 _ _) (PySem.meets_str_split_cannot_occur x y t u h1) (fin [(x, t)] _ (if_pos h1).symm)
end
noncomputable def Itz (K : PySem.W.Frag) (a b : Addr) : It :=
  ⟨fun i H => ∃ xs ys x y, SqL K H a xs ∧ SqL K H b ys ∧ xs[i]? = some x ∧ ys[i]? = some y,
   fun i H v H' => ∃ p x y, H p = none ∧ H' = upd H p (.tup [x, y]) ∧ v = .ref p ∧ (∀ xs, SqL K H a xs → xs[i]? = some x) ∧ ∀ ys, SqL K H b ys → ys[i]? = some y,
   fun i H => ∃ xs ys, SqL K H a xs ∧ SqL K H b ys ∧ (xs.length ≤ i ∨ ys.length ≤ i)⟩
structure Apart5 (z TI TO i1 i2 : Addr) : Prop where
  a1 : TI ≠ z
  a2 : TO ≠ z
  a3 : i1 ≠ z
  a4 : i2 ≠ z
  a5 : TI ≠ TO
  a6 : TI ≠ i1
  a7 : TI ≠ i2
  a8 : TO ≠ i1
  a9 : TO ≠ i2
  a10 : i1 ≠ i2
structure ZipSt (z TI TO i1 i2 a b : Addr) (i : Nat) (h : Heap) : Prop where
  hz : IsZip h z TI TO .none
  hTI : IsPair h TI (.ref i1) (.ref i2)
  hTO : ∃ u v, IsPair h TO u v
  h1 : h.IsListIter i1 a i
  h2 : h.IsListIter i2 b i
theorem list_ne {h : Heap} {a c : Addr} {its : Array Value} {o : Obj} (hl : h.IsList a its) (hc : h.get? c = some o) (hk : o.cls ≠ .type "list") : a ≠ c := by
  obtain ⟨o', e, k, _⟩ := hl
  rintro rfl
  rw [e] at hc
  cases hc
  exact hk k
theorem zip_apart {h : Heap} {z TI TO i1 i2 a b : Addr} {i : Nat} {xs ys : Array Value} (D : Apart5 z TI TO i1 i2) (st : ZipSt z TI TO i1 i2 a b i h) (h1 : h.IsList a xs) (h2 : h.IsList b ys) : ZipApart z TI TO i1 i2 a b := by
  obtain ⟨hz, hTI, ⟨u, v, hTO⟩, ⟨o1, e1, c1, _⟩, ⟨o2, e2, c2, _⟩⟩ := st
  have nz : ({ cls := .type "zip", dict := none, data := .fields #[.none, .bool false, .bool false, .ref TI, .ref TO], slots := #[] } : Obj).cls ≠ .type "list" := by show Value.type "zip" ≠ Value.type "list"; decide
  have nT : ({ cls := .type "tuple", data := .seq #[u, v] } : Obj).cls ≠ .type "list" := by show Value.type "tuple" ≠ Value.type "list"; decide
  have n1 : o1.cls ≠ .type "list" := by rw [c1]; decide
  have n2 : o2.cls ≠ .type "list" := by rw [c2]; decide
  exact ⟨D.a1, D.a2, D.a3, D.a4, D.a5, D.a6, D.a7, D.a8, D.a9, D.a10, list_ne h1 hz nz, list_ne h1 hTO nT, list_ne h1 e1 n1, list_ne h1 e2 n2, list_ne h2 hz nz, list_ne h2 hTO nT, list_ne h2 e1 n1, list_ne h2 e2 n2⟩
theorem Inv.turnedL {X : Cx} {pins : List (Addr × Obj)} {σ : St} {H : Hp} {s : Shared} {h' : Heap} {ch : List Addr} (I : Inv X pins σ H s) (k : ∀ b o, b ∉ ch → s.heap.get? b = some o → h'.get? b = some o) (hf : ∀ b ∈ ch, FpOk X pins H b) : Inv X pins σ H { s with heap := h' } := by
  have nit : ∀ b u, H b = some u → b ∉ ch := fun b u e z => by rw [(hf b z).1] at e; cases e
  refine I.step (g' := s.gens) (d' := s.drawn) (ch := ch) (fun b hb => ?_) (fun b o _ _ hc e _ => k b o hc e) (fun b o _ _ hc e _ => ⟨o.slots, k b o hc e⟩) (fun _ _ _ _ n => n)
    (fun b o hc e => ⟨o, k b o hc e⟩) (fun _ _ e => e) (fun _ _ _ e => e) (fun b ps e => ⟨#[], by rw [e]; simp⟩) (fun m hm => ?_) (fun b u e => ?_) I.bare
  · obtain ⟨f0, f1, f2, f3, f4, f5⟩ := hf b hb
    exact ⟨f3, f1, f4, f5⟩
  · obtain ⟨o, es', ep, q, r⟩ := hm
    exact ⟨o, es', ep, k _ o (fun hc => (hf _ hc).2.1 rfl) q, r⟩
  · refine (I.hok b u e).stay (fun d o hc' q' => k d o (fun hd => ?_) q') (fun d q' => q') fun d vs q' => q'
    rcases hc' with zz | zz
    · rw [zz] at hd
      exact nit b u e hd
    · exact nit d _ zz hd
theorem turn_zip {P : Program} {w : World} {K : PySem.W.Frag} {es : List Expr} {kk : Nat} {pp : Pos} (a b z TI TO i1 i2 : Addr) (D : Apart5 z TI TO i1 i2) : Turn P w K (.Tuple es kk pp) (Itz K a b) [z, TI, TO, i1, i2] z (fun i h => ZipSt z TI TO i1 i2 a b i h) where
  mem := by simp
  obj := fun i h st c hc => by
    obtain ⟨hz, hTI, ⟨u, v, hTO⟩, ⟨o1, e1, c1, d1⟩, ⟨o2, e2, c2, d2⟩⟩ := st
    simp only [List.mem_cons, List.not_mem_nil, or_false] at hc
    rcases hc with rfl | rfl | rfl | rfl | rfl
    · exact ⟨_, hz, fun v z => by cases z⟩
    · exact ⟨_, hTI, fun v z => by cases z⟩
    · exact ⟨_, hTO, fun v z => by cases z⟩
    · exact ⟨o1, e1, fun v z => by rw [d1] at z; cases z⟩
    · exact ⟨o2, e2, fun v z => by rw [d2] at z; cases z⟩
  keep := fun i h h' st k => by
    obtain ⟨hz, hTI, ⟨u, v, hTO⟩, h1, h2⟩ := st
    exact ⟨k z (by simp) _ hz, k TI (by simp) _ hTI, ⟨u, v, k TO (by simp) _ hTO⟩, h1.at fun o q => k i1 (by simp) o q, h2.at fun o q => k i2 (by simp) o q⟩
  item := by
    intro X hP hw hK hc i pins s σ H E I hf st hg
    subst hP hw hK
    obtain ⟨xs, ys, x, y, hq1, hq2, hx, hy⟩ := hg
    obtain ⟨its, rv, pl, hz0⟩ := I.list hq1
    obtain ⟨its2, rv2, pl2, hz2⟩ := I.list hq2
    obtain ⟨u, hu, ru⟩ := rv.get hx
    obtain ⟨u2, hu2, ru2⟩ := rv2.get hy
    have ZA := zip_apart D st pl.isList pl2.isList
    obtain ⟨hz, hTI, ⟨o1, o2, hTO⟩, h1, h2⟩ := st
    refine wpAny_pyNext_zip_item ZA hz hTI hTO h1 h2 pl.isList pl2.isList (by simpa using hu) (by simpa using hu2) fun h' b1 b2 b3 b4 b5 b6 kp => ?_
    have hp : H s.heap.objs.size = none := I.hok.fresh (Nat.le_refl _)
    have nn : ∀ c ∈ [z, TI, TO, i1, i2], ∀ d v, H d = some v → d ≠ c := fun c hc d v q zz => by rw [zz, (hf c hc).1] at q; cases q
    have kp' : ∀ c o, c ∉ [z, TO, i1, i2] → s.heap.get? c = some o → h'.get? c = some o := fun c o hc q => kp c o (fun e => hc (by simp [e])) (fun e => hc (by simp [e])) (fun e => hc (by simp [e])) (fun e => hc (by simp [e])) q
    have sub4 : ∀ c ∈ [z, TO, i1, i2], c ∈ [z, TI, TO, i1, i2] := fun c hc => by
      simp only [List.mem_cons, List.not_mem_nil, or_false] at hc ⊢
      rcases hc with h | h | h | h <;> simp [h]
    have I1 : Inv X pins σ (upd H s.heap.objs.size (.tup [x, y])) { s with heap := h' } := by
      refine I.step (g' := s.gens) (d' := s.drawn) (ch := [z, TO, i1, i2]) (fun c hc => ?_) (fun c o _ _ hc' q _ => kp' c o hc' q)
        (fun c o _ _ hc' q _ => ⟨o.slots, kp' c o hc' q⟩) (fun c o _ q n => by rw [upd_ne (Nat.ne_of_lt (Heap.lt_size q))]; exact n)
        (fun c o hc' q => ⟨o, kp' c o hc' q⟩) (fun c vs q => by rw [upd_ne (ne_of_none q hp)]; exact q) (fun c o v q => by rw [upd_ne (ne_of_none q hp)]; exact q)
        (fun c ps q => ⟨#[], by rw [upd_ne (ne_of_none q hp), q]; simp⟩) (fun m hm => ?_) (fun c v q => ?_) I.bare
      · obtain ⟨f0, f1, f2, f3, f4, f5⟩ := hf c (sub4 c hc)
        exact ⟨f3, f1, f4, f5⟩
      · obtain ⟨o, es', ep, q, r⟩ := hm
        refine ⟨o, es', ep, kp' _ o (fun hc => ?_) q, r⟩
        exact (hf _ (sub4 _ hc)).2.1 rfl
      · by_cases hb : c = s.heap.objs.size
        · subst hb
          rw [upd_same] at q
          cases q
          exact ⟨by show 2 ≤ sizeLine; decide, [u, u2], .cons ru (.cons ru2 .nil), ⟨_, b5, rfl, _, rfl⟩⟩
        · rw [upd_ne hb] at q
          refine (I.hok c v q).stay (fun d o hc' q' => kp' d o (fun hd => ?_) q') (fun d q' => by rw [upd_ne (ne_of_none q' hp)]; exact q') fun d vs q' => by rw [upd_ne (ne_of_none q' hp)]; exact q'
          rcases hc' with zz | zz
          · exact nn d (sub4 d hd) c v q zz.symm
          · exact nn d (sub4 d hd) d _ zz rfl
    obtain ⟨f0, f1, f2, f3, f4, f5⟩ := hf z (by simp)
    have fz : (upd H s.heap.objs.size (.tup [x, y])) z = none := by rw [upd_ne (Nat.ne_of_lt (Heap.lt_size hz))]; exact f0
    refine ⟨_, rfl, wpAny_letOwnedTupleGo_zip (s := { s with heap := h' }) b1 fun h'' hz'' hs'' => ?_⟩
    have I2 : Inv X pins σ (upd H s.heap.objs.size (.tup [x, y])) { s with heap := h'' } := I1.turned (t' := s.toks) (fun c o hb q => hs''.extBut c o hb q) fz f1 f3 f4 f5
    have hTI' : IsPair h'' TI (.ref i1) (.ref i2) := hs''.extBut _ _ D.a1 (kp TI _ D.a1 D.a5 D.a6 D.a7 hTI)
    refine ⟨.ref s.heap.objs.size, _, I2, rfl, ⟨_, x, y, hp, rfl, rfl, fun vs hv => by rw [I.list_inj hv hq1]; exact hx, fun vs hv => by rw [I.list_inj hv hq2]; exact hy⟩,
      ⟨hz'', hTI', ⟨_, _, hs''.extBut _ _ D.a2 b2⟩, b3.at fun o q => hs''.extBut i1 o D.a3 q, b4.at fun o q => hs''.extBut i2 o D.a4 q⟩, fun c hc => ?_⟩
    have hlt : c < s.heap.objs.size := by
      simp only [List.mem_cons, List.not_mem_nil, or_false] at hc
      rcases hc with rfl | rfl | rfl | rfl | rfl
      · exact Heap.lt_size hz
      · exact Heap.lt_size hTI
      · exact Heap.lt_size hTO
      · obtain ⟨o, q, _⟩ := h1; exact Heap.lt_size q
      · obtain ⟨o, q, _⟩ := h2; exact Heap.lt_size q
    rw [upd_ne (Nat.ne_of_lt hlt)]
    exact (hf c hc).1
  done := by
    intro X hP hw hK hc i pins s σ H E I hf st hg
    subst hP hw hK
    obtain ⟨xs, ys, hq1, hq2, hx⟩ := hg
    obtain ⟨its, rv, pl, hz0⟩ := I.list hq1
    obtain ⟨its2, rv2, pl2, hz2⟩ := I.list hq2
    have ZA := zip_apart D st pl.isList pl2.isList
    obtain ⟨hz, hTI, ⟨o1, o2, hTO⟩, h1, h2⟩ := st
    have l1 := rv.length
    have l2 := rv2.length
    refine wpAny_pyNext_zip_end (I.ok.hd hc) ZA hz hTI hTO h1 h2 pl.isList pl2.isList ?_ fun h' kp => ?_
    · rcases hx with hx | hx
      · exact .inl (by simp; omega)
      · exact .inr (by simp; omega)
    · exact ⟨rfl, I.turnedL (ch := [z, TO, i1, i2]) (fun c o hc' q => kp c o (fun e => hc' (by simp [e])) (fun e => hc' (by simp [e])) (fun e => hc' (by simp [e])) (fun e => hc' (by simp [e])) q) fun c hc' => hf c (by
        simp only [List.mem_cons, List.not_mem_nil, or_false] at hc' ⊢
        rcases hc' with h | h | h | h <;> simp [h])⟩
  self := fun _ _ _ _ _ st h => wpAny_pyIter_zip st.hz h
section
variable {X : Cx} {es : List Expr} {kk : Nat} {pp : Pos}
noncomputable def iZip (K : PySem.W.Frag) (t : TA) : TI := fun σ H R => t σ H fun vs H1 => ∃ a b, vs = [.ref a, .ref b] ∧ (∃ xs, SqL K H1 a xs) ∧ (∃ ys, SqL K H1 b ys) ∧ R (Itz K a b) H1
theorem apart_n (n : Nat) : Apart5 (n + 4) (n + 2) (n + 3) n (n + 1) :=
  ⟨Nat.ne_of_lt (by omega), Nat.ne_of_lt (by omega), Nat.ne_of_lt (by omega), Nat.ne_of_lt (by omega), Nat.ne_of_lt (by omega), Nat.ne_of_gt (by omega), Nat.ne_of_gt (by omega), Nat.ne_of_gt (by omega), Nat.ne_of_gt (by omega), Nat.ne_of_lt (by omega)⟩
theorem boot_zip : bootBuiltins "zip" = some (.type "zip") := by decide +kernel
theorem pi_zip {l m : Expr} {t : TA} {p pos : Pos} (hg : Gl X "zip") (hm : X.mg "zip" = none) (ha : PA X [l, m] t) (hs : starEach [l, m] X.env = (false, eval l X.env) :: starEach [m] X.env) (hpl : (backTo pos (starEach [m] X.env)).any (·.1) = false) :
    PI X (.Tuple es kk pp) (.Call (.Name "zip" p) [l, m] [] pos) (iZip X.K t) := by
  intro pins s σ H R I h
  refine Call_ (ld_blt I hg hm boot_zip (PyProof.Rows.callWith_type1 (thn (ha pos pins s σ H _ I h) fun us s1 ⟨vs, H1, I1, r1, q1⟩ => ?_) hs hpl))
  obtain ⟨a, b, rfl, ⟨xs, hq1⟩, ⟨ys, hq2⟩, q⟩ := q1
  obtain ⟨u, v, rfl, ru, rv⟩ := r1.two
  cases ru
  cases rv
  obtain ⟨its, r2, pl, hz⟩ := I1.list hq1
  obtain ⟨its2, r3, pl2, hz2⟩ := I1.list hq2
  refine call_zip_2 pl.isList pl2.isList fun h' z1 z2 z3 z4 z5 z6 kp => ?_
  refine wpAny_pyIter_zip (s := { s1 with heap := h' }) z1 ?_
  have I2 : Inv X pins σ H1 { s1 with heap := h', toks := s1.toks } := I1.kept kp
  have D : Apart5 (s1.heap.objs.size + 4) (s1.heap.objs.size + 2) (s1.heap.objs.size + 3) s1.heap.objs.size (s1.heap.objs.size + 1) := apart_n _
  refine ⟨_, _, _, _, H1, rfl, I2, turn_zip a b _ _ _ _ _ D, ⟨z1, z2, ⟨_, _, z3⟩, z4, z5⟩, fun c hc => ?_, q⟩
  have hbs : s1.heap.objs.size ≤ c := by
    simp only [List.mem_cons, List.not_mem_nil, or_false] at hc
    rcases hc with rfl | rfl | rfl | rfl | rfl
    · exact Nat.le_add_right _ _
    · exact Nat.le_add_right _ _
    · exact Nat.le_add_right _ _
    · exact Nat.le_refl _
    · exact Nat.le_add_right _ _
  exact I1.fpOk hbs (I1.hok.fresh hbs)
end
end L2
namespace L2
open PySem PySem.Spec PyProof.Rows
noncomputable def DkIn (P : Program) (w : World) (K : PySem.W.Frag) (a : Addr) (kvs : List (Key × V)) : Prop :=
  (a == sysModules) = false ∧ ∃ vs, KV kvs vs ∧ ∀ h, K.In h → h.DictOf (mixKind P w) a vs
section
variable {X : Cx} {dic : Addr → Option (List (Key × V))}
noncomputable def rInG (dic : Addr → Option (List (Key × V))) : R2 := fun x y H Q => ∃ a kvs k, y = .ref a ∧ dic a = some kvs ∧ x = kV k ∧ Q (.bl (valV kvs k).isSome) H
noncomputable def rIxG (dic : Addr → Option (List (Key × V))) : R2 := fun x y H Q => ∃ a kvs k v, x = .ref a ∧ dic a = some kvs ∧ y = kV k ∧ valV kvs k = some v ∧ Q v H
theorem op_inG (hd : ∀ a kvs, dic a = some kvs → DkIn X.prog X.w X.K a kvs) : OpR X (compareOp .In) (rInG dic) := by
  intro pins s σ H x y u v Q I rx ry h
  obtain ⟨a, kvs, k, rfl, e, rfl, q⟩ := h
  cases ry
  obtain ⟨hs, vs, rel, dd⟩ := hd a kvs e
  refine wpAny_in_of (kV_is rx) hs (dd _ I.kIn).mapOf ?_
  rw [← (rel.val k).isSome_eq]
  exact ⟨.bl (valV kvs k).isSome, H, I.tok _, rfl, q⟩
theorem ix_inG (hd : ∀ a kvs, dic a = some kvs → DkIn X.prog X.w X.K a kvs) : IxR X (rIxG dic) := by
  intro value slice pins s σ H x y v u Q I rx ry h hs
  obtain ⟨a, kvs, k, z, rfl, e, rfl, hv, q⟩ := h
  cases rx
  obtain ⟨_, vs, rel, dd'⟩ := hd a kvs e
  have dd := dd' _ I.kIn
  have hT : s.TypeIs (.ref a) "dict" := dd.typeIs
  unfold subscriptTail
  refine wpAny_bind ?_
  rw [getitemInPython_of_ne hT.not_modules]
  refine wpAny_bind (wpAny_specialOf hT PySem.F.slot_dict_getitem.lookup ?_)
  have fin : wpAny (model X.prog X.w) X.A (subscripted slice false (.ref a) u) (fun r s₃ => wpAny (model X.prog X.w) X.A (letTemporaryGo value (.ref a) r >>= fun _ => pure r) (EP X pins σ Q) X.xe s₃) X.xe s := by
    rw [hs]
    obtain ⟨w', hw, rw'⟩ := RelO.some_of (v := z) (o := valueAt vs k) (by rw [← hv]; exact rel.val k)
    refine wpAny_operating (wpAny_mono (wpAny_getItem_of (Q := EP X pins σ Q) (kV_is ry) dd.mapOf hw ?_) (fun r s₃ h₃ => wpAny_bind (wpAny_letTemporaryGo (wpAny_pure h₃))) fun _ _ x => x)
    exact ⟨z, H, I.tok _, rw', q⟩
  first
    | exact wpAny_pure (wpAny_bind fin)
    | exact wpAny_bind (wpAny_pure (wpAny_bind fin))
    | exact wpAny_bind fin
end
end L2
namespace L2
open PySem PySem.Spec PyProof.Rows
noncomputable def fText (pre post : Str) (i : Int) : Str := Str.empty ++ pre ++ (toString i : Str) ++ post
noncomputable def tFst (pre post : Str) (t : TE) : TE := fun σ H Q => (Str.empty ++ pre).length ≤ sizeLine ∧ t σ H fun x H1 => ∃ i, x = .int i ∧ i.natAbs.log2 < 1920 ∧ (fText pre post i).length ≤ sizeLine ∧ Q (.str (fText pre post i)) H1
section
variable {X : Cx}
theorem pe_fstr {pre post : Str} {e : Expr} {t : TE} {k1 k2 : Nat} {p1 p2 p3 p4 : Pos} (he : PE X e t) :
    PE X (.JoinedStr [.Constant (.str pre) k1 p1, .FormattedValue e (-1) none p2, .Constant (.str post) k2 p3] p4) (tFst pre post t) := by
  intro pins s σ H Q I h
  obtain ⟨hp, h⟩ := h
  refine wpAny_JoinedStr ?_
  have key : ∀ i : Int, (fText pre post i).length ≤ sizeLine → (Str.empty ++ pre).length ≤ sizeLine ∧ (Str.empty ++ pre ++ (toString i : Str)).length ≤ sizeLine ∧ (Str.empty ++ pre ++ (toString i : Str) ++ post).length ≤ sizeLine := fun i z => by
    have z' : (Str.empty ++ pre ++ (toString i : Str) ++ post).length ≤ sizeLine := z
    have e1 : (Str.empty ++ pre ++ (toString i : Str) ++ post).length = (Str.empty ++ pre ++ (toString i : Str)).length + post.length := strLen_append ..
    have e2 : (Str.empty ++ pre ++ (toString i : Str)).length = (Str.empty ++ pre).length + (toString i : Str).length := strLen_append ..
    omega
  show wpAny _ _ (eval (.Constant (.str pre) k1 p1) X.env) _ _ s
  refine thn (pe_str (X := X) pins s σ H (fun v H1 => v = .str pre ∧ H1 = H) I ⟨rfl, rfl⟩) fun u s1 ⟨x, H1, I1, rx, ex, eH⟩ => ?_
  subst ex
  subst eH
  obtain ⟨t1, rfl⟩ := rx
  refine ⟨pre, t1, rfl, hp, ?_⟩
  show wpAny _ _ (eval (.FormattedValue e (-1) none p2) X.env) _ _ s1
  refine wpAny_FormattedValue_plain (thn (he pins s1 σ H1 _ I1 h) fun u s2 ⟨x, H2, I2, rx, i, ex, hi, hl, q⟩ => ?_)
  subst ex
  obtain ⟨t2, rfl⟩ := rx
  refine wpAny_formatField_int hi ?_
  refine ⟨_, _, rfl, (key i hl).2.1, ?_⟩
  have I3 := I2.tok (s2.toks + 1 + 1)
  show wpAny _ _ (eval (.Constant (.str post) k2 p3) X.env) _ _ _
  refine thn (pe_str (X := X) pins _ σ H2 (fun v H1 => v = .str post ∧ H1 = H2) I3 ⟨rfl, rfl⟩) fun u s4 ⟨x, H4, I4, rx, ex, eH⟩ => ?_
  subst ex
  subst eH
  obtain ⟨t4, rfl⟩ := rx
  refine ⟨post, t4, rfl, (key i hl).2.2, hl, ?_⟩
  exact ⟨.str (fText pre post i), H4, I4.tok _, ⟨_, rfl⟩, q⟩
end
end L2
namespace PySem
section
variable {prog : Program} {w : World} {A : Around} {E : Value → Shared → Prop} {s : Shared}
theorem nxT_item {j t : Addr} {k : Nat} {xs : Array Value} {v : Value} {Q : Value → Shared → Prop} (hj : s.heap.IsTupleIter j t k) (ht : s.heap.IsTuple t xs) (hv : xs[k]? = some v)
    (q : ∀ h', h'.IsTupleIter j t (k + 1) → Heap.SameBut j s.heap h' → Q v { s with heap := h' }) : wpAny (model prog w) A (Builtin.SmallTypes.nextOf (.ref j)) Q E s := by
  obtain ⟨o, e1, e2, e3⟩ := id hj
  obtain ⟨p, f1, _, n, f3⟩ := ht
  unfold Builtin.SmallTypes.nextOf
  refine wpAny_bind (wpAny_callSpecial?_slot (name := Str.ofString "__next__") hj.typeIs F.slot_tuple_iterator_next (wpAny_call_entry F.slot_tuple_iterator_next hj.typeIs F.entry_tuple_iterator_next ?_ (F.args_tuple_iterator_next_1 _)))
  show wpAny _ _ (field (.ref j) 0 >>= _) _ _ s
  refine wpAny_bind (wpAny_field e1 e3 (x := .ref t) rfl ?_)
  show wpAny _ _ (if (Value.ref t == Value.none) = true then _ else _) _ _ s
  rw [if_neg (fun z : (Value.ref t == Value.none) = true => absurd z Bool.false_ne_true)]
  show wpAny _ _ (field (.ref j) 1 >>= _) _ _ s
  refine wpAny_bind (wpAny_field e1 e3 (x := .int k 0) rfl ?_)
  show wpAny _ _ (seqItems? (.ref t) >>= _) _ _ s
  refine wpAny_bind (wpAny_seqItems f1 f3 ?_)
  simp only [Int.toNat_natCast, hv]
  refine wpAny_bind (wpAny_setField e1 e3 (by simp) (wpAny_pure ⟨v, rfl, wpAny_pure (q _ ?_ (Heap.SameBut.update ..))⟩))
  exact ⟨_, Heap.get?_update_self _ e1 (Obj.isFreed_of_fields (Obj.data_mapFields e3 _)), (Obj.cls_mapFields ..).trans e2, by rw [Obj.data_mapFields e3]; simp [rawInt]⟩
theorem nxT_end {j t : Addr} {k : Nat} {xs : Array Value} {Q : Value → Shared → Prop} (hh : A.handled = none) (hj : s.heap.IsTupleIter j t k) (ht : s.heap.IsTuple t xs) (hv : xs[k]? = none)
    (q : ∀ h' e, Heap.ExtBut j s.heap h' → (∃ o, h'.get? e = some o ∧ o.cls = .type "StopIteration") → E (.ref e) { s with heap := h' }) : wpAny (model prog w) A (Builtin.SmallTypes.nextOf (.ref j)) Q E s := by
  obtain ⟨o, e1, e2, e3⟩ := id hj
  obtain ⟨p, f1, _, n, f3⟩ := ht
  unfold Builtin.SmallTypes.nextOf
  refine wpAny_bind (wpAny_callSpecial?_slot (name := Str.ofString "__next__") hj.typeIs F.slot_tuple_iterator_next (wpAny_call_entry F.slot_tuple_iterator_next hj.typeIs F.entry_tuple_iterator_next ?_ (F.args_tuple_iterator_next_1 _)))
  show wpAny _ _ (field (.ref j) 0 >>= _) _ _ s
  refine wpAny_bind (wpAny_field e1 e3 (x := .ref t) rfl ?_)
  show wpAny _ _ (if (Value.ref t == Value.none) = true then _ else _) _ _ s
  rw [if_neg (fun z : (Value.ref t == Value.none) = true => absurd z Bool.false_ne_true)]
  show wpAny _ _ (field (.ref j) 1 >>= _) _ _ s
  refine wpAny_bind (wpAny_field e1 e3 (x := .int k 0) rfl ?_)
  show wpAny _ _ (seqItems? (.ref t) >>= _) _ _ s
  refine wpAny_bind (wpAny_seqItems f1 f3 ?_)
  simp only [Int.toNat_natCast, hv]
  refine wpAny_bind (wpAny_rule (wpAny_bind (wpAny_setField e1 e3 (by simp) ?_))); show wpAny _ _ (newExc (.type "StopIteration") [] >>= _) _ _ _
  refine wpAny_bind ?_; simp only [newExc, newTuple]
  refine wpAny_bind (wpAny_newObj_type ?_ (by size_fits)); refine wpAny_bind (m := firstArgMember _ _) (wpAny_of_eq (a := Value.none) (by first | rfl | (simp only [firstArgMember]; rfl)) ?_)
  refine wpAny_newObj_type ?_ (by size_fits); simp only [raiseNew]
  refine wpAny_bind (wpAny_handled ?_); first | rw [show A.in1.handled = none from hh] | rw [hh]
  refine wpAny_bind (wpAny_pure (wpAny_throw ?_)); exact q _ _ (((Heap.SameBut.update ..).extBut.push _).push _) ⟨_, Heap.get?_push_size _ rfl, rfl⟩
theorem znT_item {z TI TO i1 i2 t l : Addr} {k m : Nat} {xs ys : Array Value} {x y a b : Value} {Q : Value → Shared → Prop} (D : ZipApart z TI TO i1 i2 t l) (hz : IsZip s.heap z TI TO .none) (hTI : IsPair s.heap TI (.ref i1) (.ref i2)) (hTO : IsPair s.heap TO a b)
    (h1 : s.heap.IsTupleIter i1 t k) (h2 : s.heap.IsListIter i2 l m) (ht : s.heap.IsTuple t xs) (hl : s.heap.IsList l ys) (hx : xs[k]? = some x) (hy : ys[m]? = some y)
    (q : ∀ h', IsZip h' z TI TO (rawInt s.heap.objs.size) → IsPair h' TO x y → h'.IsTupleIter i1 t (k + 1) → h'.IsListIter i2 l (m + 1) → IsPair h' s.heap.objs.size x y → (∀ c o, c ≠ z → c ≠ TO → c ≠ i1 → c ≠ i2 → s.heap.get? c = some o → h'.get? c = some o) → Q (.ref s.heap.objs.size) { s with heap := h' }) :
    wpAny (model prog w) A (Builtin.«zip.__next__» ⟨[.ref z], []⟩) (fun fin s' => ∃ v, fin = .done (.ret v) ∧ Q v s') E s := by
  show wpAny _ _ (field (.ref z) 2 >>= _) _ _ _; refine wpAny_bind (wpAny_field hz rfl (x := .bool false) rfl ?_)
  show wpAny _ _ (field (.ref z) 3 >>= _) _ _ _; refine wpAny_bind (wpAny_field hz rfl (x := .ref TI) rfl ?_)
  refine wpAny_bind (wpAny_seqItems hTI rfl ?_); show wpAny _ _ (Builtin.SmallTypes.ownedTupleIsFree (.ref z) >>= _) _ _ _
  refine wpAny_bind ?_; unfold Builtin.SmallTypes.ownedTupleIsFree
  refine wpAny_bind (wpAny_field hz rfl (x := .none) rfl (wpAny_pure ?_)); simp only [if_true]
  refine wpAny_bind (wpAny_rule (wpAny_bind (wpAny_field hz rfl (x := .ref TO) rfl ?_)))
  refine wpAny_bind (wpAny_setField_rec hz (by simp) fun ha za sa => ?_)
  have za : IsZip ha z TI TO .ellipsis := za
  refine wpAny_bind ?_; simp only [List.zipIdx_cons, List.zipIdx_nil, List.forIn_cons, List.forIn_nil]
  refine wpAny_bind (wpAny_bind (wpAny_onRaise ?_)); show wpAny _ _ (Builtin.SmallTypes.nextOf (.ref i1) >>= _) _ _ _
  refine wpAny_bind (nxT_item (h1.extBut sa.extBut D.i1z) (ht.extBut sa.extBut D.l1z) hx fun hb jb sb => wpAny_pure ?_)
  have ob : IsPair hb TO a b := sb.extBut _ _ D.TOi1 (sa.extBut _ _ D.TOz hTO)
  refine wpAny_bind (wpAny_seqItems ob rfl (wpAny_bind (wpAny_updateSeq_pair ob fun hc oc sc => wpAny_bind (wpAny_letGo (wpAny_pure ?_)))))
  have oc : IsPair hc TO x b := oc
  refine wpAny_bind (wpAny_bind (wpAny_onRaise ?_)); show wpAny _ _ (Builtin.SmallTypes.nextOf (.ref i2) >>= _) _ _ _
  refine wpAny_bind (wpAny_nextOf_list_item (((h2.extBut sa.extBut D.i2z).extBut sb.extBut D.i12.symm).extBut sc.extBut D.TOi2.symm) (((hl.extBut sa.extBut D.l2z).extBut sb.extBut D.l2i1).extBut sc.extBut D.l2TO) hy fun hd jd sd => wpAny_pure ?_)
  have od : IsPair hd TO x b := sd.extBut _ _ D.TOi2 oc
  refine wpAny_bind (wpAny_seqItems od rfl (wpAny_bind (wpAny_updateSeq_pair od fun he oe se => wpAny_bind (wpAny_letGo (wpAny_pure (wpAny_pure ?_))))))
  have oe : IsPair he TO x y := oe
  refine wpAny_bind (wpAny_seqItems oe rfl (wpAny_bind (wpAny_newTuple ?_)))
  have sz : he.objs.size = s.heap.objs.size := by rw [se.1, sd.1, sc.1, sb.1, sa.1]
  have ze : IsZip he z TI TO .ellipsis := se.extBut _ _ D.TOz.symm (sd.extBut _ _ D.i2z.symm (sc.extBut _ _ D.TOz.symm (sb.extBut _ _ D.i1z.symm za)))
  have ke : ∀ c o, c ≠ z → c ≠ TO → c ≠ i1 → c ≠ i2 → s.heap.get? c = some o → he.get? c = some o := fun c o c1 c2 c3 c4 e => se.extBut _ _ c2 (sd.extBut _ _ c4 (sc.extBut _ _ c2 (sb.extBut _ _ c3 (sa.extBut _ _ c1 e))))
  have j1 : he.IsTupleIter i1 t (k + 1) := ((jb.extBut sc.extBut D.TOi1.symm).extBut sd.extBut D.i12).extBut se.extBut D.TOi1.symm
  have j2 : he.IsListIter i2 l (m + 1) := jd.extBut se.extBut D.TOi2.symm
  have zl : z < he.objs.size := Heap.lt_size ze
  show wpAny _ _ (Builtin.SmallTypes.ownedTupleHandOut (.ref z) (.ref he.objs.size) >>= _) _ _ _
  refine wpAny_bind ?_; unfold Builtin.SmallTypes.ownedTupleHandOut
  have zf : IsZip (he.push { cls := .type "tuple", data := .seq #[x, y] }) z TI TO .ellipsis := Heap.get?_push_of_some _ ze
  refine wpAny_bind (wpAny_setField_rec zf (by simp) fun hg zg sg => ?_)
  have zg : IsZip hg z TI TO (rawInt he.objs.size) := zg
  refine wpAny_setField_rec zg (by simp) fun hi zi si => ?_
  have zi : IsZip hi z TI TO (rawInt he.objs.size) := zi
  have up : ∀ c o, c ≠ z → he.get? c = some o → hi.get? c = some o := fun c o c1 e => si.extBut _ _ c1 (sg.extBut _ _ c1 (Heap.get?_push_of_some _ e))
  have ti : IsPair hi he.objs.size x y := si.extBut _ _ (Nat.ne_of_gt zl) (sg.extBut _ _ (Nat.ne_of_gt zl) (Heap.get?_push_size _ rfl))
  rw [sz] at zi ti
  refine wpAny_pure ⟨_, rfl, ?_⟩
  show Q (.ref he.objs.size) _
  rw [sz]
  exact q hi zi (up _ _ D.TOz oe) (j1.at fun o e => up _ o D.i1z e) (j2.at fun o e => up _ o D.i2z e) ti fun c o c1 c2 c3 c4 e => up c o c1 (ke c o c1 c2 c3 c4 e)
theorem znT_end {z TI TO i1 i2 t : Addr} {k : Nat} {xs : Array Value} {a b : Value} {Q : Fin → Shared → Prop} (hh : A.handled = none) (d1 : i1 ≠ z) (d2 : t ≠ z) (hz : IsZip s.heap z TI TO .none) (hTI : IsPair s.heap TI (.ref i1) (.ref i2)) (hTO : IsPair s.heap TO a b)
    (h1 : s.heap.IsTupleIter i1 t k) (ht : s.heap.IsTuple t xs) (hx : xs[k]? = none)
    (q : ∀ h' e, (∀ c o, c ≠ z → c ≠ TO → c ≠ i1 → c ≠ i2 → s.heap.get? c = some o → h'.get? c = some o) → (∃ o, h'.get? e = some o ∧ o.cls = .type "StopIteration") → E (.ref e) { s with heap := h' }) :
    wpAny (model prog w) A (Builtin.«zip.__next__» ⟨[.ref z], []⟩) Q E s := by
  show wpAny _ _ (field (.ref z) 2 >>= _) _ _ _; refine wpAny_bind (wpAny_field hz rfl (x := .bool false) rfl ?_)
  show wpAny _ _ (field (.ref z) 3 >>= _) _ _ _; refine wpAny_bind (wpAny_field hz rfl (x := .ref TI) rfl ?_)
  refine wpAny_bind (wpAny_seqItems hTI rfl ?_); show wpAny _ _ (Builtin.SmallTypes.ownedTupleIsFree (.ref z) >>= _) _ _ _
  refine wpAny_bind ?_; unfold Builtin.SmallTypes.ownedTupleIsFree
  refine wpAny_bind (wpAny_field hz rfl (x := .none) rfl (wpAny_pure ?_)); simp only [if_true]
  refine wpAny_bind (wpAny_rule (wpAny_bind (wpAny_field hz rfl (x := .ref TO) rfl ?_)))
  refine wpAny_bind (wpAny_setField_rec hz (by simp) fun ha za sa => ?_)
  have za : IsZip ha z TI TO .ellipsis := za
  refine wpAny_bind ?_; simp only [List.zipIdx_cons, List.zipIdx_nil, List.forIn_cons, List.forIn_nil]
  refine wpAny_bind (wpAny_bind (wpAny_onRaise ?_)); show wpAny _ _ (Builtin.SmallTypes.nextOf (.ref i1) >>= _) _ _ _
  refine wpAny_bind (nxT_end hh (h1.extBut sa.extBut d1) (ht.extBut sa.extBut d2) hx fun hb e sb he => ?_)
  obtain ⟨oe, e1, e2⟩ := he
  have zb : IsZip hb z TI TO .ellipsis := sb _ _ d1.symm za
  have ne : e ≠ z := fun x => by subst x; rw [zb] at e1; cases e1; simp at e2
  refine wpAny_setField_rec zb (by simp) fun hc _ sc => q hc e (fun c o c1 _ c3 _ x => sc.extBut _ _ c1 (sb _ _ c3 (sa.extBut _ _ c1 x))) ⟨oe, sc.extBut _ _ ne e1, e2⟩
theorem pnT_item {z TI TO i1 i2 t l : Addr} {k m : Nat} {xs ys : Array Value} {x y a b : Value} {Q : Option Value → Shared → Prop} (D : ZipApart z TI TO i1 i2 t l) (hz : IsZip s.heap z TI TO .none) (hTI : IsPair s.heap TI (.ref i1) (.ref i2)) (hTO : IsPair s.heap TO a b)
    (h1 : s.heap.IsTupleIter i1 t k) (h2 : s.heap.IsListIter i2 l m) (ht : s.heap.IsTuple t xs) (hl : s.heap.IsList l ys) (hx : xs[k]? = some x) (hy : ys[m]? = some y)
    (q : ∀ h', IsZip h' z TI TO (rawInt s.heap.objs.size) → IsPair h' TO x y → h'.IsTupleIter i1 t (k + 1) → h'.IsListIter i2 l (m + 1) → IsPair h' s.heap.objs.size x y → (∀ c o, c ≠ z → c ≠ TO → c ≠ i1 → c ≠ i2 → s.heap.get? c = some o → h'.get? c = some o) → Q (some (.ref s.heap.objs.size)) { s with heap := h' }) :
    wpAny (model prog w) A (pyNext (.ref z)) Q E s := by
  have hT : s.TypeIs (.ref z) "zip" := ⟨_, hz, rfl⟩
  unfold pyNext
  exact wpAny_bind (wpAny_attempt (wpAny_callSpecial?_slot (name := Str.ofString "__next__") hT F.slot_zip_next (wpAny_call_entry F.slot_zip_next hT F.entry_zip_next (znT_item D hz hTI hTO h1 h2 ht hl hx hy fun h' a1 a2 a3 a4 a5 a6 => wpAny_pure (q h' a1 a2 a3 a4 a5 a6)) (F.args_zip_next_1 _))))
theorem pnT_end {z TI TO i1 i2 t : Addr} {k : Nat} {xs : Array Value} {a b : Value} {Q : Option Value → Shared → Prop} (hh : A.handled = none) (d1 : i1 ≠ z) (d2 : t ≠ z) (hz : IsZip s.heap z TI TO .none) (hTI : IsPair s.heap TI (.ref i1) (.ref i2)) (hTO : IsPair s.heap TO a b)
    (h1 : s.heap.IsTupleIter i1 t k) (ht : s.heap.IsTuple t xs) (hx : xs[k]? = none)
    (q : ∀ h', (∀ c o, c ≠ z → c ≠ TO → c ≠ i1 → c ≠ i2 → s.heap.get? c = some o → h'.get? c = some o) → Q none { s with heap := h' }) : wpAny (model prog w) A (pyNext (.ref z)) Q E s := by
  have hT : s.TypeIs (.ref z) "zip" := ⟨_, hz, rfl⟩
  unfold pyNext
  refine wpAny_bind (wpAny_attempt (wpAny_callSpecial?_slot (name := Str.ofString "__next__") hT F.slot_zip_next (wpAny_call_entry F.slot_zip_next hT F.entry_zip_next (znT_end hh d1 d2 hz hTI hTO h1 ht hx fun h' e kp he => ?_) (F.args_zip_next_1 _))))
  obtain ⟨o, e1, e2⟩ := he
  exact wpAny_bind (wpAny_isInstance (T := "StopIteration") (b := true) ⟨o, e1, e2⟩ isSubtype_stop (wpAny_pure (q _ kp)))
end
noncomputable abbrev zT1 (h : Heap) (t : Addr) : Heap := h.push { cls := .type "tuple_iterator", data := .fields #[.ref t, .int 0 0] }
noncomputable abbrev zT2 (h : Heap) (t l : Addr) : Heap := (zT1 h t).push { cls := .type "list_iterator", data := .fields #[.ref l, .int 0 0] }
noncomputable abbrev zT3 (h : Heap) (t l : Addr) : Heap := (zT2 h t l).push { cls := .type "tuple", data := .seq #[.ref h.objs.size, .ref (zT1 h t).objs.size] }
noncomputable abbrev zT4 (h : Heap) (t l : Addr) : Heap := (zT3 h t l).push { cls := .type "tuple", data := .seq #[.none, .none] }
noncomputable abbrev zT5 (h : Heap) (t l : Addr) : Heap := (zT4 h t l).push { cls := .type "zip", data := .fields #[.none, .bool false, .bool false, .ref (zT2 h t l).objs.size, .ref (zT3 h t l).objs.size] }
theorem meets_zipT (t l : Addr) (xs ys : Array Value) : Meets (Builtin.«zip.__new__» ⟨[.type "zip", .ref t, .ref l], []⟩) (fun _ R s => s.heap.IsTuple t xs ∧ s.heap.IsList l ys ∧ R (.ok (.ret (.ref (zT4 s.heap t l).objs.size))) { s with heap := zT5 s.heap t l }) :=
  .of_wp fun prog w A R s h => by
    obtain ⟨hp, g, d, tk, os⟩ := s
    obtain ⟨h1, h2, h⟩ := h
    have hsub := sub_zip
    have e1 : Heap.IsTuple (Shared.heap ⟨hp, g, d, tk, os⟩) t xs := h1
    have e2 : Heap.IsList (Shared.heap ⟨hp.push { cls := .type "tuple_iterator", data := .fields #[.ref t, .int 0 0] }, g, d, tk, os⟩) l ys := Heap.IsList.push h2 _
    wp_walk using wpAny_pyIter_tuple e1, wpAny_pyIter_list e2
    exact ⟨_, rfl, h⟩
theorem call_zipT {prog : Program} {w : World} {A : Around} {E : Value → Shared → Prop} {s : Shared} {t l : Addr} {xs ys : Array Value} {Q : Value → Shared → Prop} (h1 : s.heap.IsTuple t xs) (h2 : s.heap.IsList l ys)
    (h : ∀ h', IsZip h' (s.heap.objs.size + 4) (s.heap.objs.size + 2) (s.heap.objs.size + 3) .none → IsPair h' (s.heap.objs.size + 2) (.ref s.heap.objs.size) (.ref (s.heap.objs.size + 1)) → IsPair h' (s.heap.objs.size + 3) .none .none → h'.IsTupleIter s.heap.objs.size t 0 → h'.IsListIter (s.heap.objs.size + 1) l 0 → (∀ c o, s.heap.get? c = some o → h'.get? c = some o) → Q (.ref (s.heap.objs.size + 4)) { s with heap := h' }) :
    wpAny (model prog w) A (call (.type "zip") [.ref t, .ref l]) Q E s := by
  refine callType_new F.called_zip (by decide) (F.typeCall_zip_2 _ _) (F.newCall_zip_2 _ _) (fun obj => F.args_object_init_3 obj _ _) F.entry_zip_new (meets_zipT t l xs ys) ⟨h1, h2, ?_⟩
  have z1 : (zT1 s.heap t).objs.size = s.heap.objs.size + 1 := Heap.size_push ..
  have z2 : (zT2 s.heap t l).objs.size = s.heap.objs.size + 2 := by rw [Heap.size_push, z1]
  have z3 : (zT3 s.heap t l).objs.size = s.heap.objs.size + 3 := by rw [Heap.size_push, z2]
  have z4 : (zT4 s.heap t l).objs.size = s.heap.objs.size + 4 := by rw [Heap.size_push, z3]
  have g5 : (zT5 s.heap t l).get? (zT4 s.heap t l).objs.size = some _ := Heap.get?_push_size _ rfl
  have g4 : (zT5 s.heap t l).get? (zT3 s.heap t l).objs.size = some _ := Heap.get?_push_of_some _ (Heap.get?_push_size _ rfl)
  have g3 : (zT5 s.heap t l).get? (zT2 s.heap t l).objs.size = some _ := Heap.get?_push_of_some _ (Heap.get?_push_of_some _ (Heap.get?_push_size _ rfl))
  have g2 : (zT5 s.heap t l).get? (zT1 s.heap t).objs.size = some _ := Heap.get?_push_of_some _ (Heap.get?_push_of_some _ (Heap.get?_push_of_some _ (Heap.get?_push_size _ rfl)))
  have g1 : (zT5 s.heap t l).get? s.heap.objs.size = some _ := Heap.get?_push_of_some _ (Heap.get?_push_of_some _ (Heap.get?_push_of_some _ (Heap.get?_push_of_some _ (Heap.get?_push_size _ rfl))))
  show _ ∧ _
  rw [z2, z3, z4] at g5; rw [z1, z2] at g3; rw [z3] at g4; rw [z1] at g2; rw [z4]
  exact ⟨⟨_, g5, rfl⟩, h _ g5 g3 g4 ⟨_, g1, rfl, rfl⟩ ⟨_, g2, rfl, rfl⟩ fun c o x => Heap.get?_push_of_some _ (Heap.get?_push_of_some _ (Heap.get?_push_of_some _ (Heap.get?_push_of_some _ (Heap.get?_push_of_some _ x))))⟩
end PySem
namespace L2
open PySem PySem.Spec PyProof.Rows
noncomputable def Itzt (K : PySem.W.Frag) (a b : Addr) : It :=
  ⟨fun i H => ∃ xs ys x y, SqT K H a xs ∧ SqL K H b ys ∧ xs[i]? = some x ∧ ys[i]? = some y,
   fun i H v H' => ∃ p x y, H p = none ∧ H' = upd H p (.tup [x, y]) ∧ v = .ref p ∧ (∀ xs, SqT K H a xs → xs[i]? = some x) ∧ ∀ ys, SqL K H b ys → ys[i]? = some y,
   fun i H => ∃ xs, SqT K H a xs ∧ xs.length ≤ i⟩
structure ZtSt (z TI TO i1 i2 a b : Addr) (i : Nat) (h : Heap) : Prop where
  hz : IsZip h z TI TO .none
  hTI : IsPair h TI (.ref i1) (.ref i2)
  hTO : ∃ u v, IsPair h TO u v
  h1 : h.IsTupleIter i1 a i
  h2 : h.IsListIter i2 b i
theorem tup_ne {h : Heap} {a c : Addr} {its : Array Value} {o : Obj} (hl : h.IsTuple a its) (hc : h.get? c = some o) (hk : o.cls ≠ .type "tuple") : a ≠ c := by
  obtain ⟨o', e, k, _⟩ := hl
  rintro rfl
  rw [e] at hc
  cases hc
  exact hk k
theorem zt_apart {h : Heap} {z TI TO i1 i2 a b : Addr} {i : Nat} {xs ys : Array Value} (D : Apart5 z TI TO i1 i2) (aTO : a ≠ TO) (st : ZtSt z TI TO i1 i2 a b i h) (h1 : h.IsTuple a xs) (h2 : h.IsList b ys) : ZipApart z TI TO i1 i2 a b := by
  obtain ⟨hz, hTI, ⟨u, v, hTO⟩, ⟨o1, e1, c1, _⟩, ⟨o2, e2, c2, _⟩⟩ := st
  have nz : ({ cls := .type "zip", dict := none, data := .fields #[.none, .bool false, .bool false, .ref TI, .ref TO], slots := #[] } : Obj).cls ≠ .type "list" := by show Value.type "zip" ≠ Value.type "list"; decide
  have nz' : ({ cls := .type "zip", dict := none, data := .fields #[.none, .bool false, .bool false, .ref TI, .ref TO], slots := #[] } : Obj).cls ≠ .type "tuple" := by show Value.type "zip" ≠ Value.type "tuple"; decide
  have nT : ({ cls := .type "tuple", data := .seq #[u, v] } : Obj).cls ≠ .type "list" := by show Value.type "tuple" ≠ Value.type "list"; decide
  exact ⟨D.a1, D.a2, D.a3, D.a4, D.a5, D.a6, D.a7, D.a8, D.a9, D.a10, tup_ne h1 hz nz', aTO, tup_ne h1 e1 (by rw [c1]; decide), tup_ne h1 e2 (by rw [c2]; decide), list_ne h2 hz nz, list_ne h2 hTO nT, list_ne h2 e1 (by rw [c1]; decide), list_ne h2 e2 (by rw [c2]; decide)⟩
theorem turn_zipT {P : Program} {w : World} {K : PySem.W.Frag} {es : List Expr} {kk : Nat} {pp : Pos} (a b z TI TO i1 i2 : Addr) (D : Apart5 z TI TO i1 i2) (aTO : a ≠ TO) : Turn P w K (.Tuple es kk pp) (Itzt K a b) [z, TI, TO, i1, i2] z (fun i h => ZtSt z TI TO i1 i2 a b i h) where
  mem := by simp
  obj := fun i h st c hc => by
    obtain ⟨hz, hTI, ⟨u, v, hTO⟩, ⟨o1, e1, c1, d1⟩, ⟨o2, e2, c2, d2⟩⟩ := st
    simp only [List.mem_cons, List.not_mem_nil, or_false] at hc
    rcases hc with rfl | rfl | rfl | rfl | rfl
    · exact ⟨_, hz, fun v z => by cases z⟩
    · exact ⟨_, hTI, fun v z => by cases z⟩
    · exact ⟨_, hTO, fun v z => by cases z⟩
    · exact ⟨o1, e1, fun v z => by rw [d1] at z; cases z⟩
    · exact ⟨o2, e2, fun v z => by rw [d2] at z; cases z⟩
  keep := fun i h h' st k => by
    obtain ⟨hz, hTI, ⟨u, v, hTO⟩, h1, h2⟩ := st
    exact ⟨k z (by simp) _ hz, k TI (by simp) _ hTI, ⟨u, v, k TO (by simp) _ hTO⟩, h1.at fun o q => k i1 (by simp) o q, h2.at fun o q => k i2 (by simp) o q⟩
  item := by
    intro X hP hw hK hc i pins s σ H E I hf st hg
    subst hP hw hK
    obtain ⟨xs, ys, x, y, hq1, hq2, hx, hy⟩ := hg
    obtain ⟨its, rv, pl, hz0⟩ := I.tuple hq1
    obtain ⟨its2, rv2, pl2, hz2⟩ := I.list hq2
    obtain ⟨u, hu, ru⟩ := rv.get hx
    obtain ⟨u2, hu2, ru2⟩ := rv2.get hy
    have pl : s.heap.IsTuple a its.toArray := pl
    have ZA := zt_apart D aTO st pl pl2.isList
    obtain ⟨hz, hTI, ⟨o1, o2, hTO⟩, h1, h2⟩ := st
    refine pnT_item ZA hz hTI hTO h1 h2 pl pl2.isList (by simpa using hu) (by simpa using hu2) fun h' b1 b2 b3 b4 b5 kp => ?_
    have hp : H s.heap.objs.size = none := I.hok.fresh (Nat.le_refl _)
    have nn : ∀ c ∈ [z, TI, TO, i1, i2], ∀ d v, H d = some v → d ≠ c := fun c hc d v q zz => by rw [zz, (hf c hc).1] at q; cases q
    have kp' : ∀ c o, c ∉ [z, TO, i1, i2] → s.heap.get? c = some o → h'.get? c = some o := fun c o hc q => kp c o (fun e => hc (by simp [e])) (fun e => hc (by simp [e])) (fun e => hc (by simp [e])) (fun e => hc (by simp [e])) q
    have sub4 : ∀ c ∈ [z, TO, i1, i2], c ∈ [z, TI, TO, i1, i2] := fun c hc => by
      simp only [List.mem_cons, List.not_mem_nil, or_false] at hc ⊢
      rcases hc with h | h | h | h <;> simp [h]
    have I1 : Inv X pins σ (upd H s.heap.objs.size (.tup [x, y])) { s with heap := h' } := by
      refine I.step (g' := s.gens) (d' := s.drawn) (ch := [z, TO, i1, i2]) (fun c hc => ?_) (fun c o _ _ hc' q _ => kp' c o hc' q)
        (fun c o _ _ hc' q _ => ⟨o.slots, kp' c o hc' q⟩) (fun c o _ q n => by rw [upd_ne (Nat.ne_of_lt (Heap.lt_size q))]; exact n)
        (fun c o hc' q => ⟨o, kp' c o hc' q⟩) (fun c vs q => by rw [upd_ne (ne_of_none q hp)]; exact q) (fun c o v q => by rw [upd_ne (ne_of_none q hp)]; exact q)
        (fun c ps q => ⟨#[], by rw [upd_ne (ne_of_none q hp), q]; simp⟩) (fun m hm => ?_) (fun c v q => ?_) I.bare
      · obtain ⟨f0, f1, f2, f3, f4, f5⟩ := hf c (sub4 c hc)
        exact ⟨f3, f1, f4, f5⟩
      · obtain ⟨o, es', ep, q, r⟩ := hm
        refine ⟨o, es', ep, kp' _ o (fun hc => ?_) q, r⟩
        exact (hf _ (sub4 _ hc)).2.1 rfl
      · by_cases hb : c = s.heap.objs.size
        · subst hb
          rw [upd_same] at q
          cases q
          exact ⟨by show 2 ≤ sizeLine; decide, [u, u2], .cons ru (.cons ru2 .nil), ⟨_, b5, rfl, _, rfl⟩⟩
        · rw [upd_ne hb] at q
          refine (I.hok c v q).stay (fun d o hc' q' => kp' d o (fun hd => ?_) q') (fun d q' => by rw [upd_ne (ne_of_none q' hp)]; exact q') fun d vs q' => by rw [upd_ne (ne_of_none q' hp)]; exact q'
          rcases hc' with zz | zz
          · exact nn d (sub4 d hd) c v q zz.symm
          · exact nn d (sub4 d hd) d _ zz rfl
    obtain ⟨f0, f1, f2, f3, f4, f5⟩ := hf z (by simp)
    have fz : (upd H s.heap.objs.size (.tup [x, y])) z = none := by rw [upd_ne (Nat.ne_of_lt (Heap.lt_size hz))]; exact f0
    refine ⟨_, rfl, wpAny_letOwnedTupleGo_zip (s := { s with heap := h' }) b1 fun h'' hz'' hs'' => ?_⟩
    have I2 : Inv X pins σ (upd H s.heap.objs.size (.tup [x, y])) { s with heap := h'' } := I1.turned (t' := s.toks) (fun c o hb q => hs''.extBut c o hb q) fz f1 f3 f4 f5
    have hTI' : IsPair h'' TI (.ref i1) (.ref i2) := hs''.extBut _ _ D.a1 (kp TI _ D.a1 D.a5 D.a6 D.a7 hTI)
    refine ⟨.ref s.heap.objs.size, _, I2, rfl, ⟨_, x, y, hp, rfl, rfl, fun vs hv => by rw [I.tuple_inj hv hq1]; exact hx, fun vs hv => by rw [I.list_inj hv hq2]; exact hy⟩,
      ⟨hz'', hTI', ⟨_, _, hs''.extBut _ _ D.a2 b2⟩, b3.at fun o q => hs''.extBut i1 o D.a3 q, b4.at fun o q => hs''.extBut i2 o D.a4 q⟩, fun c hc => ?_⟩
    have hlt : c < s.heap.objs.size := by
      simp only [List.mem_cons, List.not_mem_nil, or_false] at hc
      rcases hc with rfl | rfl | rfl | rfl | rfl
      · exact Heap.lt_size hz
      · exact Heap.lt_size hTI
      · exact Heap.lt_size hTO
      · obtain ⟨o, q, _⟩ := h1; exact Heap.lt_size q
      · obtain ⟨o, q, _⟩ := h2; exact Heap.lt_size q
    rw [upd_ne (Nat.ne_of_lt hlt)]
    exact (hf c hc).1
  done := by
    intro X hP hw hK hc i pins s σ H E I hf st hg
    subst hP hw hK
    obtain ⟨xs, hq1, hx⟩ := hg
    obtain ⟨its, rv, pl, hz0⟩ := I.tuple hq1
    have pl : s.heap.IsTuple a its.toArray := pl
    obtain ⟨hz, hTI, ⟨o1, o2, hTO⟩, h1, h2⟩ := st
    have l1 := rv.length
    have az : a ≠ z := tup_ne pl hz (by show Value.type "zip" ≠ Value.type "tuple"; decide)
    refine pnT_end (I.ok.hd hc) D.a3 az hz hTI hTO h1 pl (by simp; omega) fun h' kp => ?_
    exact ⟨rfl, I.turnedL (ch := [z, TO, i1, i2]) (fun c o hc' q => kp c o (fun e => hc' (by simp [e])) (fun e => hc' (by simp [e])) (fun e => hc' (by simp [e])) (fun e => hc' (by simp [e])) q) fun c hc' => hf c (by
        simp only [List.mem_cons, List.not_mem_nil, or_false] at hc' ⊢
        rcases hc' with h | h | h | h <;> simp [h])⟩
  self := fun _ _ _ _ _ st h => wpAny_pyIter_zip st.hz h
section
variable {X : Cx} {es : List Expr} {kk : Nat} {pp : Pos}
noncomputable def iZipT (K : PySem.W.Frag) (t : TA) : TI := fun σ H R => t σ H fun vs H1 => ∃ a b, vs = [.ref a, .ref b] ∧ (∃ xs, SqT K H1 a xs) ∧ (∃ ys, SqL K H1 b ys) ∧ R (Itzt K a b) H1
theorem pi_zipT {l m : Expr} {t : TA} {p pos : Pos} (hg : Gl X "zip") (hm : X.mg "zip" = none) (ha : PA X [l, m] t) (hs : starEach [l, m] X.env = (false, eval l X.env) :: starEach [m] X.env) (hpl : (backTo pos (starEach [m] X.env)).any (·.1) = false) :
    PI X (.Tuple es kk pp) (.Call (.Name "zip" p) [l, m] [] pos) (iZipT X.K t) := by
  intro pins s σ H R I h
  refine Call_ (ld_blt I hg hm boot_zip (PyProof.Rows.callWith_type1 (thn (ha pos pins s σ H _ I h) fun us s1 ⟨vs, H1, I1, r1, q1⟩ => ?_) hs hpl))
  obtain ⟨a, b, rfl, ⟨xs, hq1⟩, ⟨ys, hq2⟩, q⟩ := q1
  obtain ⟨u, v, rfl, ru, rv⟩ := r1.two
  cases ru
  cases rv
  obtain ⟨its, r2, pl, hz⟩ := I1.tuple hq1
  obtain ⟨its2, r3, pl2, hz2⟩ := I1.list hq2
  have pl : s1.heap.IsTuple a its.toArray := pl
  have al : a < s1.heap.objs.size := let ⟨_, e, _⟩ := pl; Heap.lt_size e
  refine call_zipT pl pl2.isList fun h' z1 z2 z3 z4 z5 kp => ?_
  refine wpAny_pyIter_zip (s := { s1 with heap := h' }) z1 ?_
  have I2 : Inv X pins σ H1 { s1 with heap := h', toks := s1.toks } := I1.kept kp
  have D : Apart5 (s1.heap.objs.size + 4) (s1.heap.objs.size + 2) (s1.heap.objs.size + 3) s1.heap.objs.size (s1.heap.objs.size + 1) := apart_n _
  refine ⟨_, _, _, _, H1, rfl, I2, turn_zipT a b _ _ _ _ _ D (Nat.ne_of_lt (Nat.lt_of_lt_of_le al (Nat.le_add_right _ _))), ⟨z1, z2, ⟨_, _, z3⟩, z4, z5⟩, fun c hc => ?_, q⟩
  have hbs : s1.heap.objs.size ≤ c := by
    simp only [List.mem_cons, List.not_mem_nil, or_false] at hc
    rcases hc with rfl | rfl | rfl | rfl | rfl
    · exact Nat.le_add_right _ _
    · exact Nat.le_add_right _ _
    · exact Nat.le_add_right _ _
    · exact Nat.le_refl _
    · exact Nat.le_add_right _ _
  exact I1.fpOk hbs (I1.hok.fresh hbs)
end
end L2
namespace PySem
open Sem (wp)
theorem no_int_str : typeLookup (.type "str") "__int__" = pure none := by rw [typeLookup_type, builtinLookup_eq_fast]; kernel_rfl
theorem no_index_str : typeLookup (.type "str") "__index__" = pure none := by rw [typeLookup_type, builtinLookup_eq_fast]; kernel_rfl
theorem no_trunc_str : typeLookup (.type "str") "__trunc__" = pure none := by rw [typeLookup_type, builtinLookup_eq_fast]; kernel_rfl
theorem ten {a : Nat} (h : a < 10) : a = 0 ∨ a = 1 ∨ a = 2 ∨ a = 3 ∨ a = 4 ∨ a = 5 ∨ a = 6 ∨ a = 7 ∨ a = 8 ∨ a = 9 := by omega
local macro_rules | `(term| «the numeral») => return Lean.mkIdent (Lean.Name.str (Lean.Name.str (Lean.Name.str (Lean.Name.num (Lean.Name.str (Lean.Name.str (Lean.Name.str (Lean.Name.str (Lean.Name.str Lean.Name.anonymous "_private") "PySem") "Builtin") "Int") "W0All") 0) "PySem") "Builtin") "readNumeral")
local macro_rules | `(term| «a value») => return Lean.mkIdent (Lean.Name.str (Lean.Name.str (Lean.Name.str (Lean.Name.str (Lean.Name.num (Lean.Name.str (Lean.Name.str (Lean.Name.str (Lean.Name.str (Lean.Name.str Lean.Name.anonymous "_private") "PySem") "Builtin") "Int") "W0All") 0) "PySem") "Builtin") "Numeral") "value")
noncomputable def rdN := «the numeral»
noncomputable def vlN := «a value»
theorem num2 {a b : Nat} (ha : a < 10) (hb : b < 10) : rdN 0 10 [48 + a, 48 + b] = vlN (10 * a + b : Nat) := by
  rcases ten ha with rfl | rfl | rfl | rfl | rfl | rfl | rfl | rfl | rfl | rfl <;> rcases ten hb with rfl | rfl | rfl | rfl | rfl | rfl | rfl | rfl | rfl | rfl <;> rfl
theorem num1 {a : Nat} (ha : a < 10) : rdN 0 10 [48 + a] = vlN (a : Nat) := by
  rcases ten ha with rfl | rfl | rfl | rfl | rfl | rfl | rfl | rfl | rfl | rfl <;> rfl
theorem gives_int_new_str (u : Tok) (x : Str) {n : Int} (h0 : x.cps.all (fun x => decide (x < 128)) = true) (h1 : List.takeWhile (fun x => x != 0) x.cps.toList = x.cps.toList) (h2 : x.cps.toList.length ≤ 640) (h3 : rdN 0 10 x.cps.toList = vlN n) :
    Gives (Builtin.«int.__new__» ⟨[.type "int", .str x u], []⟩) (.int n) :=
  .of_wp fun M A E s Q h => by
    obtain ⟨hp, g, d, tk, os⟩ := s
    have f1 := F.conv_sub_int
    have f2 := F.madeHere_int
    have f3 := no_int_str
    have f4 := no_index_str
    have f5 := no_trunc_str
    repeat (any_goals (first | assumption | wp_step))
    unfold rdN vlN at h3
    simp only [h0, if_true, h1, h2]
    refine wpAny_bind (wpAny_pure ?_)
    simp only [h3, beq_self_eq_true, if_true]
    repeat (any_goals (first | assumption | wp_step))
    exact ⟨_, rfl, h⟩
end PySem
namespace L2
open PySem PySem.Spec PyProof.Rows
inductive Fig : Str → Int → Prop
  | one {a : Nat} (h : a < 10) : Fig ⟨#[48 + a]⟩ (a : Nat)
  | two {a b : Nat} (ha : a < 10) (hb : b < 10) : Fig ⟨#[48 + a, 48 + b]⟩ (10 * a + b : Nat)
theorem fig_int {x : Str} {n : Int} (h : Fig x n) (u : Tok) : Gives (Builtin.«int.__new__» ⟨[.type "int", .str x u], []⟩) (.int n) := by
  cases h with
  | one h => exact gives_int_new_str u _ (by simp; omega) (by simp) (by simp) (num1 h)
  | two ha hb => exact gives_int_new_str u _ (by simp; omega) (by simp) (by simp) (num2 ha hb)
section
variable {X : Cx} {dic : Addr → Option (List (Key × V))}
theorem call_intS : CallR X (.type "int") (fun xs H Q => ∃ z n, xs = [.str z] ∧ Fig z n ∧ Q (.int n) H) := by
  intro pins s σ H xs us Q I r h
  obtain ⟨z, n, rfl, hf, q⟩ := h
  obtain ⟨u, rfl, t, rfl⟩ := vals1 r
  exact call_int_1 (fig_int hf t).meets (show (Made.int n).post _ s from ⟨rfl, .int n, H, I.tok _, ⟨_, rfl⟩, q⟩)
noncomputable def upS (z : Str) : Str := ⟨placed z fun _ c => Unicode.upperOf c⟩
noncomputable def rUpper : V → List V → Hp → VK → Prop := fun x vs H Q => ∃ z : Str, x = .str z ∧ vs = [] ∧ (upS z).length ≤ 100 ∧ Q (.str (upS z)) H
theorem mt_upper : MtR X "str.upper" rUpper := by
  intro pins s σ H v vs u us Q I rx rv h
  obtain ⟨z, rfl, rfl, hz, q⟩ := h
  obtain ⟨t, rfl⟩ := rx
  cases rv
  refine call_meets PySem.F.slot_str_upper (typeIs_str _ _ _) PySem.F.entry_str_upper (PySem.F.args_str_upper_1 _) (gives_str_upper z t (by unfold Builtin.Str.tooLong; rw [decide_eq_false_iff_not]; exact Nat.not_lt.mpr (Nat.le_trans hz (by decide)))).meets ?_
  exact ⟨Nat.le_trans hz (by decide), .str (upS z), H, I.tok _, ⟨_, rfl⟩, q⟩
noncomputable def rNiG (dic : Addr → Option (List (Key × V))) : R2 := fun x y H Q => ∃ a kvs k, y = .ref a ∧ dic a = some kvs ∧ x = kV k ∧ Q (.bl (!(valV kvs k).isSome)) H
theorem op_niG (hd : ∀ a kvs, dic a = some kvs → DkIn X.prog X.w X.K a kvs) : OpR X (compareOp .NotIn) (rNiG dic) := by
  intro pins s σ H x y u v Q I rx ry h
  obtain ⟨a, kvs, k, rfl, e, rfl, q⟩ := h
  cases ry
  obtain ⟨hs, vs, rel, dd⟩ := hd a kvs e
  refine wpAny_notIn_of (kV_is rx) hs (dd _ I.kIn).mapOf ?_
  rw [← (rel.val k).isSome_eq]
  exact ⟨.bl (!(valV kvs k).isSome), H, I.tok _, rfl, q⟩
end
end L2
namespace L2
open PySem PySem.Spec PySem.W PyProof.Rows
section
variable {prog : Program} {w : World} {A : Around} {E : Value → Shared → Prop} {h : Heap} {g : Array GenState} {d : Drawn} {t : Nat} {os : OsState} {nm q : Str} {C N : Addr} {bs bm bmB : List Value} {hdct : Bool} {sn : List Str} {sub : List Value} {ab : Bool} {col : Option Bool} {dd : Option Addr} {k0 k1 k2 k3 k5 : Option Value} {B newId initId : String}
noncomputable abbrev newE (h : Heap) (C : Addr) (rest : List Value) : Heap := (h.push { cls := .type "tuple", data := .seq rest.toArray }).push { cls := .ref C, data := .fields #[.ref h.objs.size, .none, .none, .none, .bool false, .none] }
theorem newE_keeps {rest : List Value} {b : Addr} {o : Obj} (e : h.get? b = some o) : (newE h C rest).get? b = some o := Heap.get?_push_of_some _ (Heap.get?_push_of_some _ e)
theorem newE_at {rest : List Value} : (newE h C rest).get? (h.objs.size + 1) = some { cls := .ref C, data := .fields #[.ref h.objs.size, .none, .none, .none, .bool false, .none] } := Heap.get?_push_at (by rw [Heap.size_push]) rfl
theorem type_call_init (F : ExcBaseFacts B newId initId bmB) (T : OwnTail h bmB bm) {mN : Str → Option Value} {rest : List Value} {fI : Addr} {oI : Obj} {Q : PySem.Fin → Shared → Prop} (hC : h.get? C = some (excClassObj nm q C N bs bm hdct sn sub ab col dd k0 k1 k2 k3 k5 newId))
    (hn : h.Ns N mN) (hi : mN "__init__" = some (.ref fI)) (hf : h.get? fI = some oI) (hfc : oI.cls = .type "function") (hrest : rest.length ≤ sizeLine)
    (hq : wpAny (model prog w) A (call (.ref fI) (.ref (h.objs.size + 1) :: rest)) (fun r s' => r = .none ∧ Q (.done (.ret (.ref (h.objs.size + 1)))) s') E ⟨newE h C rest, g, d, t, os⟩) :
    wpAny (model prog w) A (Builtin.«type.__call__» ⟨.ref C :: rest, []⟩) Q E ⟨h, g, d, t, os⟩ := by
  repeat (first
    | with_reducible refine wpAny_loadPart_at hC ?_
    | with_reducible refine wpAny_madeBy_exc hC ?_
    | wp_step)
  refine codeAny_call_builtin_code (Code.quiet_builtin _ F.quiet) (wpAny_check_new_subT F T hC ?_)
  refine codeAny_exc_new_subT F T hC ?_ hrest
  show wpAny _ _ _ _ _ (⟨newE h C rest, g, d, t, os⟩ : Shared)
  have c1 := newE_keeps (C := C) (rest := rest) hC
  have n1 : (newE h C rest).Ns N mN := hn.keeps fun b o e => newE_keeps e
  have T1 := T.keeps (h' := newE h C rest) fun b o e => newE_keeps e
  have cc : (Value.ref C :: bm).contains (.ref C) = true := by simp
  have ea := newE_at (h := h) (C := C) (rest := rest)
  unfold isInstance
  repeat (first
    | with_reducible refine wpAny_loadPart_at ea ?_
    | (with_reducible refine wpAny_isSubtype_exc c1 ?_; rw [cc])
    | wp_step)
  show wpAny _ _ (typeLookup (.ref C) _) _ _ _
  refine wpAny_typeLookup_tail c1 n1 T1 F.mroIs F.init.lookup ?_
  rw [hi]
  refine wpAny_holding (wpAny_bind ?_)
  unfold bindSpecial
  refine wpAny_bind (wpAny_typeOf (T := "function") ⟨_, newE_keeps hf, hfc⟩ ?_)
  rw [if_pos (by decide)]
  refine wpAny_pure (wpAny_bind (wpAny_mono hq (fun r s' z => ?_) fun _ _ z => z))
  obtain ⟨rfl, z⟩ := z
  wp_walk
  exact z
theorem call_init (F : ExcBaseFacts B newId initId bmB) (T : OwnTail h bmB bm) {mN : Str → Option Value} {rest : List Value} {fI : Addr} {oI : Obj} {Q : Value → Shared → Prop} (hC : h.get? C = some (excClassObj nm q C N bs bm hdct sn sub ab col dd k0 k1 k2 k3 k5 newId))
    (hn : h.Ns N mN) (hi : mN "__init__" = some (.ref fI)) (hf : h.get? fI = some oI) (hfc : oI.cls = .type "function") (hrest : rest.length ≤ sizeLine)
    (hq : wpAny (model prog w) (A.under (.builtin "type.__call__" ⟨.ref C :: rest, []⟩)) (call (.ref fI) (.ref (h.objs.size + 1) :: rest)) (fun r s' => r = .none ∧ Q (.ref (h.objs.size + 1)) s') E ⟨newE h C rest, g, d, t, os⟩) :
    wpAny (model prog w) A (call (.ref C) rest) Q E ⟨h, g, d, t, os⟩ := by
  have f1 := tc_lookup
  have f2 := tc_bind (.ref C)
  have hT : (⟨h, g, d, t, os⟩ : Shared).TypeIs (.ref C) "type" := ⟨_, hC, rfl⟩
  refine wpAny_call (codeAny_of_tree ?_)
  show wpAny _ _ (callAny (.ref C) _) _ _ _
  repeat (any_goals (first
    | assumption
    | with_reducible refine wpAny_loadPart_at hC ?_
    | wp_step))
  refine ⟨rfl, ?_⟩
  exact codeAny_call_builtin_at (Code.quiet_builtin _ (by decide +kernel)) entry_typeCall (wpAny_check_type_call_sub hC (type_call_init F T hC hn hi hf hfc hrest hq))
theorem base_init (F : ExcBaseFacts B newId initId bmB) (T : OwnTail h bmB bm) {rest : List Value} {e x0 : Addr} {Q : Value → Shared → Prop} (hC : h.get? C = some (excClassObj nm q C N bs bm hdct sn sub ab col dd k0 k1 k2 k3 k5 newId))
    (he : h.get? e = some { cls := .ref C, data := .fields #[.ref x0, .none, .none, .none, .bool false, .none] }) (hrest : rest.length ≤ sizeLine)
    (hq : ∀ h' : Heap, (∀ b o, b ≠ e → h.get? b = some o → h'.get? b = some o) → (∃ b, h'.get? e = some { cls := .ref C, data := .fields #[.ref b, .none, .none, .none, .bool false, .none] }) → h.objs.size ≤ h'.objs.size → Q .none ⟨h', g, d, t, os⟩) :
    wpAny (model prog w) A (call (.builtin initId) (.ref e :: rest)) Q E ⟨h, g, d, t, os⟩ := by
  refine wpAny_call (codeAny_call_builtin F.init.plain F.initEntry (wpAny_check_init_subT F T hC he rfl ?_))
  wp_walk
  have hlt := Heap.lt_size he
  refine hq _ (fun b o hb e1 => ?_) ⟨h.objs.size, ?_⟩ ?_
  · rw [Heap.get?_update_other _ _ (Ne.symm hb)]
    exact Heap.get?_push_of_some _ e1
  · rw [Heap.get?_update_self _ (Heap.get?_push_of_some _ he) rfl]
    rfl
  · rw [Heap.size_update, Heap.size_push]
    exact Nat.le_succ _
end
end L2
namespace L2
open PySem PySem.Spec PySem.W PyProof.Rows
noncomputable def exO (e C : Addr) (d : Option Addr) : HO := .ext fun h => ∃ x0, h.get? e = some { cls := .ref C, dict := d, data := .fields #[.ref x0, .none, .none, .none, .bool false, .none] }
noncomputable def xdO (d : Addr) (fs : List (Str × V)) : HO := .ext fun h => ∃ mA, h.Ns1 d mA ∧ (∀ f, RelO (fs.lookup f) (mA f)) ∧ PySem.Within mA (fs.map (·.1))
noncomputable def excInI (K : PySem.W.Frag) (C f : Addr) (bmB : List Value) (newId : String) : Bool := match K.lookup C with
  | some ⟨.type "type", _, .cls cd, sl⟩ => (match cd.mro, sl.toList with
    | .ref C' :: bm, [_, _, _, _, some (.builtin n), _] => C' == C && n == newId && !cd.hasDel && tailIn K bmB bm && nsOkIn K cd.ns && nsIn K cd.ns "__init__" == some (some (.ref f))
    | _, _ => false)
  | _ => false
theorem ns_some {K : PySem.W.Frag} {h : Heap} {N : Addr} {mg : Str → Option Value} {n : Str} {v : Value} (X : K.In h) (G : h.Ns N mg) (e : nsIn K N n = some (some v)) : mg n = some v := by
  obtain ⟨o, es, ep, ho, hd, _, hf⟩ := G
  unfold nsIn at e
  split at e
  · rename_i q
    have z := X _ _ q
    rw [ho] at z
    cases z
    cases hd
    split at e
    · rename_i en he
      rw [← hf]
      unfold nsFind findBy
      rw [← Array.find?_toList, he]
      simpa using e
    · split at e <;> cases e
  · cases e
theorem exc_objI {K : PySem.W.Frag} {h : Heap} {C f : Addr} {bmB : List Value} {newId : String} (kin : K.In h) (q : excInI K C f bmB newId = true) :
    ∃ nm qn N bs bm hd sn sub ab col dd k0 k1 k2 k3 k5 mN, h.get? C = some (excClassObj nm qn C N bs bm hd sn sub ab col dd k0 k1 k2 k3 k5 newId) ∧ h.Ns N mN ∧ mN "__init__" = some (.ref f) ∧ OwnTail h bmB bm := by
  unfold excInI at q
  split at q
  case h_2 => cases q
  rename_i od cd sl ho
  split at q
  case h_2 => cases q
  rename_i C' bm j0 j1 j2 j3 n j5 hm hs
  rw [Bool.and_eq_true, Bool.and_eq_true, Bool.and_eq_true, Bool.and_eq_true, Bool.and_eq_true, beq_iff_eq, beq_iff_eq, beq_iff_eq] at q
  obtain ⟨⟨⟨⟨⟨e1, e2⟩, e3⟩, e4⟩, e5⟩, e6⟩ := q
  subst e1
  subst e2
  obtain ⟨c1, c2, c3, c4, c5, c6, c7, c8, c9, c10, c11⟩ := cd
  have e7 : c3 = .ref C' :: bm := hm
  have e8 : c11 = false := by simpa using e3
  have e9 : sl = #[j0, j1, j2, j3, some (.builtin n), j5] := by
    apply Array.ext'
    exact hs
  subst e7
  subst e8
  subst e9
  exact ⟨_, _, _, _, _, _, _, _, _, _, _, _, _, _, _, _, _, kin _ _ ho, .of_isNs (isNs_of_in kin e5), ns_some kin (.of_isNs (isNs_of_in kin e5)) e6, tail_of_in kin e4⟩
structure MkX (K : PySem.W.Frag) (C f : Addr) : Prop where
  ex : excInI K C f bmV "ValueError.__new__" = true
  fn : ∃ o, K.lookup f = some o ∧ o.cls = .type "function"
  kp : keepIn K (.ref C) = true
section
variable {X : Cx} {CX : CXT} {C f : Addr} {k : Nat} {fd : FuncData} {ps : List Str} {sp : Sp} {ds : List Value} {dvs : List V} {E : XK}
theorem run_makeX {pins : List (Addr × Obj)} {σ : St} {H : Hp} {s : Shared} {Q : VK} {us : List Value} {vs : List V} (M : MkX X.K C f) (F : FnOk X.prog X.w X.K X.mg X.base CX k f fd ps sp) (hr : Room (k + 1) X.A) (hb : Binds X.K fd ps ds) (hd : Vals dvs ds)
    (hx : ∀ (H' : Hp) (s1 : Shared) (e : Value) (s' : Shared), Inv X pins σ H' s1 → CX X.stack H' s1 E e s' → X.xe e s') (I : Inv X pins σ H s) (r : Vals vs us) (hl0 : vs.length ≤ sizeLine)
    (h : ∀ x, s.heap.objs.size ≤ x → H x = none → sp (.ref x :: (vs ++ dvs)) (upd H x (exO x C none)) (fun v H2 => v = .non ∧ Q (.ref x) H2) E) :
    wpAny (model X.prog X.w) X.A (call (.ref C) us) (EP X pins σ Q) X.xe s := by
  have hq := h (s.heap.objs.size + 1) (Nat.le_succ _) (I.hok.fresh (Nat.le_succ _))
  obtain ⟨nm, qn, N, bs, bm, hd', sn, sub, ab, col, dd, k0, k1, k2, k3, k5, mN, hC, hN, hi, T⟩ := exc_objI (bmB := bmV) I.kIn M.ex
  obtain ⟨oI, hf, hfc⟩ := M.fn
  have I2 : Inv X pins σ (upd H (s.heap.objs.size + 1) (exO (s.heap.objs.size + 1) C none)) { s with heap := newE s.heap C us } := by
    refine I.laid (t' := s.toks) (fun b o e => newE_keeps e) (Nat.le_succ _) ?_
    exact ⟨⟨_, newE_at⟩, ⟨_, newE_at⟩, fun h1 h2 ⟨x0, z⟩ k => ⟨x0, k _ z⟩⟩
  have r2 : Vals (V.ref (s.heap.objs.size + 1) :: (vs ++ dvs)) (Value.ref (s.heap.objs.size + 1) :: (us ++ ds)) := .cons rfl (r.append hd)
  have hl : (Value.ref (s.heap.objs.size + 1) :: us ++ ds).length = ps.length := by
    have e := r2.length
    rw [F.len _ _ _ _ hq] at e
    exact e.symm
  obtain ⟨hh, gg, dr, tk, os⟩ := s
  refine call_init (fI := f) PySem.F.excBase_ValueError T hC hN hi (I.kIn _ _ hf) hfc (by rw [← r.length]; exact hl0) ?_
  refine wpAny_call (codeAny_mono (F.run _ X.stack _ _ ⟨Value.ref (hh.objs.size + 1) :: us, []⟩ (Value.ref (hh.objs.size + 1) :: (us ++ ds)) _ _ E (hr.make C us []) (I2.env0.make C us []) (hb _ (Value.ref (hh.objs.size + 1) :: us) I2.kIn hl) r2 hq) fun r s' hq' => ?_)
  cases r with
  | error e => exact hx _ _ e s' I2 hq'
  | ok fl =>
    cases fl with
    | ret u =>
      obtain ⟨v, H', I3, rv, ev, q3⟩ := I2.after hq'
      subst ev
      exact ⟨rv, ⟨V.ref (hh.objs.size + 1), H', I3, rfl, q3⟩⟩
    | next => exact False.elim hq'
    | brk => exact False.elim hq'
    | cont => exact False.elim hq'
end
end L2
namespace L2
open PySem PySem.Spec PySem.W PyProof.Rows PySem.Builtin PySem.Builtin.ObjectAttr
noncomputable def overX : List Value → Bool
  | .ref _ :: r => overX r
  | l => l == bmV
theorem refuseV (self : Value) : refuseLoop self "__setattr__" bmV = pure () := by kernel_rfl
theorem refuseX (self : Value) : ∀ {l : List Value}, overX l = true → refuseLoop self "__setattr__" l = pure ()
  | .ref c :: r, e => by
    rw [refuseLoop_ref]
    exact refuseX self e
  | [], e => by cases e
  | .type n :: r, e => by rw [show (.type n :: r : List Value) = bmV from beq_iff_eq.mp e]; exact refuseV self
  | .none :: r, e => by cases e
  | .ellipsis :: r, e => by cases e
  | .notImplemented :: r, e => by cases e
  | .bool _ :: r, e => by cases e
  | .int _ _ :: r, e => by cases e
  | .float _ _ :: r, e => by cases e
  | .str _ _ :: r, e => by cases e
  | .bytes _ _ :: r, e => by cases e
  | .builtin _ :: r, e => by cases e
theorem overX_has : ∀ {l : List Value}, overX l = true → l.contains (.type "object") = true
  | .ref c :: r, e => by rw [List.contains_cons, overX_has (l := r) e, Bool.or_true]
  | [], e => by cases e
  | .type n :: r, e => by rw [show (.type n :: r : List Value) = bmV from beq_iff_eq.mp e]; decide
  | .none :: r, e => by cases e
  | .ellipsis :: r, e => by cases e
  | .notImplemented :: r, e => by cases e
  | .bool _ :: r, e => by cases e
  | .int _ _ :: r, e => by cases e
  | .float _ _ :: r, e => by cases e
  | .str _ _ :: r, e => by cases e
  | .bytes _ _ :: r, e => by cases e
  | .builtin _ :: r, e => by cases e
section
variable {prog : Program} {w : World} {K : PySem.W.Frag} {A : Around} {R : Result → Shared → Prop} {s : Shared} {x C : Addr}
theorem osx_open {ox : Obj} {od : Option Obj} {name : Str} {tk : Tok} {v : Value} (X : K.In s.heap) (I : InstAt s.heap x ox C od) (hp : (clsIn K C).any (fun cd => overX cd.mro) = true) (ht : takerIn K C name = some none)
    (h : ∀ b, wpAny (model prog w) A.in1 (storeInOwnDict (.ref x) (.ref C) (.str name tk) name v b)
      (fun fin s' => match fin with | .done f => R (.ok f) s' | .again c' => c'.quiet = true ∧ codeAny (model prog w) A c' R s') (fun e s' => R (.error e) s') s) :
    codeAny (model prog w) A (.call (.builtin "object.__setattr__") ⟨[.ref x, .str name tk, v], []⟩) R s := by
  have SF := PySem.F.store_object
  obtain ⟨cd, hc, ho⟩ := any_some hp
  have ne : cd.mro.isEmpty = false := by cases q : cd.mro with | nil => rw [q] at ho; cases ho | cons _ _ => rfl
  have sub : Looks (model prog w) s.heap (isInstance (.ref x) (.type "object")) true := I.type.andThen (looks_mroIn X (by unfold mroIn; rw [hc, Option.bind_some, if_neg (by rw [ne]; decide), overX_has ho]))
  refine codeAny_call_builtin SF.slot.plain SF.entry (@check_slot (model prog w) _ _ s "object.__setattr__" "object" "__setattr__" (.ref x) [.str name tk, v] [] _ SF.kind SF.split sub (SF.args (.ref x) (.str name tk) v) ?_)
  obtain ⟨attr, ha, hr⟩ := Option.bind_eq_some_iff.mp ht
  have hm : Looks (model prog w) s.heap (mroOf (.ref C)) cd.mro := (looks_clsIn X hc).andThen .now
  have L3 : Looks (model prog w) s.heap (storeTaker? attr) none := by
    cases attr with
    | none => exact .now
    | some a =>
      obtain ⟨b, hb, q⟩ := Option.map_eq_some_iff.mp hr
      refine (looks_takesIn X hb).andThen ?_
      cases b
      · exact .now
      · cases q
  rw [osa_eq, refuse_eq]
  refine wpAny_bind (wpAny_bind (I.type.here (wpAny_bind (hm.here ?_))))
  rw [refuseX _ ho]
  refine wpAny_pure (wpAny_bind (I.type.here (wpAny_bind ((looks_findIn X ha).here (wpAny_bind (L3.here ?_))))))
  exact h _
end
section
variable {prog : Program} {w : World} {K : PySem.W.Frag} {A : Around} {E : Value → Shared → Prop} {s : Shared} {e C : Addr} {name : Str} {v : Value} {vs : Array Value} {Q : Unit → Shared → Prop}
structure StX (K : PySem.W.Frag) (C : Addr) (name : Str) : Prop where
  hs : findIn K (.ref C) "__setattr__" = some (some (.builtin "object.__setattr__"))
  hp : (clsIn K C).any (fun cd => overX cd.mro) = true
  ht : takerIn K C name = some none
  hd : (clsIn K C).any (·.hasDict) = true
noncomputable abbrev exObj (C : Addr) (d : Option Addr) (vs : Array Value) : Obj := { cls := .ref C, dict := d, data := .fields vs }
theorem ex_inst0 {h : Heap} (he : h.get? e = some (exObj C none vs)) : InstAt h e (exObj C none vs) C none := ⟨he, rfl, rfl, trivial⟩
theorem ex_inst1 {h : Heap} {d : Addr} {o : Obj} (he : h.get? e = some (exObj C (some d) vs)) (hd : h.get? d = some o) : InstAt h e (exObj C (some d) vs) C (some o) := ⟨he, rfl, rfl, hd⟩
theorem setx_first (X : K.In s.heap) (S : StX K C name) (he : s.heap.get? e = some (exObj C none vs))
    (h : ∀ h', h'.get? e = some (exObj C (some s.heap.objs.size) vs) → h'.Ns1 s.heap.objs.size (fun y => if y = name then some v else none) → (∀ b o, b ≠ e → s.heap.get? b = some o → h'.get? b = some o) → Q () { s with heap := h', toks := s.toks + 2 }) :
    wpAny (model prog w) A (setAttr (.ref e) name v) Q E s := by
  have I := ex_inst0 he
  refine set_plain X I S.hs (osx_open (s := { s with toks := s.toks + 1 }) X I S.hp S.ht fun b => ?_)
  obtain ⟨cd, hc, hd'⟩ := any_some S.hd
  refine wpAny_bind (wpAny_pure (wpAny_bind (wpAny_bind (wpAny_loadPart he (wpAny_bind (PySem.W.Looks.here (s := { s with toks := s.toks + 1 }) (PySem.W.looks_clsIn X hc) ?_))))))
  rw [hd']
  show wpAny _ _ (alloc { cls := .type "dict", data := .dict #[] } >>= _) _ _ _
  have he1 : (s.heap.push { cls := .type "dict", data := .dict #[] }).get? e = some (exObj C none vs) := Heap.get?_push_of_some _ he
  have hlt := Heap.lt_size he
  refine wpAny_bind (wpAny_alloc (wpAny_bind (wpAny_update he1 ?_)))
  show wpAny _ _ (pure (some s.heap.objs.size)) _ _ _
  refine wpAny_pure ?_
  show wpAny _ _ (pure () >>= _) _ _ _
  refine wpAny_bind (wpAny_pure (wpAny_bind ?_))
  have hne : s.heap.objs.size ≠ e := Nat.ne_of_gt hlt
  have hd0 : ((s.heap.push { cls := .type "dict", data := .dict #[] }).update e fun o => { o with dict := some s.heap.objs.size }).get? s.heap.objs.size = some { cls := .type "dict", data := .dict #[] } := by
    rw [Heap.get?_update_other _ _ (Ne.symm hne)]
    exact Heap.get?_push_size _ rfl
  have hn0 : ((s.heap.push { cls := .type "dict", data := .dict #[] }).update e fun o => { o with dict := some s.heap.objs.size }).Ns1 s.heap.objs.size (fun _ => none) :=
    ⟨_, #[], _, hd0, rfl, fun x hx => by simp at hx, List.Pairwise.nil, fun y => rfl⟩
  have hw : PySem.Within (fun _ => none : Str → Option Value) [] := PySem.Within.nil
  refine wpAny_nsSet1 hn0 fun h' hn2 hs2 => ?_
  obtain ⟨oD, esD, epD, hoD, hdD, hcD⟩ := hn2.count (PySem.Within.cons name v hw)
  refine wpAny_bind (wpAny_lookBehind hoD (by rw [hdD]; exact pastItsLine_dict (Nat.le_trans hcD (by show 1 ≤ sizeLine + 1; decide))) ?_)
  refine wpAny_pure (h _ ?_ hn2 fun b o hb q => ?_)
  · rw [hs2.2 _ (Ne.symm hne), Heap.get?_update_self _ he1 rfl]
  · have hbs : b ≠ s.heap.objs.size := Nat.ne_of_lt (Heap.lt_size q)
    rw [hs2.2 _ hbs, Heap.get?_update_other _ _ (Ne.symm hb)]
    exact Heap.get?_push_of_some _ q
theorem setx_more {d : Addr} {mA : Str → Option Value} {ns : List Str} (X : K.In s.heap) (S : StX K C name) (he : s.heap.get? e = some (exObj C (some d) vs)) (hn : s.heap.Ns1 d mA) (hw : PySem.Within mA ns) (hsz : ns.length < sizeLine)
    (h : ∀ h', h'.Ns1 d (fun y => if y = name then some v else mA y) → Heap.SameBut d s.heap h' → Q () { s with heap := h', toks := s.toks + 2 }) :
    wpAny (model prog w) A (setAttr (.ref e) name v) Q E s := by
  obtain ⟨o, es, ep, ho, hn'⟩ := id hn
  have I := ex_inst1 he ho
  refine set_plain X I S.hs (osx_open (s := { s with toks := s.toks + 1 }) X I S.hp S.ht fun b => ?_)
  obtain ⟨cd, hc, hd'⟩ := any_some S.hd
  refine wpAny_bind (wpAny_pure (wpAny_bind (wpAny_bind (wpAny_loadPart he (wpAny_bind (PySem.W.Looks.here (s := { s with toks := s.toks + 1 }) (PySem.W.looks_clsIn X hc) ?_))))))
  rw [hd']
  show wpAny _ _ (pure (some d)) _ _ _
  refine wpAny_pure ?_
  show wpAny _ _ (pure () >>= _) _ _ _
  refine wpAny_bind (wpAny_pure (wpAny_bind ?_))
  refine wpAny_nsSet1 (s := { s with toks := s.toks + 1 }) hn fun h' hn2 hs2 => ?_
  obtain ⟨oD, esD, epD, hoD, hdD, hcD⟩ := hn2.count (PySem.Within.cons name v hw)
  refine wpAny_bind (wpAny_lookBehind hoD (by rw [hdD]; exact pastItsLine_dict (Nat.le_trans hcD (by rw [List.length_cons]; omega))) ?_)
  exact wpAny_pure (h _ hn2 hs2)
end
end L2
namespace L2
open PySem PySem.Spec PySem.W PyProof.Rows
section
variable {X : Cx} {pins : List (Addr × Obj)} {σ : St} {H : Hp} {s : Shared} {A : Around} {E : Value → Shared → Prop} {a C : Addr} {f : Str}
theorem xd_ok {P : Program} {w : World} {h : Heap} {d : Addr} {fs : List (Str × V)} (H : Hp) {mA : Str → Option Value} (n : h.Ns1 d mA) (r : ∀ f, RelO (fs.lookup f) (mA f)) (wi : PySem.Within mA (fs.map (·.1))) : ObjOk P w H h d (xdO d fs) :=
  ⟨⟨mA, n, r, wi⟩, let ⟨o, _, _, e, _⟩ := n; ⟨o, e⟩, fun h1 h2 ⟨m, n, r⟩ k => ⟨m, n.at k, r⟩⟩
theorem ex_ok {P : Program} {w : World} {h : Heap} {e : Addr} {d : Option Addr} {x0 : Addr} (H : Hp) (q : h.get? e = some (exObj C d #[.ref x0, .none, .none, .none, .bool false, .none])) : ObjOk P w H h e (exO e C d) :=
  ⟨⟨x0, q⟩, ⟨_, q⟩, fun h1 h2 ⟨x, z⟩ k => ⟨x, k _ z⟩⟩
theorem setx0_ok {y : V} {u : Value} {Q : Unit → Shared → Prop} (I : Inv X pins σ H s) (e : H a = some (exO a C none)) (S : StX X.K C f) (ry : RelV y u)
    (h : ∀ s' dd, H dd = none → Inv X pins σ (upd (upd H dd (xdO dd [(f, y)])) a (exO a C (some dd))) s' → Q () s') : wpAny (model X.prog X.w) A (setAttr (.ref a) f u) Q E s := by
  obtain ⟨⟨x0, he⟩, _⟩ := I.hok a _ e
  refine setx_first I.kIn S he fun h' h1 h2 kp => h _ s.heap.objs.size (I.hok.fresh (Nat.le_refl _)) ?_
  obtain ⟨od, es, ep, ed, r⟩ := id h2
  have hfr : H s.heap.objs.size = none := I.hok.fresh (Nat.le_refl _)
  have hne : s.heap.objs.size ≠ a := Nat.ne_of_gt (Heap.lt_size he)
  have ep1 : (s.heap.push od).get? s.heap.objs.size = some od := Heap.get?_push_size _ (Obj.isFreed_of_dict r.1)
  have n1 : (s.heap.push od).Ns1 s.heap.objs.size (fun y => if y = f then some u else none) := ⟨od, es, ep, ep1, r⟩
  have I1 : Inv X pins σ (upd H s.heap.objs.size (xdO s.heap.objs.size [(f, y)])) { s with heap := s.heap.push od, toks := s.toks } := by
    refine I.laid (t' := s.toks) (fun b o q => Heap.get?_push_of_some _ q) (Nat.le_refl _) (xd_ok _ n1 (fun g => ?_) fun g hg => ?_)
    · by_cases q : g = f
      · subst q
        simp [List.lookup]
        exact ry
      · have : (g == f) = false := by simpa using q
        simp [List.lookup, this, q]
        exact True.intro
    · by_cases q : g = f
      · simp [q]
      · exact absurd (if_neg q) hg
  have e1 : upd H s.heap.objs.size (xdO s.heap.objs.size [(f, y)]) a = some (exO a C none) := by rw [upd_ne (Ne.symm hne)]; exact e
  refine I1.write (x := a) (e := a) (t' := s.toks + 2) (by rw [e1]; exact True.intro) (.inl rfl) (fun b o hb q => ?_) ⟨_, h1⟩ (ex_ok _ h1)
  by_cases hbs : b = s.heap.objs.size
  · subst hbs
    have q : (s.heap.push od).get? s.heap.objs.size = some o := q
    rw [ep1] at q
    cases q
    exact ed
  · refine kp b o hb ?_
    have q : (s.heap.push od).get? b = some o := q
    rw [Heap.get?_push_ne _ _ _ hbs] at q
    exact q
theorem setx1_ok {y : V} {u : Value} {dd : Addr} {fs : List (Str × V)} {Q : Unit → Shared → Prop} (I : Inv X pins σ H s) (e : H a = some (exO a C (some dd))) (ed : H dd = some (xdO dd fs)) (hl : fs.length < 1000) (S : StX X.K C f) (ry : RelV y u)
    (h : ∀ s', Inv X pins σ (upd H dd (xdO dd (putF f y fs))) s' → Q () s') : wpAny (model X.prog X.w) A (setAttr (.ref a) f u) Q E s := by
  obtain ⟨⟨x0, he⟩, _⟩ := I.hok a _ e
  obtain ⟨⟨mA, hn, r, wi⟩, _⟩ := I.hok dd _ ed
  refine setx_more I.kIn S he hn wi (by rw [List.length_map, sizeLine_eq]; omega) fun h' n2 sb => h _ ?_
  have hd : ∃ o, h'.get? dd = some o := let ⟨o, _, _, e', _⟩ := n2; ⟨o, e'⟩
  refine I.write (x := dd) (e := dd) (t' := s.toks + 2) (by rw [ed]; exact True.intro) (.inl rfl) (fun b o hb q => (sb.2 b hb).trans q) hd (xd_ok _ n2 (fun g => ?_) fun g hg => ?_)
  · show RelO ((putF f y fs).lookup g) (if g = f then some u else mA g)
    rw [lookup_putF]
    by_cases q : g = f
    · rw [if_pos q, if_pos q]; exact ry
    · rw [if_neg q, if_neg q]; exact r g
  · by_cases q : g = f
    · rw [q]; exact (keys_putF f y fs).1
    · refine (keys_putF f y fs).2 g (wi g fun z => hg ?_)
      show (if g = f then some u else mA g) = none
      rw [if_neg q]; exact z
end
noncomputable def sFldX (K : PySem.W.Frag) (ta tv : TE) (f : Str) : TS := fun D σ H => tv σ H fun y H1 => ta σ H1 fun x H2 => ∃ a C, x = .ref a ∧ StX K C f ∧
  ((H2 a = some (exO a C none) ∧ ∀ dd, H2 dd = none → D.nx σ (upd (upd H2 dd (xdO dd [(f, y)])) a (exO a C (some dd)))) ∨
   ∃ dd fs, H2 a = some (exO a C (some dd)) ∧ H2 dd = some (xdO dd fs) ∧ fs.length < 1000 ∧ D.nx σ (upd H2 dd (xdO dd (putF f y fs))))
section
variable {X : Cx} {o value : Expr} {f : Str} {pos pos' : Pos} {ta tv : TE}
theorem ps_fldX (ha : PE X o ta) (hv : PE X value tv) (hs : swapsWith value (some (.Attribute o f pos')) pos.line X.env = pure false) : PS X (.Assign [.Attribute o f pos'] value pos) (sFldX X.K ta tv f) := by
  intro pins s σ H D I h
  refine plainObj_wpAny_Assign_Attribute (thn (hv pins s σ H _ I h) fun u s1 ⟨y, H1, I1, ry, q⟩ => thn (ha pins s1 σ H1 _ I1 q) fun ov s2 ⟨x, H2, I2, rx, a, C, ex, S, q2⟩ => ?_) hs
  subst ex
  obtain rfl : ov = Value.ref a := rx
  rcases q2 with ⟨e, k⟩ | ⟨dd, fs, e, ed, hl, k⟩
  · exact setx0_ok I2 e S ry fun s3 dd hdd I3 => ⟨σ, _, I3, k dd hdd⟩
  · exact setx1_ok I2 e ed hl S ry fun s3 I3 => ⟨σ, _, I3, k⟩
end
end L2
namespace L2
open PySem PySem.Spec PySem.W PyProof.Rows
structure BsX (K : PySem.W.Frag) (B : Addr) : Prop where
  ga : specialIn K (.ref B) "__getattribute__" = some (some (.builtin "type.__getattribute__"))
  rd : readsIn K B (.type "type") = true
  fd : findCls K (.ref B) (.type "type") "__init__" = some (.val (.builtin "ValueError.__init__"))
noncomputable def tBase (K : PySem.W.Frag) (B : Addr) (t : TA) : TE := fun σ H Q => BsX K B ∧ t σ H fun vs H1 => ∃ a C f us, vs = .ref a :: us ∧ H1 a = some (exO a C none) ∧ us.length ≤ sizeLine ∧ excInI K C f bmV "ValueError.__new__" = true ∧ Q .non H1
section
variable {X : Cx} {x : Str} {B : Addr} {e : Expr} {es : List Expr} {t : TA} {np apos pos : Pos}
theorem run_base {pins : List (Addr × Obj)} {σ : St} {H : Hp} {s : Shared} {Q : VK} {a C f : Addr} {us : List Value} (I : Inv X pins σ H s) (e : H a = some (exO a C none)) (hl : us.length ≤ sizeLine) (hx : excInI X.K C f bmV "ValueError.__new__" = true) (q : Q .non H) :
    wpAny (model X.prog X.w) X.A (call (.builtin "ValueError.__init__") (.ref a :: us)) (EP X pins σ Q) X.xe s := by
  obtain ⟨⟨x0, he⟩, _⟩ := I.hok a _ e
  obtain ⟨nm, qn, N, bs, bm, hd', sn, sub, ab, col, dd, k0, k1, k2, k3, k5, mN, hC, hN, hi, T⟩ := exc_objI (bmB := bmV) I.kIn hx
  obtain ⟨hh, gg, dr, tk, os⟩ := s
  refine base_init PySem.F.excBase_ValueError T hC he hl fun h' kp ⟨b, h1⟩ hsz => ?_
  have hu : upd H a (exO a C none) = H := by
    funext c
    by_cases z : c = a
    · rw [z, upd_same, e]
    · rw [upd_ne z]
  have I2 : Inv X pins σ (upd H a (exO a C none)) ⟨h', gg, dr, tk, os⟩ := I.write (x := a) (e := a) (t' := tk) (by rw [e]; exact True.intro) (.inl rfl) (fun b o hb q => kp b o hb q) ⟨_, h1⟩ (ex_ok _ h1)
  rw [hu] at I2
  exact ⟨.non, H, I2, rfl, q⟩
theorem meth_any {prog : Program} {w : World} {A : Around} {E : Value → Shared → Prop} {env : Env} {o : Expr} {name : Str} {args : List Expr} {s : Shared} {Q : Value → Shared → Prop}
    (hbase : attributeBase o name env (eval o env) = eval o env)
    (hfew : ((backTo pos (starEach args env)).all (fun x => !x.1) && (backToKw pos (keywordEach [] env)).all (fun x => x.1.isSome)
      && decide (args.length + ([] : List Keyword).length + (if ([] : List Keyword).isEmpty then 0 else 1) < 30)) = true)
    (hline : (apos.endLine == pos.line) = true)
    (h : wpAny (model prog w) A (eval o env) (fun ov s₁ => ∀ pl, wpAny (model prog w) A (getMethod ov name pl) (fun fx s₂ => wpAny (model prog w) A (callWith pos fx.1 fx.2 (backTo pos (starEach args env)) (backToKw pos (keywordEach [] env))) Q E s₂) E s₁) E s) :
    wpAny (model prog w) A (eval (.Call (.Attribute o name apos) args [] pos) env) Q E s := by
  rw [arm_eval_Call, hbase]
  refine wpAny_bind (wpAny_mono h (fun ov s₁ h₁ => ?_) fun _ _ e => e)
  refine wpAny_bind (wpAny_standAt ?_)
  have hform : methodCallForm (args.length + ([] : List Keyword).length) (backTo pos (starEach args env)) (backToKw pos (keywordEach [] env)) = true := hfew
  have hpos : methodCallPos true o env apos pos = pure pos := by unfold methodCallPos; simp [hline]
  unfold methodCall
  rw [hform]
  refine wpAny_bind (wpAny_holding (wpAny_mono (h₁ _) (fun fx s₂ h₂ => ?_) fun _ _ e => e))
  exact wpAny_bind (wpAny_of_eq hpos h₂)
theorem pe_base (hg : Gl X x) (hm : X.mg x = some (.ref B)) (ha : PA X (e :: es) t) (hdb : (x == ("__debug__" : Str)) = false) (hst : starEach (e :: es) X.env = (false, eval e X.env) :: starEach es X.env) (hpl : (backTo pos (starEach es X.env)).any (·.1) = false)
    (hfew : ((backTo pos (starEach (e :: es) X.env)).all (fun x => !x.1) && (backToKw pos (keywordEach [] X.env)).all (fun x => x.1.isSome)
      && decide ((e :: es).length + ([] : List Keyword).length + (if ([] : List Keyword).isEmpty then 0 else 1) < 30)) = true)
    (hline : (apos.endLine == pos.line) = true) :
    PE X (.Call (.Attribute (.Name x np) "__init__" apos) (e :: es) [] pos) (tBase X.K B t) := by
  intro pins s σ H Q I h
  obtain ⟨b, h⟩ := h
  refine meth_any rfl hfew hline (ld_glob I hg hm (fun pl => ?_) hdb)
  refine PySem.W.method_cls I.kIn b.ga (PySem.W.cls_value I.kIn b.rd b.fd (by decide +kernel) ?_)
  refine PyProof.Rows.callWith_builtin1 (thn (ha pos pins _ σ H _ (I.tok (s.toks + 1)) h) fun us s1 ⟨vs, H1, I1, r1, a, C, f, ws, e1, ea, hl, hx, q⟩ => ?_) hst hpl
  subst e1
  cases r1 with
  | cons r0 r1 =>
    cases r0
    exact run_base I1 ea (by rw [← r1.length]; exact hl) hx q
end
end L2
namespace L2
open PySem PySem.Spec PySem.W PyProof.Rows
noncomputable def del (H : Hp) (a : Addr) : Hp := fun b => if b = a then none else H b
theorem del_same {H : Hp} {a : Addr} : del H a a = none := if_pos rfl
theorem del_ne {H : Hp} {a b : Addr} (h : b ≠ a) : del H a b = H b := if_neg h
section
variable {M : Model} {A : Around} {E : Value → Shared → Prop} {env : Env} {nm q : Str} {C N : Addr} {bs bm : List Value} {hdct : Bool} {sn : List Str} {sub : List Value} {ab : Bool} {col : Option Bool} {dd : Option Addr} {k0 k1 k2 k3 k5 : Option Value} {newId : String}
theorem raise_made {s : Shared} {x : Sem Value} {Q : Flow → Shared → Prop} (hbase : bm.contains (.type "BaseException") = true) (hh : A.handled = none)
    (h : wpAny M A x (fun v s₁ => ∃ e t dx, v = .ref e ∧ s₁.heap.get? C = some (excClassObj nm q C N bs bm hdct sn sub ab col dd k0 k1 k2 k3 k5 newId) ∧
      s₁.heap.get? e = some (exObj C dx #[.ref t, .none, .none, .none, .bool false, .none]) ∧ E (.ref e) s₁) E s) :
    wpAny M A (raiseStmt env (some x) none) Q E s := by
  have hcB : (Value.ref C :: bm).contains (.type "BaseException") = true := by rw [List.contains_cons, hbase, Bool.or_true]
  unfold raiseStmt
  refine wpAny_bind (wpAny_mono h (fun v s₁ h₁ => ?_) fun _ _ x => x)
  obtain ⟨e, t, dx, rfl, hC, he, hE⟩ := h₁
  obtain ⟨hp, g, d, tk, os⟩ := s₁
  repeat (first | with_reducible refine wpAny_loadPart_at he ?_ | with_reducible refine wpAny_loadPart_at hC ?_ | (with_reducible refine wpAny_isSubtype_exc hC ?_; rw [hcB]) | wp_step)
  exact wpAny_raiseNew_none hh hE
end
section
variable {X : Cx} {pins : List (Addr × Obj)} {σ : St} {H : Hp} {s : Shared}
theorem Inv.del {a : Addr} {φ : Heap → Prop} (I : Inv X pins σ H s) (e : H a = some (.ext φ)) : Inv X pins σ (L2.del H a) s := by
  have ne : ∀ {b : Addr} {o : HO}, H b = some o → (∀ ψ, o ≠ .ext ψ) → b ≠ a := fun {b o} q n z => by rw [z, e] at q; exact n φ (Option.some.inj q).symm
  refine ⟨I.ok, I.os, I.bare, ⟨I.base.keep, I.base.slot, fun b o q n hb => ?_, I.base.there, fun b xs q => ?_, fun b o u q => ?_, fun b ps q => ?_⟩, I.loc, I.cell, ?_, fun x c' q => ?_, fun p q => ?_, fun b u q => ?_, I.len⟩
  · by_cases z : b = a
    · rw [z]; exact del_same
    · rw [del_ne z]; exact I.base.free b o q n hb
  · have r := I.base.tups b xs q
    rw [del_ne (ne r fun _ z => by cases z)]; exact r
  · have r := I.base.frzs b o u q
    rw [del_ne (ne r fun _ z => by cases z)]; exact r
  · obtain ⟨more, r⟩ := I.base.tbls b ps q
    exact ⟨more, by rw [del_ne (ne r fun _ z => by cases z)]; exact r⟩
  · by_cases z : X.env.locals = a
    · rw [z]; exact del_same
    · rw [del_ne z]; exact I.free
  · by_cases z : c' = a
    · rw [z]; exact del_same
    · rw [del_ne z]; exact I.freeC x c' q
  · obtain ⟨q1, n, r⟩ := I.pin p q
    refine ⟨q1, ?_, r⟩
    by_cases z : p.1 = a
    · rw [z]; exact del_same
    · rw [del_ne z]; exact n
  · by_cases hb : b = a
    · rw [hb, del_same] at q
      cases q
    · rw [del_ne hb] at q
      exact (I.hok b u q).stay (fun _ _ _ r => r) (fun c' r => by rw [del_ne (ne r fun _ z => by cases z)]; exact r) fun c' xs r => by rw [del_ne (ne r fun _ z => by cases z)]; exact r
structure NewX (X : Cx) (pins : List (Addr × Obj)) (H : Hp) (s : Shared) (a C : Addr) (d : Option Addr) : Prop where
  at_ : ∃ x0, s.heap.get? a = some (exObj C d #[.ref x0, .none, .none, .none, .bool false, .none])
  new : X.s₀.heap.get? a = none
  un : H a = none
  pins : ∀ p ∈ X.pn ++ pins, p.1 ≠ a
theorem note_newX {M : Model} {E : Value → Shared → Prop} {Q : Unit → Shared → Prop} {a C : Addr} {d : Option Addr} (I : Inv X pins σ H s) (stk : X.stack = X.env :: X.outer) (hf : X.env.frame = some X.env.locals) (n : NewX X pins H s a C d)
    (h : ∀ s2, Inv X pins σ H s2 → Fly X.s₀.heap s2.heap H (X.pn ++ pins) a (.ref C) d → Q () s2) :
    wpAny M X.A (noteFrame (.ref a) X.env) (fun _ s' => wpAny M X.A (setFlight (.ref a) none) Q E s') E s := by
  obtain ⟨x0, ht⟩ := n.at_
  unfold noteFrame
  simp only [hf]
  refine wpAny_bind (wpAny_field (x := .none) ht rfl (by rfl) ?_)
  rw [if_neg (show ¬ (Value.none != Value.none) = true by simp)]
  exact enter I stk hf ht rfl (by simp) n.new n.un n.pins h
noncomputable def MadeXS (X : Cx) (E : XS) : Prop := ∀ (pins : List (Addr × Obj)) (σ : St) (H : Hp) (s : Shared) (a C : Addr) (d : Option Addr), Inv X pins σ H s → NewX X pins H s a C d → E σ (.ref C) d H → X.xe (.ref a) s
theorem body_madeX {P : Program} {w : World} {K : PySem.W.Frag} {mg : Str → Option Value} {base : Heap} {N : List Str} {qual : Str} {scope : Scope} {f : Addr} {cd : Value} {A : Around} {outer : List Env} {s : Shared} {H : Hp} {E : XK} :
    MadeXS (cxOf (CXx P w) P w K mg base N qual scope f cd A outer s H E) (fun _ => E) := by
  intro pins σ H1 s1 a C d I n q
  show wpAny _ _ (leaving _ _) _ _ _
  unfold leaving
  refine wpAny_bind (note_newX I rfl rfl n fun s2 I2 F2 => ?_)
  obtain ⟨⟨T, oe, vs, oT, ts, h1, h2, h3, h4, h5, h6, h7, h8, h9, h10, h11, _⟩, b1, b2, _⟩ := F2
  exact ⟨a, .ref C, d, H1, rfl, I2.os, I2.bare, I2.base, I2.hok, ⟨⟨T, oe, vs, oT, ts, h1, h2, h3, h4, h5, h6, h7, h8, h9, h10, h11, fun _ z => nomatch z⟩, b1, b2, fun _ z => nomatch z⟩, q⟩
theorem try_madeX {x n : Str} {C : Addr} {i : Nat} {b₀ : Stmt} {suite : List Stmt} {np hpos : Pos} {ts : TS} {D : Ends} (O : TryOk X x n C i (b₀ :: suite) ts) {pins' : List (Addr × Obj)} {a Cx' : Addr} {d : Option Addr} (ok : X.Ok)
    (I : Inv (X.re X.A X.calm (X.pn ++ pins) (wCatch X pins D [.ExceptHandler (some (.Name x np)) (some n) (b₀ :: suite) hpos])) pins' σ H s) (m : NewX (X.re X.A X.calm (X.pn ++ pins) (wCatch X pins D [.ExceptHandler (some (.Name x np)) (some n) (b₀ :: suite) hpos])) pins' H s a Cx' d) (h : eCatch X.K C i ts D σ (.ref Cx') d H) :
    wCatch X pins D [.ExceptHandler (some (.Name x np)) (some n) (b₀ :: suite) hpos] (.ref a) s := by
  have J : Inv X pins σ H s := I.unre ok fun p z => List.mem_append_left _ z
  exact note_newX J O.stk O.fr ⟨m.at_, m.new, m.un, fun p hp => m.pins p (List.mem_append_left _ hp)⟩ fun s2 I2 F2 => caught_ok O I2 F2 h
noncomputable def sRaisX (C : Addr) (sp : Sp) (dvs : List V) (E : XS) (t : TA) : TS := fun _ σ H => t σ H fun vs H1 => vs.length ≤ sizeLine ∧ ∀ a, H1 a = none →
  sp (.ref a :: (vs ++ dvs)) (upd H1 a (exO a C none)) (fun v H2 => v = .non ∧ ∃ d, H2 a = some (exO a C d) ∧ E σ (.ref C) d (del H2 a)) (E σ)
theorem ps_raiseX {CX : CXT} {C f : Addr} {k : Nat} {fd : FuncData} {ps : List Str} {sp : Sp} {ds : List Value} {dvs : List V} {E : XS} {x : Str} {e : Expr} {es : List Expr} {t : TA} {np cpos pos : Pos} (Mk : MkX X.K C f) (F : FnOk X.prog X.w X.K X.mg X.base CX k f fd ps sp) (hr : Room (k + 1) X.A) (hb : Binds X.K fd ps ds) (hd : Vals dvs ds)
    (hx : PassS CX X E) (hg : Gl X x) (hm : X.mg x = some (.ref C)) (ha : PA X (e :: es) t) (hc : X.calm = true) (hdb : (x == ("__debug__" : Str)) = false)
    (hst : starEach (e :: es) X.env = (false, eval e X.env) :: starEach es X.env) (hpl : (backTo cpos (starEach es X.env)).any (·.1) = false) (made : MadeXS X E) :
    PS X (.Raise (some (.Call (.Name x np) (e :: es) [] cpos)) none pos) (sRaisX C sp dvs E t) := by
  intro pins s σ H D I h
  obtain ⟨nm, qn, N, bs, bm, hd', sn, sub, ab, col, dd, k0, k1, k2, k3, k5, mN, hC, hN, hi, T⟩ := exc_objI (bmB := bmV) I.mod.kin Mk.ex
  have hbase : bm.contains (.type "BaseException") = true := T.hasType (by decide +kernel)
  rw [arm_exec_Raise]
  show wpAny _ _ (do standAt pos; raiseStmt X.env (some (do let v ← eval (.Call (.Name x np) (e :: es) [] cpos) X.env; standAt pos; pure v)) none) _ _ s
  refine wpAny_bind (wpAny_standAt (raise_made (C := C) (nm := nm) (q := qn) (N := N) (bs := bs) (bm := bm) (hdct := hd') (sn := sn) (sub := sub) (ab := ab) (col := col) (dd := dd) (k0 := k0) (k1 := k1) (k2 := k2) (k3 := k3) (k5 := k5) (newId := "ValueError.__new__") hbase (I.ok.hd hc) (wpAny_bind (wpAny_mono (Q := fun v s1 => ∃ a u dx, v = .ref a ∧ s1.heap.get? C = some (excClassObj nm qn C N bs bm hd' sn sub ab col dd k0 k1 k2 k3 k5 "ValueError.__new__") ∧ s1.heap.get? a = some (exObj C dx #[.ref u, .none, .none, .none, .bool false, .none]) ∧ X.xe (.ref a) s1) (E := X.xe) ?_ (fun v s1 z => wpAny_bind (wpAny_standAt (wpAny_pure z))) fun _ _ z => z))))
  refine wpAny_Call_Name_kw (ld_glob I hg hm ?_ hdb)
  refine PySem.W.callWith_K (h₀ := X.base) I.ok.mod.kin Mk.kp (thn (ha cpos pins s σ H _ I h) fun us s1 ⟨vs, H1, I1, r, hlen, q⟩ => ⟨I1.kIn, ?_⟩) hst hpl
  refine wpAny_mono (run_makeX (E := E σ) (Q := fun v H2 => ∃ a d, s1.heap.objs.size ≤ a ∧ v = .ref a ∧ H2 a = some (exO a C d) ∧ E σ (.ref C) d (del H2 a)) Mk F hr hb hd (fun H' s' e s'' I' z => hx pins σ H' s' e s'' I' z) I1 r hlen (fun a hsz ha' => ?_)) (fun v s2 z => ?_) fun _ _ z => z
  · have e : (fun (v : V) (H2 : Hp) => v = .non ∧ ∃ d, H2 a = some (exO a C d) ∧ E σ (.ref C) d (del H2 a)) = fun v H2 => v = .non ∧ ∃ a_1 d, s1.heap.objs.size ≤ a_1 ∧ V.ref a = V.ref a_1 ∧ H2 a_1 = some (exO a_1 C d) ∧ E σ (.ref C) d (del H2 a_1) := by
      funext v H2
      apply propext
      constructor
      · rintro ⟨h1, d, h2, h3⟩
        exact ⟨h1, a, d, hsz, rfl, h2, h3⟩
      · rintro ⟨h1, b, d, _, h4, h2, h3⟩
        cases h4
        exact ⟨h1, d, h2, h3⟩
    rw [← e]
    exact q a ha'
  · obtain ⟨w', H2, I2, rw', a, d, hsz, rfl, ea, hE⟩ := z
    cases rw'
    obtain ⟨⟨x0, he⟩, _⟩ := I2.hok a _ ea
    refine ⟨a, x0, d, rfl, I2.bk _ _ hC, he, made pins σ (del H2 a) s2 a C d (I2.del ea) ⟨⟨x0, he⟩, Heap.get?_none_of_le (Nat.le_trans I1.sz hsz), del_same, fun p hp => ?_⟩ hE⟩
    exact Nat.ne_of_lt (Nat.lt_of_lt_of_le (Heap.lt_size (I1.pin p hp).1) hsz)
end
end L2
namespace L2
open PySem PySem.Spec PySem.W PyProof.Rows
noncomputable def fldOk (K : PySem.W.Frag) (C : Addr) (f : Str) : Bool :=
  excOk K C && findIn K (.ref C) f == some none && (match clsIn K C with | some cd => cd.hasDict | none => false)
theorem handed_rel {v : V} {u : Value} (r : RelV v u) : handedIn u = true := by
  cases v with
  | non => cases r; rfl
  | bl b => cases r; rfl
  | int i => obtain ⟨t, rfl⟩ := r; rfl
  | str x => obtain ⟨t, rfl⟩ := r; rfl
  | byt b => obtain ⟨t, rfl⟩ := r; rfl
  | flt b => obtain ⟨t, rfl⟩ := r; rfl
  | ref a => cases r; rfl
  | ty n => cases r; rfl
theorem look_ns1 {h : Heap} {d : Addr} {m : Str → Option Value} {f : Str} {u : Value} (N : h.Ns1 d m) (e : m f = some u) : ∃ o, h.get? d = some o ∧ lookIn f o = some (some u) := by
  obtain ⟨o, es, ep, ho, hd, _, _, hf⟩ := N
  refine ⟨o, ho, ?_⟩
  have q := (hf f).trans e
  unfold nsFind findBy at q
  rw [← Array.find?_toList] at q
  unfold lookIn
  rw [hd]
  dsimp only
  cases hz : es.toList.find? (·.key.isStr f) with
  | none => rw [hz] at q; cases q
  | some en => rw [hz] at q; simpa using q
theorem findObj_fld {K : PySem.W.Frag} {C : Addr} {f : Str} {o : Obj} {u : Value} (F : fldOk K C f = true) (e : lookIn f o = some (some u)) : findObj K C (some o) f = some (.value u) := by
  unfold fldOk at F
  rw [Bool.and_eq_true, Bool.and_eq_true, beq_iff_eq] at F
  obtain ⟨⟨_, h1⟩, h2⟩ := F
  cases hc : clsIn K C with
  | none => rw [hc] at h2; cases h2
  | some cd =>
    rw [hc] at h2
    unfold findObj
    rw [hc, Option.bind_some, h1, Option.bind_some]
    have h3 : PySem.W.ownOf cd (some o) f = some (some u) := by
      unfold PySem.W.ownOf
      rw [if_pos h2]
      exact e
    simp [h3]
section
variable {prog : Program} {w : World} {A : Around} {E : Value → Shared → Prop} {s : Shared} {K : PySem.W.Frag} {a C : Addr} {o : Obj} {od : Option Obj} {f : Str} {u : Value}
theorem bexc_fld {tk : Tok} {R : Result → Shared → Prop} (kin : K.In s.heap) (J : InstAt s.heap a o C od) (F : ExcOk K C) (hf : findObj K C od f = some (.value u)) (h : R (.ok (.ret u)) s) :
    codeAny (model prog w) A (.call (.builtin "BaseException.__getattribute__") ⟨[.ref a, .str f tk], []⟩) R s := by
  obtain ⟨hh, g, d, t, os⟩ := s
  have L0 := J.type (M := model prog w)
  have L3 := looks_find (M := model prog w) kin J hf
  refine codeAny_call_builtin PySem.F.attrBase_ValueError.ga.plain PySem.F.entry_bexc_ga (bexc_check kin J F ?_)
  unfold Builtin.«object.__getattribute__»
  repeat (first | with_reducible refine wpAny_call ?_ | lk | wp_step)
  exact h
theorem exc_fld {b : Bool} {Q : Value → Shared → Prop} (kin : K.In s.heap) (J : InstAt s.heap a o C od) (F : ExcOk K C) (hf : findObj K C od f = some (.value u)) (hu : handedIn u = true) (h : Q u { s with toks := s.toks + 1 }) :
    wpAny (model prog w) A (getAttr (.ref a) f b) Q E s := by
  obtain ⟨hh, g, d, t, os⟩ := s
  have L0 := J.type (M := model prog w)
  have L1 := looks_findIn (M := model prog w) kin F.ga
  have L2 := looks_findIn (M := model prog w) kin F.hook
  unfold getAttr getAttrBy
  refine wpAny_bind (wpAny_mkText (wpAny_holding (wpAny_bind (L0.at (wpAny_bind (L1.at ?_))))))
  show wpAny _ _ (if (onTheHeap (.ref C) && (Value.builtin "BaseException.__getattribute__" == Value.builtin "object.__getattribute__")) = true then _ else _) _ _ _
  rw [ga_ne, Bool.and_false, if_neg Bool.false_ne_true]
  unfold getAttrByItsOwn hookBefore
  rw [if_pos (show onTheHeap (.ref C) = true from rfl)]
  refine wpAny_bind (L2.at ?_)
  unfold callGetattribute boundAndCalled
  rw [show onTheHeap (Value.builtin "BaseException.__getattribute__") = false from rfl, Bool.and_false, if_neg Bool.false_ne_true]
  refine wpAny_bind (wpAny_attempt (wpAny_holding (wpAny_bind ?_)))
  rw [PySem.F.attrBase_ValueError.ga.bind (.ref a)]
  refine wpAny_pure (wpAny_call (bexc_fld (s := ⟨hh, g, d, t + 1, os⟩) kin J F hf ?_))
  show wpAny _ _ (handedOut u) _ _ _
  rw [handedOut_of hu]
  exact wpAny_pure h
end
noncomputable def rFld (K : PySem.W.Frag) (f : Str) : V → Hp → VK → Prop := fun x H Q => ∃ a C dd fs v, x = .ref a ∧ H a = some (excOd a (.ref C) (some dd)) ∧ H dd = some (xdO dd fs) ∧ fldOk K C f = true ∧ fs.lookup f = some v ∧ Q v H
section
variable {X : Cx} {pins : List (Addr × Obj)} {σ : St} {H : Hp} {s : Shared}
theorem get_fld {x : V} {u : Value} {f : Str} {b : Bool} {Q : VK} (I : Inv X pins σ H s) (r : RelV x u) (h : rFld X.K f x H Q) : wpAny (model X.prog X.w) X.A (getAttr u f b) (EP X pins σ Q) X.xe s := by
  obtain ⟨a, C, dd, fs, v, rfl, ea, ed, F, hl, q⟩ := h
  obtain rfl : u = .ref a := r
  obtain ⟨⟨o, e1, e2, e3, e4⟩, _⟩ := I.hok a _ ea
  obtain ⟨⟨mA, N, rf, _⟩, _⟩ := I.hok dd _ ed
  have rv := rf f
  rw [hl] at rv
  cases hm : mA f with
  | none => rw [hm] at rv; exact rv.elim
  | some y =>
    rw [hm] at rv
    obtain ⟨od, ho, hk⟩ := look_ns1 N hm
    have F' : excOk X.K C = true := by
      unfold fldOk at F
      rw [Bool.and_eq_true, Bool.and_eq_true] at F
      exact F.1.1
    exact exc_fld I.kIn (od := some od) ⟨e1, e2, e4, by rw [e3]; exact ho⟩ (excOk_of F') (findObj_fld F hk) (handed_rel rv) ⟨v, H, I.tok _, rv, q⟩
theorem pe_fldX {n f : Str} {np pos : Pos} {t : TE} (hn : PE X (.Name n np) t) : PE X (.Attribute (.Name n np) f pos) (fun σ H Q => t σ H fun x H1 => rFld X.K f x H1 Q) := by
  intro pins s σ H Q I h
  refine Attribute_name (thn (hn pins s σ H _ I h) fun u s1 ⟨x, H1, I1, r, q⟩ => ?_)
  exact get_fld I1 r q
theorem call_isinstD : CallR X (.builtin "isinstance") (fun xs H Q => ∃ a C d y cv b, xs = [.ref a, y] ∧ H a = some (excOd a (.ref C) d) ∧ (∀ dd, d = some dd → ∃ fs, H dd = some (xdO dd fs)) ∧ excOk X.K C = true ∧ ((∃ T, y = .ty T ∧ cv = Value.type T) ∨ (∃ D, y = .ref D ∧ cv = Value.ref D)) ∧ kitOne X.K (.ref C) cv = some b ∧ Q (.bl b) H) := by
  intro pins s σ H xs us Q I rv h
  obtain ⟨a, C, d, y, cv, b, rfl, ea, hd, ok, hy, e, q⟩ := h
  obtain ⟨u, c, rfl, ru, rc⟩ := rv.two
  obtain rfl : u = Value.ref a := ru
  have hc : c = cv := by
    rcases hy with ⟨T, rfl, rfl⟩ | ⟨D, rfl, rfl⟩
    · cases rc; rfl
    · cases rc; rfl
  subst hc
  exact kia_one (kitx_exc (excOk_of ok)) I.kIn (excOd_inst I.hok ea fun dd z => by obtain ⟨fs, k⟩ := hd dd z; exact ⟨_, k⟩) e (fun z => nomatch z) fun tk => ⟨.bl b, H, I.tok tk, rfl, q⟩
end
end L2
set_option genInjectivity false
set_option genSizeOf false
namespace R
open PySem PySem.Spec PyProof.Rows L2
inductive Bf where
  | len | isinstance | all | any | list | tuple | sorted | set | min | max | sum | int | lend | sorti | sortp | setp | isx | strI | intS
  deriving DecidableEq
noncomputable def Bf.name : Bf → Str
  | .len => "len" | .isinstance => "isinstance" | .all => "all" | .any => "any" | .list => "list" | .tuple => "tuple" | .sorted => "sorted" | .set => "set" | .min => "min" | .max => "max" | .sum => "sum" | .int => "int" | .lend => "len" | .sorti => "sorted" | .sortp => "sorted" | .setp => "set" | .isx => "isinstance" | .strI => "str" | .intS => "int"
noncomputable def Bf.val : Bf → Value
  | .len => .builtin "len" | .isinstance => .builtin "isinstance" | .all => .builtin "all" | .any => .builtin "any" | .list => .type "list" | .tuple => .type "tuple" | .sorted => .builtin "sorted" | .set => .type "set" | .min => .builtin "min" | .max => .builtin "max" | .sum => .builtin "sum" | .int => .type "int" | .lend => .builtin "len" | .sorti => .builtin "sorted" | .sortp => .builtin "sorted" | .setp => .type "set" | .isx => .builtin "isinstance" | .strI => .type "str" | .intS => .type "int"
theorem Bf.boot : ∀ b : Bf, bootBuiltins b.name = some b.val
  | .len => PySem.boot_len | .isinstance => boot_isinstance | .all => boot_all | .any => boot_any | .list => PyProof.Rows.boot_list | .tuple => PyProof.Rows.boot_tuple
  | .sorted => by decide +kernel | .set => by decide +kernel | .min => by decide +kernel | .max => by decide +kernel | .sum => by decide +kernel | .int => PyProof.Rows.boot_int | .lend => PySem.boot_len | .sorti => by decide +kernel | .sortp => by decide +kernel | .setp => by decide +kernel | .isx => boot_isinstance | .strI => PyProof.Rows.boot_str | .intS => PyProof.Rows.boot_int
theorem Bf.plain : ∀ b : Bf, b.name ≠ "__name__" ∧ (b.name == ("__debug__" : Str)) = false := by
  intro b; cases b <;> exact ⟨by decide +kernel, by decide +kernel⟩
inductive Ty where
  | int | bool | str | list | tuple | dict | valueError
  deriving DecidableEq
noncomputable def Ty.name : Ty → Str
  | .int => "int" | .bool => "bool" | .str => "str" | .list => "list" | .tuple => "tuple" | .dict => "dict" | .valueError => "ValueError"
noncomputable def Ty.t : Ty → String
  | .int => "int" | .bool => "bool" | .str => "str" | .list => "list" | .tuple => "tuple" | .dict => "dict" | .valueError => "ValueError"
theorem Ty.boot : ∀ b : Ty, bootBuiltins b.name = some (.type b.t)
  | .int => PyProof.Rows.boot_int | .bool => PyProof.Rows.boot_bool | .str => PyProof.Rows.boot_str | .list => PyProof.Rows.boot_list | .tuple => PyProof.Rows.boot_tuple | .dict => PyProof.Rows.boot_dict | .valueError => by decide +kernel
theorem Ty.plain : ∀ b : Ty, b.name ≠ "__name__" ∧ (b.name == ("__debug__" : Str)) = false := by
  intro b; cases b <;> exact ⟨by decide +kernel, by decide +kernel⟩
noncomputable def rBin (K : PySem.W.Frag) : Operator → R2
  | .Add => fun x y H Q => (rI0 fun i j => .int (i + j)) x y H Q ∨ (∃ i j, x = .str i ∧ y = .str j ∧ i.length + j.length ≤ sizeLine ∧ Q (.str (i ++ j)) H) ∨ rCat x y H Q ∨ rCatT K x y H Q ∨ rCat0 K x y H Q
  | .Sub => rI0 fun i j => .int (i - j)
  | .Mult => fun x y H Q => (rI CMul fun i j => .int (i * j)) x y H Q ∨ rRep x y H Q ∨ rRepS x y H Q
  | .Mod => rI (fun _ j => 0 < j) fun i j => .int (i % j)
  | .FloorDiv => rI CDiv fun i j => .int (i / j)
  | .Pow => rI CPow fun i j => .int (i ^ j.toNat)
  | .RShift => rI (fun _ j => 0 ≤ j) fun i j => .int (i / 2 ^ j.toNat)
  | .LShift => rI CPow fun i j => .int (i * 2 ^ j.toNat)
  | _ => fun _ _ _ _ => False
noncomputable def rCmp (K : PySem.W.Frag) : CmpOp → R2
  | .Eq => rEqD K
  | .NotEq => rNeD K
  | .Lt => rI0 fun i j => .bl (decide (i < j))
  | .LtE => rI0 fun i j => .bl (decide (i ≤ j))
  | .Gt => rI0 fun i j => .bl (decide (j < i))
  | .GtE => rI0 fun i j => .bl (decide (j ≤ i))
  | .Is => fun x y H Q => y = .non ∧ Q (.bl (decide (x = .non))) H
  | .IsNot => fun x y H Q => y = .non ∧ Q (.bl (!decide (x = .non))) H
  | .In => fun x y H Q => ((∃ i j, x = .str i ∧ y = .str j ∧ Q (.bl (!(Builtin.Str.occurrences j i 0 j.length 1).isEmpty)) H) ∨ rInD K false x y H Q) ∨ rIn K false x y H Q
  | .NotIn => fun x y H Q => ((∃ i j, x = .str i ∧ y = .str j ∧ Q (.bl (!(!(Builtin.Str.occurrences j i 0 j.length 1).isEmpty))) H) ∨ rInD K true x y H Q) ∨ rIn K true x y H Q
noncomputable def rUn (K : PySem.W.Frag) : UnaryOp → V → Hp → VK → Prop
  | .USub => rU fun i => .int (-i)
  | _ => fun _ _ _ => False
noncomputable def rSlc (K : PySem.W.Frag) : V → Option Int → Option Int → Hp → VK → Prop := fun x lo hi H Q => rSlL K x lo hi H Q ∨ rSlS x lo hi H Q
noncomputable def rBf (K : PySem.W.Frag) : Bf → List V → Hp → VK → Prop
  | .len => fun xs H Q => (∃ p ys, xs = [.ref p] ∧ (SqL K H p ys ∨ SqT K H p ys) ∧ Q (.int ys.length) H) ∨ (∃ z : Str, xs = [.str z] ∧ z.length ≤ sizeLine ∧ Q (.int z.length) H) ∨ (∃ a n, xs = [V.ref a] ∧ H a = some (_root_.Q.setO a n) ∧ Q (.int n) H)
  | .isinstance => fun xs H Q => (∃ x T t b, xs = [x, .ty T] ∧ TyOf K H x t ∧ PySem.W.kitOne K t (.type T) = some b ∧ Q (.bl b) H) ∨ (∃ x C t b, xs = [x, .ref C] ∧ TyOf K H x t ∧ PySem.W.kitOne K t (.ref C) = some b ∧ Q (.bl b) H) ∨ (∃ a C y cv b, xs = [.ref a, y] ∧ H a = some (excO a (.ref C)) ∧ excOk K C = true ∧ ((∃ T, y = .ty T ∧ cv = Value.type T) ∨ (∃ D, y = .ref D ∧ cv = Value.ref D)) ∧ PySem.W.kitOne K (.ref C) cv = some b ∧ Q (.bl b) H)
  | .all => fun xs H Q => ∃ (p : Addr) (bs : List Bool), xs = [.ref p] ∧ SqL K H p (bs.map V.bl) ∧ Q (.bl (bs.all id)) H
  | .any => fun xs H Q => ∃ (p : Addr) (bs : List Bool), xs = [.ref p] ∧ SqL K H p (bs.map V.bl) ∧ Q (.bl (bs.any id)) H
  | .list => fun xs H Q => ∃ p ys, xs = [.ref p] ∧ (SqL K H p ys ∨ SqT K H p ys) ∧ ∀ l, H l = none → Q (.ref l) (upd H l (.lst ys))
  | .tuple => fun xs H Q => ∃ p ys, xs = [.ref p] ∧ ((SqL K H p ys ∧ ∀ l, H l = none → Q (.ref l) (upd H l (.tup ys))) ∨ (SqT K H p ys ∧ Q (.ref p) H))
  | .sorted => Q.rSort K
  | .set => Q.rSet K
  | .min => fun xs H Q => ∃ i j, xs = [.int i, .int j] ∧ Q (.int (if j < i then j else i)) H
  | .max => fun _ _ _ => False
  | .sum => fun xs H Q => ∃ (p : Addr) (ns : List Int), xs = [.ref p] ∧ SqL K H p (ns.map V.int) ∧ Q (.int ns.sum) H
  | .int => fun xs H Q => (∃ i, xs = [.int i] ∧ Q (.int i) H) ∨ ∃ k, xs = [.bl k] ∧ Q (.int (if k then 1 else 0)) H
  | .lend => fun xs H Q => ∃ a kvs, xs = [V.ref a] ∧ H a = some (.dT kvs) ∧ Q (.int kvs.length) H
  | .sorti => fun _ _ _ => False
  | .sortp => fun _ _ _ => False
  | .setp => fun _ _ _ => False
  | .strI => fun xs H Q => ∃ i, xs = [.int i] ∧ i.natAbs.log2 < 1920 ∧ Q (.str (toString i)) H
  | .intS => fun xs H Q => ∃ z n, xs = [.str z] ∧ Fig z n ∧ Q (.int n) H
  | .isx => fun xs H Q => ∃ a C d y cv b, xs = [.ref a, y] ∧ H a = some (excOd a (.ref C) d) ∧ (∀ dd, d = some dd → ∃ fs, H dd = some (xdO dd fs)) ∧ excOk K C = true ∧ ((∃ T, y = .ty T ∧ cv = Value.type T) ∨ (∃ D, y = .ref D ∧ cv = Value.ref D)) ∧ PySem.W.kitOne K (.ref C) cv = some b ∧ Q (.bl b) H
inductive Mm where
  | append | clear | reverse | pop | index
  deriving DecidableEq
noncomputable def Mm.name : Mm → Str
  | .append => "append" | .clear => "clear" | .reverse => "reverse" | .pop => "pop" | .index => "index"
noncomputable def Mm.id : Mm → String
  | .append => "list.append" | .clear => "list.clear" | .reverse => "list.reverse" | .pop => "list.pop" | .index => "list.index"
noncomputable def rMm : Mm → V → List V → Hp → VK → Prop
  | .append => rAppend
  | .clear => fun _ _ _ _ => False
  | .reverse => fun _ _ _ _ => False
  | .pop => fun _ _ _ _ => False
  | .index => fun _ _ _ _ => False
noncomputable def baseOk : Expr → Bool
  | .Name .. => true | .Subscript .. => true
  | _ => false
mutual
inductive CE where
  | var (i : Nat)
  | con (c : Const)
  | glo (x : Str)
  | ty (t : Ty)
  | bin (op : Operator) (a b : CE)
  | un (op : UnaryOp) (a : CE)
  | cmp (op : CmpOp) (a b : CE)
  | chain (op op' : CmpOp) (a b c : CE)
  | not (a : CE)
  | and (a b : CE)
  | or (a b : CE)
  | ite (c a b : CE)
  | idx (a i : CE)
  | cut (a : CE) (lo hi : CO)
  | tup (es : CL)
  | lst (es : CL)
  | dic (ps : CP)
  | call (f : Str) (es : CL)
  | bfn (b : Bf) (es : CL)
  | meth0 (m : Mm) (o : CE)
  | meth1 (m : Mm) (o a : CE)
  | join (sep : Str) (a : CE)
  | idxd (a i : CE)
  | dicT
  | setd (o a b : CE)
  | ins (o a b : CE)
  | divb (a b : CE)
  | split (o a : CE)
  | upper (o : CE)
  | ninG (a b : CE)
  | base (x : Str) (es : CL)
  | fld (a : CE) (f : Str)
  | inG (a b : CE)
  | idxG (a i : CE)
  | fstr (pre post : Str) (a : CE)
  | rev (a : CE)
  | lrng (a : CE)
  | comp (own : List Str) (fr : List Nat) (tg : CG) (it : CI) (cond : CO) (elt : CE)
inductive CL where
  | nil
  | cons (e : CE) (es : CL)
inductive CP where
  | nil
  | cons (k v : CE) (r : CP)
inductive CO where
  | no
  | yes (e : CE)
inductive CG where
  | name (i : Nat)
  | tup (gs : CGs)
  | sub (o i : CE)
inductive CGs where
  | nil
  | cons (g : CG) (gs : CGs)
inductive CI where
  | seq (e : CE)
  | lseq (e : CE)
  | tseq (e : CE)
  | range1 (e : CE)
  | range2 (a b : CE)
  | enum (e : CE)
  | zip (a b : CE)
  | zipt (a b : CE)
end
noncomputable def CL.len : CL → Nat
  | .nil => 0
  | .cons _ r => r.len + 1
noncomputable def CGs.len : CGs → Nat
  | .nil => 0
  | .cons _ r => r.len + 1
mutual
inductive CS where
  | asg (g : CG) (e : CE)
  | asgc (i : Nat) (e : CE)
  | expr (e : CE)
  | iff (c : CE) (a b : CB)
  | whl (c : CE) (b : CB)
  | forr (g : CG) (it : CI) (b : CB)
  | ret (e : CE)
  | retN
  | pass | brk | cont
  | rais (x : Str) (es : CL)
  | raisX (x : Str) (es : CL)
  | fldX (o : CE) (f : Str) (e : CE)
  | tryc (x : Str) (i : Nat) (b su : CB)
inductive CB where
  | nil
  | hole
  | cons (s : CS) (r : CB)
end
noncomputable def isVis (sc : Scope) (x : Str) : Bool := sc.names.lookup x == some .local || sc.names.lookup x == some .cell || sc.names.lookup x == some .free
noncomputable def isGl (sc : Scope) (x : Str) : Bool := sc.names.lookup x == some .globalImplicit
noncomputable def okVar (x : Str) : Bool := (x == ("__debug__" : Str)) == false && (x == ("__classdict__" : Str)) == false
noncomputable def okCon : Const → Bool
  | .none => true | .bool _ => true | .int _ => true | .str _ => true | _ => false
noncomputable def cv : Const → V
  | .none => .non | .bool b => .bl b | .int i => .int i | .str x => .str x | _ => .non
noncomputable def namesOf (N own : List Str) (fr : List Nat) : List Str := own ++ fr.map fun j => N.getD j ""
noncomputable def slotsOf (own : List Str) (fr : List Nat) (σ : L2.St) : L2.St := own.map (fun _ => none) ++ fr.map fun j => (σ[j]?).getD none
noncomputable def isSlice : Expr → Bool
  | .Slice .. => true
  | _ => false
noncomputable def isSet : Expr → Bool
  | .Set .. => true
  | _ => false
noncomputable def isComp : Expr → Bool
  | .ListComp .. => true | .SetComp .. => true | .DictComp .. => true
  | _ => false
noncomputable def isTupE : Expr → Bool
  | .Tuple .. => true
  | _ => false
noncomputable def okScope (sc sc' : Scope) (N own : List Str) (fr : List Nat) : Bool :=
  decide (sc'.kind = .function) && sc'.names.all (fun y => decide (y.2 = .cell → sc'.names.lookup y.1 = some .cell)) && sc'.names.all (fun y => decide (y.2 = .local → sc'.names.lookup y.1 = some .local)) &&
  sc'.names.all (fun y => decide (y.2 = .free → sc.names.lookup y.1 = some .cell ∨ sc.names.lookup y.1 = some .free)) && decide ((namesOf N own fr).Nodup) &&
  fr.all (fun j => decide (j < N.length) && sc'.names.lookup (N.getD j "") == some .free) && own.all (fun x => sc'.names.lookup x == some .local || sc'.names.lookup x == some .cell)
noncomputable def isStr (x : Str) : Expr → Bool
  | .Constant (.str y) _ _ => decide (y = x)
  | _ => false
mutual
noncomputable def chkE (sc : Scope) (N : List Str) : CE → Expr → Bool
  | .var i, e => match e with
    | .Name x _ => N[i]? == some x && isVis sc x && okVar x
    | _ => false
  | .con c, e => match e with
    | .Constant c' _ _ => okCon c && decide (c = c')
    | _ => false
  | .glo x, e => match e with
    | .Name y _ => decide (x = y) && isGl sc x && okVar x
    | _ => false
  | .ty t, e => match e with
    | .Name y _ => decide (t.name = y) && isGl sc y
    | _ => false
  | .bin op a b, e => match e with
    | .BinOp a' op' b' _ => decide (op = op') && chkE sc N a a' && chkE sc N b b'
    | _ => false
  | .un op a, e => match e with
    | .UnaryOp op' a' _ => decide (op = op') && chkE sc N a a'
    | _ => false
  | .cmp op a b, e => match e with
    | .Compare a' [op'] [b'] _ => decide (op = op') && !isSet b' && chkE sc N a a' && chkE sc N b b'
    | _ => false
  | .chain o1 o2 a b c, e => match e with
    | .Compare a' [o1', o2'] [b', c'] _ => decide (o1 = o1') && decide (o2 = o2') && !isSet c' && chkE sc N a a' && chkE sc N b b' && chkE sc N c c'
    | _ => false
  | .not a, e => match e with
    | .UnaryOp .Not a' _ => chkE sc N a a'
    | _ => false
  | .and a b, e => match e with
    | .BoolOp .And [a', b'] _ => chkE sc N a a' && chkE sc N b b'
    | .BoolOp .And (a' :: b' :: c' :: r') p => chkE sc N a a' && chkE sc N b (.BoolOp .And (b' :: c' :: r') p)
    | _ => false
  | .or a b, e => match e with
    | .BoolOp .Or [a', b'] _ => chkE sc N a a' && chkE sc N b b'
    | .BoolOp .Or (a' :: b' :: c' :: r') p => chkE sc N a a' && chkE sc N b (.BoolOp .Or (b' :: c' :: r') p)
    | _ => false
  | .ite c a b, e => match e with
    | .IfExp c' a' b' _ => chkE sc N c c' && chkE sc N a a' && chkE sc N b b'
    | _ => false
  | .idx a i, e => match e with
    | .Subscript a' i' _ => !isSlice i' && chkE sc N a a' && chkE sc N i i'
    | _ => false
  | .cut a lo hi, e => match e with
    | .Subscript a' (.Slice lo' hi' none _) _ => chkE sc N a a' && chkO sc N lo lo' && chkO sc N hi hi'
    | _ => false
  | .tup es, e => match e with
    | .Tuple es' _ _ => chkL sc N es es'
    | _ => false
  | .lst es, e => match e with
    | .List es' _ => chkL sc N es es'
    | _ => false
  | .dic ps, e => match e with
    | .Dict ks' vs' _ => chkP sc N ps ks' vs' && decide (ks'.length ≤ 15)
    | _ => false
  | .call f es, e => match e with
    | .Call (.Name f' _) es' [] _ => decide (f = f') && isGl sc f && okVar f && chkL sc N es es'
    | _ => false
  | .bfn b es, e => match e with
    | .Call (.Name f' _) (e1 :: es') [] _ => decide (b.name = f') && isGl sc f' && chkL sc N es (e1 :: es')
    | _ => false
  | .meth0 m o, e => match e with
    | .Call (.Attribute o' nm ap) [] [] cp => decide (m.name = nm) && (ap.endLine == cp.line) && baseOk o' && chkE sc N o o'
    | _ => false
  | .meth1 m o a, e => match e with
    | .Call (.Attribute o' nm ap) [a'] [] cp => decide (m.name = nm) && (ap.endLine == cp.line) && baseOk o' && chkE sc N o o' && chkE sc N a a'
    | _ => false
  | .join sep a, e => match e with
    | .Call (.Attribute o' nm ap) [a'] [] cp => decide (nm = Str.ofString "join") && (ap.endLine == cp.line) && isStr sep o' && chkE sc N a a'
    | _ => false
  | .idxd _ _, _ => false
  | .dicT, _ => false
  | .setd _ _ _, _ => false
  | .ins _ _ _, _ => false
  | .split o a, e => match e with
    | .Call (.Attribute o' nm ap) [a'] [] cp => decide (nm = Str.ofString "split") && (ap.endLine == cp.line) && baseOk o' && chkE sc N o o' && chkE sc N a a'
    | _ => false
  | .upper o, e => match e with
    | .Call (.Attribute o' nm ap) [] [] cp => decide (nm = Str.ofString "upper") && (ap.endLine == cp.line) && baseOk o' && chkE sc N o o'
    | _ => false
  | .ninG a b, e => match e with
    | .Compare a' [op'] [b'] _ => decide (CmpOp.NotIn = op') && !isSet b' && chkE sc N a a' && chkE sc N b b'
    | _ => false
  | .base x es, e => match e with
    | .Call (.Attribute (.Name x' _) nm ap) (e' :: es') [] cp => decide (nm = Str.ofString "__init__") && (ap.endLine == cp.line) && decide (x = x') && isGl sc x && okVar x && decide (es.len < 29) && chkL sc N es (e' :: es')
    | _ => false
  | .fld a f, e => match e with
    | .Attribute (.Name n np) f' _ => decide (f = f') && chkE sc N a (.Name n np)
    | _ => false
  | .inG a b, e => match e with
    | .Compare a' [op'] [b'] _ => decide (CmpOp.In = op') && !isSet b' && chkE sc N a a' && chkE sc N b b'
    | _ => false
  | .idxG a i, e => match e with
    | .Subscript a' i' _ => !isSlice i' && chkE sc N a a' && chkE sc N i i'
    | _ => false
  | .fstr pre post a, e => match e with
    | .JoinedStr [.Constant (.str x) _ _, .FormattedValue a' (-1) none _, .Constant (.str y) _ _] _ => decide (pre = x) && decide (post = y) && chkE sc N a a'
    | _ => false
  | .divb _ _, _ => false
  | .rev _, _ => false
  | .lrng _, _ => false
  | .comp own fr tg it cond elt, e => match e with
    | .ListComp elt' [⟨tg', it', ifs', 0⟩] sc' _ => okScope sc sc' N own fr && !isSet it' && chkI sc N it it' tg' &&
      chkG sc' (namesOf N own fr) false tg tg' && chkC sc' (namesOf N own fr) cond ifs' && chkE sc' (namesOf N own fr) elt elt'
    | _ => false
noncomputable def chkL (sc : Scope) (N : List Str) : CL → List Expr → Bool
  | .nil, es => match es with
    | [] => true
    | _ => false
  | .cons e r, es => match es with
    | e' :: r' => chkE sc N e e' && chkL sc N r r'
    | _ => false
noncomputable def chkP (sc : Scope) (N : List Str) : CP → List (Option Expr) → List Expr → Bool
  | .nil, ks, vs => match ks, vs with
    | [], [] => true
    | _, _ => false
  | .cons k v r, ks, vs => match ks, vs with
    | some k' :: ks', v' :: vs' => chkE sc N k k' && chkE sc N v v' && chkP sc N r ks' vs'
    | _, _ => false
noncomputable def chkO (sc : Scope) (N : List Str) : CO → Option Expr → Bool
  | .no, o => match o with
    | none => true
    | _ => false
  | .yes e, o => match o with
    | some e' => chkE sc N e e'
    | _ => false
noncomputable def chkC (sc : Scope) (N : List Str) : CO → List Expr → Bool
  | .no, o => match o with
    | [] => true
    | _ => false
  | .yes e, o => match o with
    | [e'] => chkE sc N e e'
    | _ => false
noncomputable def chkG (sc : Scope) (N : List Str) (all : Bool) : CG → Expr → Bool
  | .name i, e => match e with
    | .Name x _ => N[i]? == some x && (sc.names.lookup x == some .local || sc.names.lookup x == some .cell)
    | _ => false
  | .tup gs, e => match e with
    | .Tuple es' _ _ => chkGs sc N all gs es'
    | _ => false
  | .sub o i, e => match e with
    | .Subscript o' i' _ => !isSlice i' && chkE sc N o o' && chkE sc N i i'
    | _ => false
noncomputable def chkGs (sc : Scope) (N : List Str) (all : Bool) : CGs → List Expr → Bool
  | .nil, es => match es with
    | [] => true
    | _ => false
  | .cons g gs, es => match es with
    | e' :: es' => chkG sc N all g e' && chkGs sc N all gs es'
    | _ => false
noncomputable def chkI (sc : Scope) (N : List Str) : CI → Expr → Expr → Bool
  | .seq e, e', _ => chkE sc N e e'
  | .lseq e, e', _ => chkE sc N e e'
  | .tseq e, e', _ => chkE sc N e e'
  | .range1 e, x, _ => match x with
    | .Call (.Name f' _) [e'] [] _ => decide (f' = "range") && isGl sc f' && chkE sc N e e'
    | _ => false
  | .range2 a b, x, _ => match x with
    | .Call (.Name f' _) [a', b'] [] _ => decide (f' = "range") && isGl sc f' && chkE sc N a a' && chkE sc N b b'
    | _ => false
  | .enum e, x, tg' => match x with
    | .Call (.Name f' _) [e'] [] _ => decide (f' = "enumerate") && isGl sc f' && chkE sc N e e' && isTupE tg'
    | _ => false
  | .zip a b, x, tg' => match x with
    | .Call (.Name f' _) [a', b'] [] _ => decide (f' = "zip") && isGl sc f' && chkE sc N a a' && chkE sc N b b' && isTupE tg'
    | _ => false
  | .zipt a b, x, tg' => match x with
    | .Call (.Name f' _) [a', b'] [] _ => decide (f' = "zip") && isGl sc f' && chkE sc N a a' && chkE sc N b b' && isTupE tg'
    | _ => false
end
mutual
noncomputable def liteE : CE → Bool
  | .var _ => true
  | .con _ => true
  | .glo _ => true
  | .ty _ => true
  | .lst es => liteL es
  | .tup es => liteL es
  | .bfn .isinstance es => liteL es
  | .bfn .isx es => liteL es
  | .fld a _ => liteE a
  | .bin _ a b => liteE a && liteE b
  | _ => false
noncomputable def liteL : CL → Bool
  | .nil => true
  | .cons e es => liteE e && liteL es
end
noncomputable def liteS : CS → Bool
  | .asg (.name _) e => liteE e
  | .ret e => liteE e
  | .pass => true
  | _ => false
noncomputable def liteB : CB → Bool
  | .nil => true
  | .hole => false
  | .cons s r => liteS s && liteB r
mutual
noncomputable def chkS (sc : Scope) (N : List Str) : CS → Stmt → Bool
  | .asg g e, s => match s with
    | .Assign [g'] e' _ => chkG sc N true g g' && chkE sc N e e' && !isComp e' && !(isTupE g' && isTupE e')
    | _ => false
  | .asgc i e, s => match s with
    | .Assign [.Name x p] (.ListComp a b c d) sp => N[i]? == some x && (sc.names.lookup x == some .local || sc.names.lookup x == some .cell) && chkE sc N e (.ListComp a b c d) &&
      (sc.names.lookup x == some .cell || (decide (p.line = d.line) && !(c.names.any fun y => decide (y.1 = x) && (decide (y.2 = .local) || decide (y.2 = .cell)))))
    | _ => false
  | .expr e, s => match s with
    | .Expr e' _ => chkE sc N e e' && !isComp e'
    | _ => false
  | .iff c a b, s => match s with
    | .If c' a' b' _ => chkE sc N c c' && chkB sc N a a' && chkB sc N b b'
    | _ => false
  | .whl _ _, _ => false
  | .forr g it b, s => match s with
    | .For g' it' b' [] _ => chkG sc N true g g' && chkI sc N it it' g' && !isSet it' && chkB sc N b b'
    | _ => false
  | .ret e, s => match s with
    | .Return (some e') _ => chkE sc N e e'
    | _ => false
  | .retN, s => match s with
    | .Return none _ => true
    | _ => false
  | .rais x es, s => match s with
    | .Raise (some (.Call (.Name x' _) (e' :: es') [] _)) none _ => decide (x = x') && isGl sc x && okVar x && chkL sc N es (e' :: es')
    | _ => false
  | .raisX x es, s => match s with
    | .Raise (some (.Call (.Name x' _) (e' :: es') [] _)) none _ => decide (x = x') && isGl sc x && okVar x && chkL sc N es (e' :: es')
    | _ => false
  | .fldX o f e, s => match s with
    | .Assign [.Attribute o' f' _] e' _ => decide (f = f') && chkE sc N o o' && chkE sc N e e' && !isComp e'
    | _ => false
  | .tryc x i b su, s => match s with
    | .Try b' [.ExceptHandler (some (.Name x' _)) (some n) (s0 :: ss) _] [] [] _ => decide (x = x') && isGl sc x && okVar x && N[i]? == some n && sc.names.lookup n == some .local && liteB su && chkB sc N su (s0 :: ss) && chkB sc N b b'
    | _ => false
  | .pass, s => match s with
    | .Pass _ => true
    | _ => false
  | .brk, s => match s with
    | .Break _ => true
    | _ => false
  | .cont, s => match s with
    | .Continue _ => true
    | _ => false
noncomputable def chkB (sc : Scope) (N : List Str) : CB → List Stmt → Bool
  | .hole, _ => true
  | .nil, ss => match ss with
    | [] => true
    | _ => false
  | .cons s r, ss => match ss with
    | s' :: r' => chkS sc N s s' && chkB sc N r r'
    | _ => false
end
structure Gam where
  val : Str → Option V
  fn : Str → Nat → Option (Sp × List V)
  
  ini : Str → Nat → Option (Addr × Sp × List V)
  
  dic : Addr → Option (List (Key × V))
noncomputable def iAny (K : PySem.W.Frag) (tl : TE) : TI := fun σ H R => tl σ H fun x H1 => (∃ a, x = .ref a ∧ (∃ xs, SqL K H1 a xs) ∧ R (Itl K a) H1) ∨ (∃ a, x = .ref a ∧ (∃ xs, SqT K H1 a xs) ∧ R (Itt K a) H1) ∨ (∃ z, x = .str z ∧ R (Its z) H1)
noncomputable def tTru (K : PySem.W.Frag) (t : TE) : TT := fun σ H Q => t σ H fun x H1 => ∃ k, TruV K x H1 k ∧ Q k H1
mutual
noncomputable def wpE (G : Gam) (K : PySem.W.Frag) (E : XS) : CE → TE
  | .var i => tVar i
  | .con c => tC (cv c)
  | .glo x => fun σ H Q => ∃ v, G.val x = some v ∧ Q v H
  | .ty t => tC (.ty t.t)
  | .bin op a b => tOp (rBin K op) (wpE G K E a) (wpE G K E b)
  | .un op a => tUn (rUn K op) (wpE G K E a)
  | .cmp op a b => tOp (rCmp K op) (wpE G K E a) (wpE G K E b)
  | .chain o1 o2 a b c => tChain (rCmp K o1) (rCmp K o2) (wpE G K E a) (wpE G K E b) (wpE G K E c)
  | .not a => tNotV (wpE G K E a)
  | .and a b => tAndV (wpE G K E a) (wpE G K E b)
  | .or a b => tOrV (wpE G K E a) (wpE G K E b)
  | .ite c a b => tIf (wpT G K E c) (wpE G K E a) (wpE G K E b)
  | .idx a i => tOp (rIx K) (wpE G K E a) (wpE G K E i)
  | .cut a lo hi => tSl (rSlc K) (wpE G K E a) (wpO G K E lo) (wpO G K E hi)
  | .tup es => tTup (wpL G K E es)
  | .lst es => tLst (wpL G K E es)
  | .dic ps => fun σ H Q => (ps = .nil ∧ tDNewK σ H Q) ∨ (ps ≠ .nil ∧ tDisp (wpP G K E ps) σ H Q)
  | .call f es => fun σ H Q => ∃ sp dvs, G.fn f es.len = some (sp, dvs) ∧ tCall sp dvs (E σ) (wpL G K E es) σ H Q
  | .bfn b es => tCB (rBf K b) (wpL G K E es)
  | .meth0 m o => tBM0 K "list" (rMm m) (wpE G K E o)
  | .meth1 m o a => tBM K "list" (rMm m) (wpE G K E o) (tCons (wpE G K E a) tNil)
  | .join sep a => tBM K "str" (rJoin K) (tC (.str sep)) (tCons (wpE G K E a) tNil)
  | .idxd a i => tOp (rIxD K) (wpE G K E a) (wpE G K E i)
  | .dicT => tDNewT
  | .setd o a b => tBM K "dict" rSetdef (wpE G K E o) (tCons (wpE G K E a) (tCons (wpE G K E b) tNil))
  | .ins o a b => tBM K "list" rInsert (wpE G K E o) (tCons (wpE G K E a) (tCons (wpE G K E b) tNil))
  | .divb a b => tOp rDivB (wpE G K E a) (wpE G K E b)
  | .split o a => tBM K "str" rSplit (wpE G K E o) (tCons (wpE G K E a) tNil)
  | .upper o => tBM0 K "str" rUpper (wpE G K E o)
  | .ninG a b => tOp (rNiG G.dic) (wpE G K E a) (wpE G K E b)
  | .base x es => fun σ H Q => ∃ B, G.val x = some (.ref B) ∧ tBase K B (wpL G K E es) σ H Q
  | .fld a f => fun σ H Q => wpE G K E a σ H fun x H1 => rFld K f x H1 Q
  | .inG a b => tOp (rInG G.dic) (wpE G K E a) (wpE G K E b)
  | .idxG a i => tOp (rIxG G.dic) (wpE G K E a) (wpE G K E i)
  | .fstr pre post a => tFst pre post (wpE G K E a)
  | .rev a => tRev K (wpE G K E a)
  | .lrng a => tLRng (tCons (wpE G K E a) tNil)
  | .comp own fr tg it cond elt => tComp (wpI G K E it) (wpG G K N0 tg) (wpC G K N0 cond) (wpE G K N0 elt) (slotsOf own fr)
noncomputable def wpT (G : Gam) (K : PySem.W.Frag) (E : XS) : CE → TT
  | .cmp op a b => tTest (tOp (rCmp K op) (wpE G K E a) (wpE G K E b))
  | .ninG a b => tTest (tOp (rNiG G.dic) (wpE G K E a) (wpE G K E b))
  | .chain o1 o2 a b c => tTest (tChain (rCmp K o1) (rCmp K o2) (wpE G K E a) (wpE G K E b) (wpE G K E c))
  | .not a => tNot (wpT G K E a)
  | .and a b => tAnd (wpT G K E a) (wpT G K E b)
  | .or a b => tOr (wpT G K E a) (wpT G K E b)
  | .ite _ _ _ => fun _ _ _ => False
  | .var i => tTru K (tVar i)
  | .con c => tTru K (tC (cv c))
  | .glo x => tTru K (fun σ H Q => ∃ v, G.val x = some v ∧ Q v H)
  | .idx a i => tTru K (tOp (rIx K) (wpE G K E a) (wpE G K E i))
  | .call f es => tTru K (fun σ H Q => ∃ sp dvs, G.fn f es.len = some (sp, dvs) ∧ tCall sp dvs (E σ) (wpL G K E es) σ H Q)
  | .bfn b es => tTru K (tCB (rBf K b) (wpL G K E es))
  | _ => fun _ _ _ => False
noncomputable def wpL (G : Gam) (K : PySem.W.Frag) (E : XS) : CL → TA
  | .nil => tNil
  | .cons e es => tCons (wpE G K E e) (wpL G K E es)
noncomputable def wpP (G : Gam) (K : PySem.W.Frag) (E : XS) : CP → List (TE × TE)
  | .nil => []
  | .cons k v r => (wpE G K E k, wpE G K E v) :: wpP G K E r
noncomputable def wpO (G : Gam) (K : PySem.W.Frag) (E : XS) : CO → TO
  | .no => tNoPart
  | .yes e => tPart (wpE G K E e)
noncomputable def wpC (G : Gam) (K : PySem.W.Frag) (E : XS) : CO → TT
  | .no => tYes
  | .yes e => wpT G K E e
noncomputable def wpG (G : Gam) (K : PySem.W.Frag) (E : XS) : CG → TG
  | .name i => gName i
  | .tup gs => gTup K gs.len (wpGs G K E gs)
  | .sub o i => gSub (wpE G K E o) (wpE G K E i) rSetL
noncomputable def wpGs (G : Gam) (K : PySem.W.Frag) (E : XS) : CGs → TGs
  | .nil => gNil
  | .cons g gs => gCons (wpG G K E g) (wpGs G K E gs)
noncomputable def wpI (G : Gam) (K : PySem.W.Frag) (E : XS) : CI → TI
  | .seq e => iAny K (wpE G K E e)
  | .lseq e => iList K (wpE G K E e)
  | .tseq e => iTup K (wpE G K E e)
  | .range1 e => iRng1 (tCons (wpE G K E e) tNil)
  | .range2 a b => iRng2 (tCons (wpE G K E a) (tCons (wpE G K E b) tNil))
  | .enum e => iEnum K (wpE G K E e)
  | .zip a b => iZip K (tCons (wpE G K E a) (tCons (wpE G K E b) tNil))
  | .zipt a b => iZipT K (tCons (wpE G K E a) (tCons (wpE G K E b) tNil))
end
mutual
noncomputable def wpS (G : Gam) (K : PySem.W.Frag) (E : XS) : CS → TS
  | .asg g e => tAsg (wpE G K E e) (wpG G K E g)
  | .asgc i e => tAsg (wpE G K E e) (gName i)
  | .expr e => tDrop (wpE G K E e)
  | .iff c a b => tIfS (wpT G K E c) (wpB G K E a) (wpB G K E b)
  | .whl c b => tWhile (wpT G K E c) (wpB G K E b)
  | .forr g it b => tFor (wpI G K E it) (wpG G K E g) (wpB G K E b)
  | .ret e => tRet (wpE G K E e)
  | .retN => tRetN
  | .rais x es => fun D σ H => ∃ C, G.val x = some (.ref C) ∧ PySem.W.keepIn K (.ref C) = true ∧ PySem.W.excIn K C bmV "ValueError.__new__" = true ∧ wpL G K E es σ H fun vs H1 => vs.length ≤ sizeLine ∧ E σ (.ref C) none H1
  | .raisX x es => fun D σ H => ∃ C sp dvs, G.ini x es.len = some (C, sp, dvs) ∧ sRaisX C sp dvs E (wpL G K E es) D σ H
  | .fldX o f e => sFldX K (wpE G K E o) (wpE G K E e) f
  | .tryc x i b su => fun D σ H => ∃ C, G.val x = some (.ref C) ∧ wpB G K (eCatch K C i (wpB G K N0 su) D) b D σ H
  | .pass => tNext
  | .brk => tBreak
  | .cont => tCont
noncomputable def wpB (G : Gam) (K : PySem.W.Frag) (E : XS) : CB → TS
  | .nil => tNext
  | .hole => fun _ _ _ => False
  | .cons s r => tSeq (wpS G K E s) (wpB G K E r)
end
end R
namespace R
open PySem PySem.Spec PyProof.Rows L2
noncomputable def bltNames : List Str := ["len", "isinstance", "all", "any", "list", "tuple", "int", "bool", "str", "dict", "range", "enumerate", "sorted", "set", "min", "max", "ValueError", "sum", "zip"]
structure Ok (CX : CXT) (G : Gam) (E : XS) (sc : Scope) (N : List Str) (all : Bool) (X : Cx) : Prop where
  names : X.N = N
  top : all = true → X.stack = X.env :: X.outer ∧ X.env.frame = some X.env.locals ∧ X.ex = []
  nd : N.Nodup
  loc : ∀ x, sc.names.lookup x = some .local → X.env.scope.names.lookup x = some .local
  cel : ∀ x, sc.names.lookup x = some .cell → X.env.scope.names.lookup x = some .cell
  fre : ∀ x, sc.names.lookup x = some .free → X.env.scope.names.lookup x = some .cell ∨ X.env.scope.names.lookup x = some .free
  glo : ∀ x, sc.names.lookup x = some .globalImplicit → X.env.scope.names.lookup x = some .globalImplicit
  all : all = true → ∀ x, X.fn x = true
  own : ∀ x, sc.names.lookup x = some .cell → X.fn x = true
  calm : X.calm = true
  hu : X.A.units + 50 < cLine
  val : ∀ x v, G.val x = some v → ∃ u, X.mg x = some u ∧ RelV v u
  fn : ∀ x n sp dvs, G.fn x n = some (sp, dvs) → ∃ f fd ps ds k, FnOk X.prog X.w X.K X.mg X.base CX k f fd ps sp ∧ Room k X.A ∧ X.mg x = some (.ref f) ∧ PySem.W.keepIn X.K (.ref f) = true ∧ Binds X.K fd ps ds ∧ Vals dvs ds
  ini : ∀ x n C sp dvs, G.ini x n = some (C, sp, dvs) → ∃ f fd ps ds k, MkX X.K C f ∧ FnOk X.prog X.w X.K X.mg X.base CX k f fd ps sp ∧ Room (k + 1) X.A ∧ X.mg x = some (.ref C) ∧ Binds X.K fd ps ds ∧ Vals dvs ds
  dic : ∀ a kvs, G.dic a = some kvs → DkIn X.prog X.w X.K a kvs
  blt : ∀ x ∈ bltNames, X.mg x = none
  px : PassesOwn (model X.prog X.w) X.A X.env X.xe
  pass : PassS CX X E
  made : MadeS X E
  madeX : MadeXS X E
  cx : CX = CXx X.prog X.w
theorem Bf.mem : ∀ b : Bf, b.name ∈ bltNames := by intro b; cases b <;> decide +kernel
theorem Ty.mem : ∀ b : Ty, b.name ∈ bltNames := by intro b; cases b <;> decide +kernel
section
variable {CX : CXT} {G : Gam} {E : XS} {sc : Scope} {N : List Str} {all : Bool} {X : Cx}
theorem Ok.vis (o : Ok CX G E sc N all X) {x : Str} (h : isVis sc x = true) : Vis X.env.scope x := by
  unfold isVis at h
  rw [Bool.or_eq_true, Bool.or_eq_true, beq_iff_eq, beq_iff_eq, beq_iff_eq] at h
  rcases h with (h | h) | h
  · exact .inl (o.loc x h)
  · exact .inr (.inl (o.cel x h))
  · rcases o.fre x h with q | q
    · exact .inr (.inl q)
    · exact .inr (.inr q)
theorem Ok.gl (o : Ok CX G E sc N all X) {x : Str} (h : isGl sc x = true) : Gl X x := by
  unfold isGl at h
  rw [beq_iff_eq] at h
  exact o.glo x h
theorem okVar_of {x : Str} (h : okVar x = true) : (x == ("__debug__" : Str)) = false ∧ (x == ("__classdict__" : Str)) = false := by
  unfold okVar at h
  rw [Bool.and_eq_true, beq_iff_eq, beq_iff_eq] at h
  exact h
theorem rBin_ok : ∀ op, OpR X (binaryOp op) (rBin X.K op)
  | .Add => op_add.or (op_add_str.or (op_cat.or (op_catT.or op_cat0)))
  | .Sub => op_sub
  | .Mult => op_mul.or (op_rep.or op_repS)
  | .Mod => op_mod
  | .FloorDiv => op_fdiv
  | .Pow => op_pow
  | .RShift => op_shr
  | .MatMult => fun _ _ _ _ _ _ _ _ _ _ _ _ h => h.elim
  | .Div => fun _ _ _ _ _ _ _ _ _ _ _ _ h => h.elim
  | .LShift => op_shl
  | .BitOr => fun _ _ _ _ _ _ _ _ _ _ _ _ h => h.elim
  | .BitXor => fun _ _ _ _ _ _ _ _ _ _ _ _ h => h.elim
  | .BitAnd => fun _ _ _ _ _ _ _ _ _ _ _ _ h => h.elim
theorem rCmp_ok (hu : X.A.units + 50 < cLine) : ∀ op, OpR X (compareOp op) (rCmp X.K op)
  | .Eq => op_eqD (by omega)
  | .NotEq => op_neD (by omega)
  | .Lt => op_lt
  | .LtE => op_le
  | .Gt => op_gt
  | .GtE => op_ge
  | .Is => op_isN
  | .IsNot => op_notN
  | .In => (op_in_str.or (op_inD (by omega))).or op_in_seq
  | .NotIn => (op_notIn_str.or (op_notInD (by omega))).or op_notIn_seq
theorem rUn_ok : ∀ op, UnR X (unaryOp op) (rUn X.K op)
  | .USub => un_neg
  | .Not => fun _ _ _ _ _ _ _ _ _ h => h.elim
  | .UAdd => fun _ _ _ _ _ _ _ _ _ h => h.elim
  | .Invert => fun _ _ _ _ _ _ _ _ _ h => h.elim
theorem rSlc_ok : SlR X (rSlc X.K) := sl_list.or sl_str
theorem rBf_ok (hc : X.calm = true) (hu : X.A.units + 50 < cLine) : ∀ b, CallR X (Bf.val b) (rBf X.K b)
  | .len => call_len_seq.or (call_len_str.or Q.call_len_setO)
  | .isinstance => call_isinst.or (call_isinstC.or call_isinstX)
  | .all => call_all hc
  | .any => call_any hc
  | .list => call_list_of
  | .tuple => call_tuple_of
  | .sorted => Q.call_sorted
  | .set => Q.call_set hc
  | .min => call_min2 hc
  | .max => fun _ _ _ _ _ _ _ _ _ h => h.elim
  | .sum => call_sum hc
  | .int => call_int1
  | .lend => call_len_dT
  | .sorti => fun _ _ _ _ _ _ _ _ _ h => h.elim
  | .sortp => fun _ _ _ _ _ _ _ _ _ h => h.elim
  | .setp => fun _ _ _ _ _ _ _ _ _ h => h.elim
  | .isx => call_isinstD
  | .strI => call_str_int
  | .intS => call_intS
theorem Mm.slot : ∀ m : Mm, Slot "list" m.name m.id
  | .append => PySem.F.slot_list_append | .clear => PySem.F.slot_list_clear | .reverse => PySem.F.slot_list_reverse | .pop => PySem.F.slot_list_pop | .index => PySem.F.slot_list_index
theorem Mm.ty : ∀ m : Mm, typeOf (.builtin m.id) = pure (.type "method_descriptor")
  | .append => PySem.F.type_list_append | .clear => PySem.F.type_list_clear | .reverse => PySem.F.type_list_reverse | .pop => PySem.F.type_list_pop | .index => PySem.F.type_list_index
theorem rMm_ok : ∀ m : Mm, MtR X m.id (rMm m)
  | .append => mt_append | .clear => fun _ _ _ _ _ _ _ _ _ _ _ _ h => h.elim | .reverse => fun _ _ _ _ _ _ _ _ _ _ _ _ h => h.elim | .pop => fun _ _ _ _ _ _ _ _ _ _ _ _ h => h.elim | .index => fun _ _ _ _ _ _ _ _ _ _ _ _ h => h.elim
theorem base_ok {o : Expr} (h : baseOk o = true) (nm : Str) (env : Env) (t : Sem Value) : attributeBase o nm env t = t := by
  cases o <;> first
    | rfl
    | (exact absurd h (by simp [baseOk]))
theorem not_star {c : CE} {e : Expr} (h : chkE sc N c e = true) (es : List Expr) (env : Env) : starEach (e :: es) env = (false, eval e env) :: starEach es env := by
  cases e <;> first
    | rfl
    | (cases c <;> exact absurd h (by simp [chkE]))
theorem chkL_cons {c : CE} {r : CL} {es : List Expr} (h : chkL sc N (.cons c r) es = true) : ∃ e' r', es = e' :: r' ∧ chkE sc N c e' = true ∧ chkL sc N r r' = true := by
  cases es with
  | nil => exact absurd h (by simp [chkL])
  | cons e' r' =>
    have h' : (chkE sc N c e' && chkL sc N r r') = true := h
    rw [Bool.and_eq_true] at h'
    exact ⟨e', r', rfl, h'⟩
theorem chkL_nil {es : List Expr} (h : chkL sc N .nil es = true) : es = [] := by
  cases es with
  | nil => rfl
  | cons e' r' => exact absurd h (by simp [chkL])
theorem chkL_plain : ∀ {l : CL} {es : List Expr}, chkL sc N l es = true → ∀ (env : Env) (pos : Pos), (backTo pos (starEach es env)).any (·.1) = false
  | .nil, es, h, env, pos => by rw [chkL_nil h]; rfl
  | .cons c r, es, h, env, pos => by
    obtain ⟨e', r', rfl, h1, h2⟩ := chkL_cons h
    rw [not_star h1]
    show (false || (backTo pos (starEach r' env)).any (·.1)) = false
    rw [chkL_plain h2]
    rfl
theorem chkL_len : ∀ {l : CL} {es : List Expr}, chkL sc N l es = true → es.length = l.len
  | .nil, es, h => by rw [chkL_nil h]; rfl
  | .cons c r, es, h => by
    obtain ⟨e', r', rfl, h1, h2⟩ := chkL_cons h
    rw [List.length_cons, chkL_len h2, CL.len]
theorem not_set {e : Expr} (h : isSet e = false) (env : Env) : ∀ x, foldedSetIterable e env x = pure x := by
  intro x
  cases e <;> first
    | rfl
    | (exact absurd h (by simp [isSet]))
theorem not_marks {e : Expr} (h : isSet e = false) (op : CmpOp) : behindInMarks op e = false := by
  cases e <;> first
    | rfl
    | (exact absurd h (by simp [isSet]))
theorem plain_ix {e : Expr} (h : isSlice e = false) : PlainIx e := by
  intro o i
  cases e <;> first
    | rfl
    | (exact absurd h (by simp [isSlice]))
theorem no_swap {e : Expr} (h : isComp e = false) (t : Option Expr) (l : Nat) (env : Env) : swapsWith e t l env = pure false := by
  cases e <;> first
    | rfl
    | (exact absurd h (by simp [isComp]))
theorem pt_tru {e : Expr} {t : TE} (h : PE X e t) (he : ∀ whole, isTrue e X.env whole = (do let v ← whole; standAt e.pos; holding [v] (truthy v))) : PT X e (tTru X.K t) := pt_truth h he
theorem pi_any {tg l : Expr} {tl : TE} (hl : PE X l tl) : PI X tg l (iAny X.K tl) := by
  intro pins s σ H R I h
  refine thn (hl pins s σ H _ I h) fun v s1 ⟨x, H1, I1, r1, q1⟩ => ?_
  have key : ∀ {tl' : TE} {wi : TI}, True := fun {_ _} => trivial
  rcases q1 with q1 | q1 | q1
  · obtain ⟨a, e, ⟨xs, hq⟩, q⟩ := q1
    subst e
    cases r1
    obtain ⟨its, rv, p, hz⟩ := I1.list hq
    refine wpAny_pyIter_list p.isList ?_
    refine ⟨s1.heap.objs.size, [s1.heap.objs.size], _, _, H1, rfl, I1.kept (t' := s1.toks) fun b o e => Heap.get?_push_of_some _ e, turn_list a _, ⟨_, Heap.get?_push_size _ rfl, rfl, rfl⟩, fun b hb => ?_, q⟩
    have e : b = s1.heap.objs.size := by simpa using hb
    subst e
    exact I1.fpOk (Nat.le_refl _) (I1.hok.fresh (Nat.le_refl _))
  · obtain ⟨a, e, ⟨xs, hq⟩, q⟩ := q1
    subst e
    cases r1
    obtain ⟨its, rv, p, hz⟩ := I1.tuple hq
    refine wpAny_pyIter_tuple (show s1.heap.IsTuple a its.toArray from p) ?_
    refine ⟨s1.heap.objs.size, [s1.heap.objs.size], _, _, H1, rfl, I1.kept (t' := s1.toks) fun b o e => Heap.get?_push_of_some _ e, turn_tuple a _, ⟨_, Heap.get?_push_size _ rfl, rfl, rfl⟩, fun b hb => ?_, q⟩
    have e : b = s1.heap.objs.size := by simpa using hb
    subst e
    exact I1.fpOk (Nat.le_refl _) (I1.hok.fresh (Nat.le_refl _))
  · obtain ⟨z, e, q⟩ := q1
    subst e
    obtain ⟨t, rfl⟩ := r1
    refine wpAny_pyIter_strU ?_
    refine ⟨s1.heap.objs.size, [s1.heap.objs.size], _, _, H1, rfl, I1.kept (t' := s1.toks) fun b o e => Heap.get?_push_of_some _ e, turn_str z _ t, ⟨_, Heap.get?_push_size _ rfl, rfl, rfl⟩, fun b hb => ?_, q⟩
    have e : b = s1.heap.objs.size := by simpa using hb
    subst e
    exact I1.fpOk (Nat.le_refl _) (I1.hok.fresh (Nat.le_refl _))
end
end R
set_option maxHeartbeats 4000000
namespace R
open PySem PySem.Spec PyProof.Rows L2
section
variable {CX : CXT} {G : Gam}
structure ScopeOk (sc sc' : Scope) (N own : List Str) (fr : List Nat) : Prop where
  kind : sc'.kind = .function
  cellk : ∀ y ∈ sc'.names, y.2 = .cell → sc'.names.lookup y.1 = some .cell
  own1 : ∀ y ∈ sc'.names, y.2 = .local → sc'.names.lookup y.1 = some .local
  free : ∀ y ∈ sc'.names, y.2 = .free → sc.names.lookup y.1 = some .cell ∨ sc.names.lookup y.1 = some .free
  nd : (namesOf N own fr).Nodup
  fr : ∀ j ∈ fr, j < N.length ∧ sc'.names.lookup (N.getD j "") = some .free
  own2 : ∀ x ∈ own, sc'.names.lookup x = some .local ∨ sc'.names.lookup x = some .cell
theorem scopeOk_of {sc sc' : Scope} {N own : List Str} {fr : List Nat} (h : okScope sc sc' N own fr = true) : ScopeOk sc sc' N own fr := by
  unfold okScope at h
  simp only [Bool.and_eq_true, List.all_eq_true, decide_eq_true_eq, beq_iff_eq, Bool.or_eq_true] at h
  obtain ⟨⟨⟨⟨⟨⟨h1, h2⟩, h3⟩, h4⟩, h5⟩, h6⟩, h7⟩ := h
  exact ⟨h1, h2, h3, h4, h5, h6, h7⟩
theorem ScopeOk.comp {E : XS} {sc sc' : Scope} {N own : List Str} {fr : List Nat} {all : Bool} {X : Cx} (S : ScopeOk sc sc' N own fr) (o : Ok CX G E sc N all X) : CompScope X (namesOf N own fr) sc' :=
  ⟨S.kind, S.cellk, S.own1, fun y hy hf => by
    rcases S.free y hy hf with q | q
    · exact .inl (o.cel _ q)
    · exact o.fre _ q⟩
theorem ScopeOk.mkOk {E : XS} {sc sc' : Scope} {N own : List Str} {fr : List Nat} {all : Bool} {X : Cx} (S : ScopeOk sc sc' N own fr) (o : Ok CX G E sc N all X) : MkOk X (namesOf N own fr) sc' (slotsOf own fr) := by
  intro σ hl
  refine ⟨by simp [slotsOf, namesOf], fun i x v h1 h2 => ?_⟩
  unfold slotsOf at h2
  unfold namesOf at h1
  by_cases hi : i < own.length
  · rw [List.getElem?_append_left (by simpa using hi), List.getElem?_map] at h2
    cases q : own[i]? with
    | none => rw [q] at h2; cases h2
    | some z => rw [q] at h2; cases h2
  · rw [List.getElem?_append_right (by simpa using hi), List.getElem?_map, List.length_map] at h2
    rw [List.getElem?_append_right (by simpa using hi), List.getElem?_map] at h1
    cases q : fr[i - own.length]? with
    | none => rw [q] at h2; cases h2
    | some j =>
      rw [q] at h1 h2
      have hx : N.getD j "" = x := Option.some.inj h1
      have hv : (σ[j]?).getD none = some v := Option.some.inj h2
      obtain ⟨hj, hf⟩ := S.fr j (List.mem_of_getElem? q)
      refine ⟨by rw [← hx]; exact hf, j, ?_, ?_⟩
      · rw [o.names, ← hx, List.getD_eq_getElem?_getD, List.getElem?_eq_getElem hj]; rfl
      · cases w : σ[j]? with
        | none => rw [w] at hv; cases hv
        | some z => rw [w] at hv; exact congrArg some hv
theorem Ok.comp {E : XS} {sc sc' : Scope} {N own : List Str} {fr : List Nat} {all : Bool} {X : Cx} (hCX : ∀ o H s e s', CX o H s E0 e s' → False) (S : ScopeOk sc sc' N own fr) (o : Ok CX G E sc N all X) (C : Addr) (s₀ : Shared) (H₀ : Hp) (fp : List Addr) :
    Ok CX G N0 sc' (namesOf N own fr) false (compCx X (namesOf N own fr) sc' C s₀ H₀ fp) where
  names := rfl
  nd := S.nd
  loc := fun x h => lookup_relabel_local (env := X.env) h
  cel := fun x h => lookup_relabel_other (env := X.env) h (by decide)
  own := fun x h => List.any_eq_true.mpr ⟨(x, .cell), PySem.mem_of_lookup h, by simp⟩
  fre := fun x h => (lookup_relabel_free (env := X.env) h).symm
  glo := fun x h => lookup_relabel_other (env := X.env) h (by decide)
  all := fun h => absurd h (by decide)
  calm := o.calm
  hu := o.hu
  val := o.val
  fn := o.fn
  ini := o.ini
  dic := o.dic
  blt := o.blt
  px := PassesOwn.never
  pass := fun _ _ _ _ _ _ _ h => (hCX _ _ _ _ _ h).elim
  made := fun _ _ _ _ _ _ _ _ _ _ h => h.elim
  madeX := fun _ _ _ _ _ _ _ _ _ h => h.elim
  cx := o.cx
  top := fun h => absurd h (by decide)
theorem notStarG {sc : Scope} {N : List Str} {all : Bool} {g : CG} {e : Expr} (h : chkG sc N all g e = true) (es : List Expr) (env : Env) : assignEach (e :: es) env = (false, assign e env) :: assignEach es env := by
  cases e <;> first
    | rfl
    | (cases g <;> exact absurd h (by simp [chkG]))
theorem chkGs_cons {sc : Scope} {N : List Str} {all : Bool} {g : CG} {r : CGs} {es : List Expr} (h : chkGs sc N all (.cons g r) es = true) : ∃ e' r', es = e' :: r' ∧ chkG sc N all g e' = true ∧ chkGs sc N all r r' = true := by
  cases es with
  | nil => exact absurd h (by simp [chkGs])
  | cons e' r' =>
    have h' : (chkG sc N all g e' && chkGs sc N all r r') = true := h
    rw [Bool.and_eq_true] at h'
    exact ⟨e', r', rfl, h'⟩
theorem chkGs_nil {sc : Scope} {N : List Str} {all : Bool} {es : List Expr} (h : chkGs sc N all .nil es = true) : es = [] := by
  cases es with
  | nil => rfl
  | cons e' r' => exact absurd h (by simp [chkGs])
theorem chkGs_plain {sc : Scope} {N : List Str} {all : Bool} : ∀ {gs : CGs} {es : List Expr}, chkGs sc N all gs es = true → ∀ env, (assignEach es env).length = gs.len ∧ (assignEach es env).findIdx? (·.1) = none
  | .nil, es, h, env => by rw [chkGs_nil h]; exact ⟨rfl, rfl⟩
  | .cons g r, es, h, env => by
    obtain ⟨e', r', rfl, h1, h2⟩ := chkGs_cons h
    obtain ⟨a, b⟩ := chkGs_plain h2 env
    rw [notStarG h1]
    refine ⟨by rw [List.length_cons, a, CGs.len], ?_⟩
    rw [List.findIdx?_cons]
    simp [b]
end
end R
namespace R
open PySem PySem.Spec PyProof.Rows L2
section
variable {CX : CXT} {G : Gam}
theorem and3 {a b c : Bool} (h : (a && b && c) = true) : a = true ∧ b = true ∧ c = true := by
  simp only [Bool.and_eq_true] at h
  exact ⟨h.1.1, h.1.2, h.2⟩
theorem nott {a : Bool} (h : (!a) = true) : a = false := by simpa using h
noncomputable abbrev IHE (CX : CXT) (G : Gam) (c : CE) : Prop := ∀ (e : Expr) {E : XS} {sc : Scope} {N : List Str} {all : Bool} {X : Cx}, Ok CX G E sc N all X → chkE sc N c e = true → PE X e (wpE G X.K E c)
noncomputable abbrev IHT (CX : CXT) (G : Gam) (c : CE) : Prop := ∀ (e : Expr) {E : XS} {sc : Scope} {N : List Str} {all : Bool} {X : Cx}, Ok CX G E sc N all X → chkE sc N c e = true → PT X e (wpT G X.K E c)
noncomputable abbrev IHW (CX : CXT) (G : Gam) (c : CE) : Prop := ∀ (op : BoolOp) (es : List Expr) (pos : Pos) {E : XS} {sc : Scope} {N : List Str} {all : Bool} {X : Cx}, Ok CX G E sc N all X → chkE sc N c (.BoolOp op es pos) = true → PW X (.BoolOp op es pos) (wpT G X.K E c)
noncomputable abbrev IHL (CX : CXT) (G : Gam) (c : CL) : Prop := ∀ (es : List Expr) {E : XS} {sc : Scope} {N : List Str} {all : Bool} {X : Cx}, Ok CX G E sc N all X → chkL sc N c es = true → PA X es (wpL G X.K E c)
noncomputable abbrev IHP (CX : CXT) (G : Gam) (c : CP) : Prop := ∀ (ks : List (Option Expr)) (vs : List Expr) {E : XS} {sc : Scope} {N : List Str} {all : Bool} {X : Cx}, Ok CX G E sc N all X → chkP sc N c ks vs = true → ∀ pos,
    PPs X pos ks vs (wpP G X.K E c) ∧ ks.all (·.isSome) = true ∧ ks.length = vs.length ∧ (c ≠ .nil → ks ≠ [])
noncomputable abbrev IHO (CX : CXT) (G : Gam) (c : CO) : Prop := ∀ (e : Option Expr) {E : XS} {sc : Scope} {N : List Str} {all : Bool} {X : Cx}, Ok CX G E sc N all X → chkO sc N c e = true → PO X e (wpO G X.K E c)
noncomputable abbrev IHC (CX : CXT) (G : Gam) (c : CO) : Prop := ∀ (es : List Expr) {E : XS} {sc : Scope} {N : List Str} {all : Bool} {X : Cx}, Ok CX G E sc N all X → chkC sc N c es = true → PTs X es (wpC G X.K E c)
noncomputable abbrev IHG (CX : CXT) (G : Gam) (c : CG) : Prop := ∀ (e : Expr) {E : XS} {sc : Scope} {N : List Str} {all : Bool} {X : Cx}, Ok CX G E sc N all X → chkG sc N all c e = true → PG X e (wpG G X.K E c)
noncomputable abbrev IHGs (CX : CXT) (G : Gam) (c : CGs) : Prop := ∀ (es : List Expr) {E : XS} {sc : Scope} {N : List Str} {all : Bool} {X : Cx}, Ok CX G E sc N all X → chkGs sc N all c es = true → PGs X es (wpGs G X.K E c)
noncomputable abbrev IHI (CX : CXT) (G : Gam) (c : CI) : Prop := ∀ (e tg : Expr) {E : XS} {sc : Scope} {N : List Str} {all : Bool} {X : Cx}, Ok CX G E sc N all X → chkI sc N c e tg = true → PI X tg e (wpI G X.K E c)
theorem sE_var (hCX : ∀ o H s e s', CX o H s E0 e s' → False) {i : Nat}  : IHE CX G (.var i) := by
    intro e E sc N all X o h
    unfold chkE at h
    split at h
    · obtain ⟨h1, h2, h3⟩ := and3 h
      obtain ⟨d1, d2⟩ := okVar_of h3
      exact pe_var (by rw [o.names]; exact beq_iff_eq.mp h1) (o.vis h2) d1 d2
    · cases h
theorem sE_con (hCX : ∀ o H s e s', CX o H s E0 e s' → False) {c : Const}  : IHE CX G (.con c) := by
    intro e E sc N all X o h
    unfold chkE at h
    split at h
    · rw [Bool.and_eq_true, decide_eq_true_eq] at h
      obtain ⟨h1, rfl⟩ := h
      cases c with
      | none => exact pe_non
      | bool b => exact pe_bl
      | int i => exact pe_int
      | str x => exact pe_str
      | _ => exact absurd h1 (by simp [okCon])
    · cases h
theorem sE_glo (hCX : ∀ o H s e s', CX o H s E0 e s' → False) {x : Str}  : IHE CX G (.glo x) := by
    intro e E sc N all X o h
    unfold chkE at h
    split at h
    · obtain ⟨h1, h2, h3⟩ := and3 h
      rw [decide_eq_true_eq] at h1
      subst h1
      intro pins s σ H Q I hw
      obtain ⟨v, hv, q⟩ := hw
      obtain ⟨u, hu, r⟩ := o.val _ _ hv
      exact pe_glob (o.gl h2) hu r (okVar_of h3).1 pins s σ H Q I q
    · cases h
theorem sE_ty (hCX : ∀ o H s e s', CX o H s E0 e s' → False) {t : Ty}  : IHE CX G (.ty t) := by
    intro e E sc N all X o h
    unfold chkE at h
    split at h
    · rw [Bool.and_eq_true, decide_eq_true_eq] at h
      obtain ⟨h1, h2⟩ := h
      subst h1
      exact pe_bltn (o.gl h2) (o.blt _ t.mem) t.boot rfl t.plain.1 t.plain.2
    · cases h
theorem sE_bin (hCX : ∀ o H s e s', CX o H s E0 e s' → False) {op : Operator} {a : CE} {b : CE} (iE_a : IHE CX G a) (iE_b : IHE CX G b) : IHE CX G (.bin op a b) := by
    intro e E sc N all X o h
    unfold chkE at h
    split at h
    · obtain ⟨h1, h2, h3⟩ := and3 h
      rw [decide_eq_true_eq] at h1
      subst h1
      exact pe_op (rBin_ok op) (iE_a _ o h2) (iE_b _ o h3)
    · cases h
theorem sE_un (hCX : ∀ o H s e s', CX o H s E0 e s' → False) {op : UnaryOp} {a : CE} (iE_a : IHE CX G a) : IHE CX G (.un op a) := by
    intro e E sc N all X o h
    unfold chkE at h
    split at h
    · rw [Bool.and_eq_true, decide_eq_true_eq] at h
      obtain ⟨h1, h2⟩ := h
      subst h1
      exact pe_un (rUn_ok op) (iE_a _ o h2)
    · cases h
theorem sE_cmp (hCX : ∀ o H s e s', CX o H s E0 e s' → False) {op : CmpOp} {a : CE} {b : CE} (iE_a : IHE CX G a) (iE_b : IHE CX G b) : IHE CX G (.cmp op a b) := by
    intro e E sc N all X o h
    unfold chkE at h
    split at h
    · rw [Bool.and_eq_true] at h
      obtain ⟨h, h4⟩ := h
      obtain ⟨h1, h2, h3⟩ := and3 h
      rw [decide_eq_true_eq] at h1
      subst h1
      exact pe_cmpR (rCmp_ok o.hu op) (iE_a _ o h3) (iE_b _ o h4) (not_marks (nott h2) op)
    · cases h
theorem sE_chain (hCX : ∀ o H s e s', CX o H s E0 e s' → False) {o1 : CmpOp} {o2 : CmpOp} {a : CE} {b : CE} {c : CE} (iE_a : IHE CX G a) (iE_b : IHE CX G b) (iE_c : IHE CX G c) : IHE CX G (.chain o1 o2 a b c) := by
    intro e E sc N all X o h
    unfold chkE at h
    split at h
    · simp only [Bool.and_eq_true, decide_eq_true_eq] at h
      obtain ⟨⟨⟨⟨⟨h1, h2⟩, h3⟩, h4⟩, h5⟩, h6⟩ := h
      subst h1 h2
      exact pe_chain (rCmp_ok o.hu o1) (rCmp_ok o.hu o2) (iE_a _ o h4) (iE_b _ o h5) (iE_c _ o h6) (not_marks (nott h3) o2)
    · cases h
theorem sE_not (hCX : ∀ o H s e s', CX o H s E0 e s' → False) {a : CE} (iE_a : IHE CX G a) : IHE CX G (.not a) := by
    intro e E sc N all X o h
    unfold chkE at h
    split at h
    · skip
      exact pe_not (iE_a _ o h)
    · cases h
theorem sE_and (hCX : ∀ o H s e s', CX o H s E0 e s' → False) {a : CE} {b : CE} (iE_a : IHE CX G a) (iE_b : IHE CX G b) : IHE CX G (.and a b) := by
    intro e E sc N all X o h
    unfold chkE at h
    split at h
    · rw [Bool.and_eq_true] at h
      exact pe_and (iE_a _ o h.1) (pe_one (iE_b _ o h.2))
    · rw [Bool.and_eq_true] at h
      exact pe_and (iE_a _ o h.1) (iE_b _ o h.2)
    · cases h
theorem sE_or (hCX : ∀ o H s e s', CX o H s E0 e s' → False) {a : CE} {b : CE} (iE_a : IHE CX G a) (iE_b : IHE CX G b) : IHE CX G (.or a b) := by
    intro e E sc N all X o h
    unfold chkE at h
    split at h
    · rw [Bool.and_eq_true] at h
      exact pe_or (iE_a _ o h.1) (pe_one (iE_b _ o h.2))
    · rw [Bool.and_eq_true] at h
      exact pe_or (iE_a _ o h.1) (iE_b _ o h.2)
    · cases h
theorem sE_ite (hCX : ∀ o H s e s', CX o H s E0 e s' → False) {c : CE} {a : CE} {b : CE} (iT_c : IHT CX G c) (iE_a : IHE CX G a) (iE_b : IHE CX G b) : IHE CX G (.ite c a b) := by
    intro e E sc N all X o h
    unfold chkE at h
    split at h
    · obtain ⟨h1, h2, h3⟩ := and3 h
      exact pe_ifExp (iT_c _ o h1) (iE_a _ o h2) (iE_b _ o h3)
    · cases h
theorem sE_idx (hCX : ∀ o H s e s', CX o H s E0 e s' → False) {a : CE} {i : CE} (iE_a : IHE CX G a) (iE_i : IHE CX G i) : IHE CX G (.idx a i) := by
    intro e E sc N all X o h
    unfold chkE at h
    split at h
    · obtain ⟨h1, h2, h3⟩ := and3 h
      exact pe_ix ix_seq (iE_a _ o h2) (iE_i _ o h3) (plain_ix (nott h1))
    · cases h
theorem sE_cut (hCX : ∀ o H s e s', CX o H s E0 e s' → False) {a : CE} {lo : CO} {hi : CO} (iE_a : IHE CX G a) (iO_lo : IHO CX G lo) (iO_hi : IHO CX G hi) : IHE CX G (.cut a lo hi) := by
    intro e E sc N all X o h
    unfold chkE at h
    split at h
    · obtain ⟨h1, h2, h3⟩ := and3 h
      exact pe_slice rSlc_ok (iE_a _ o h1) (iO_lo _ o h2) (iO_hi _ o h3)
    · cases h
theorem sE_tup (hCX : ∀ o H s e s', CX o H s E0 e s' → False) {es : CL} (iL_es : IHL CX G es) : IHE CX G (.tup es) := by
    intro e E sc N all X o h
    unfold chkE at h
    split at h
    · skip
      exact pe_tup (iL_es _ o h)
    · cases h
theorem sE_lst (hCX : ∀ o H s e s', CX o H s E0 e s' → False) {es : CL} (iL_es : IHL CX G es) : IHE CX G (.lst es) := by
    intro e E sc N all X o h
    unfold chkE at h
    split at h
    · skip
      exact pe_lst (iL_es _ o h)
    · cases h
theorem sE_dic (hCX : ∀ o H s e s', CX o H s E0 e s' → False) {ps : CP} (iP_ps : IHP CX G ps) : IHE CX G (.dic ps) := by
    intro e E sc N all X o h
    unfold chkE at h
    split at h
    · rename_i ks' vs' pos
      rw [Bool.and_eq_true, decide_eq_true_eq] at h
      obtain ⟨h1, h2⟩ := h
      intro pins s σ H Q I hw
      rcases hw with ⟨e1, hw⟩ | ⟨e1, hw⟩
      · subst e1
        have q : ks' = [] ∧ vs' = [] := by
          cases ks' with
          | nil => cases vs' with
            | nil => exact ⟨rfl, rfl⟩
            | cons a b => exact absurd h1 (by simp [chkP])
          | cons a b => exact absurd h1 (by simp [chkP])
        obtain ⟨rfl, rfl⟩ := q
        exact pe_dnewK pins s σ H Q I hw
      · obtain ⟨p1, p2, p3, p4⟩ := iP_ps ks' vs' o h1 pos
        exact pe_disp p1 p2 p3 (p4 e1) h2 pins s σ H Q I hw
    · cases h
theorem sE_call (hCX : ∀ o H s e s', CX o H s E0 e s' → False) {f : Str} {es : CL} (iL_es : IHL CX G es) : IHE CX G (.call f es) := by
    intro e E sc N all X o h
    unfold chkE at h
    split at h
    · rename_i f' np es' pos
      rw [Bool.and_eq_true] at h
      obtain ⟨h, h4⟩ := h
      obtain ⟨h1, h2, h3⟩ := and3 h
      rw [decide_eq_true_eq] at h1
      subst h1
      intro pins s σ H Q I hw
      obtain ⟨sp, dvs, hf, hw⟩ := hw
      obtain ⟨fa, fd, ps, ds, k, F, hr, hm, hk, hb, hd⟩ := o.fn _ _ _ _ hf
      cases es with
      | nil =>
        have e0 := chkL_nil h4
        subst e0
        exact pe_call0S F hr (o.gl h2) hm hk hb hd o.pass (okVar_of h3).1 pins s σ H Q I hw
      | cons c r =>
        have hL := iL_es _ o h4
        obtain ⟨e1, r1, rfl, g1, g2⟩ := chkL_cons h4
        exact pe_callS F hr (o.gl h2) hm hk hb hd o.pass hL (okVar_of h3).1 (not_star g1 _ _) (chkL_plain g2 _ _) pins s σ H Q I hw
    · cases h
theorem sE_bfn (hCX : ∀ o H s e s', CX o H s E0 e s' → False) {b : Bf} {es : CL} (iL_es : IHL CX G es) : IHE CX G (.bfn b es) := by
    intro e E sc N all X o h
    unfold chkE at h
    split at h
    · rename_i f' np e1 es' pos
      obtain ⟨h1, h2, h3⟩ := and3 h
      rw [decide_eq_true_eq] at h1
      subst h1
      have hL := iL_es _ o h3
      have hs : starEach (e1 :: es') X.env = (false, eval e1 X.env) :: starEach es' X.env ∧ (backTo pos (starEach es' X.env)).any (·.1) = false := by
        cases es with
        | nil => exact absurd (chkL_nil h3) (by simp)
        | cons c r =>
          obtain ⟨e1', r1, q, g1, g2⟩ := chkL_cons h3
          cases q
          exact ⟨not_star g1 _ _, chkL_plain g2 _ _⟩
      have hB := rBf_ok (X := X) o.calm o.hu b
      have hv := b.boot
      cases b with
      | list => exact pe_callTy hB (o.gl h2) (o.blt _ (Bf.mem _)) hv hL (Bf.plain _).1 (Bf.plain _).2 hs.1 hs.2
      | tuple => exact pe_callTy hB (o.gl h2) (o.blt _ (Bf.mem _)) hv hL (Bf.plain _).1 (Bf.plain _).2 hs.1 hs.2
      | len => exact pe_callB hB (o.gl h2) (o.blt _ (Bf.mem _)) hv hL (Bf.plain _).1 (Bf.plain _).2 hs.1 hs.2
      | isinstance => exact pe_callB hB (o.gl h2) (o.blt _ (Bf.mem _)) hv hL (Bf.plain _).1 (Bf.plain _).2 hs.1 hs.2
      | all => exact pe_callB hB (o.gl h2) (o.blt _ (Bf.mem _)) hv hL (Bf.plain _).1 (Bf.plain _).2 hs.1 hs.2
      | any => exact pe_callB hB (o.gl h2) (o.blt _ (Bf.mem _)) hv hL (Bf.plain _).1 (Bf.plain _).2 hs.1 hs.2
      | sorted => exact pe_callB hB (o.gl h2) (o.blt _ (Bf.mem _)) hv hL (Bf.plain _).1 (Bf.plain _).2 hs.1 hs.2
      | set => exact pe_callTy hB (o.gl h2) (o.blt _ (Bf.mem _)) hv hL (Bf.plain _).1 (Bf.plain _).2 hs.1 hs.2
      | setp => exact pe_callTy hB (o.gl h2) (o.blt _ (Bf.mem _)) hv hL (Bf.plain _).1 (Bf.plain _).2 hs.1 hs.2
      | isx => exact pe_callB hB (o.gl h2) (o.blt _ (Bf.mem _)) hv hL (Bf.plain _).1 (Bf.plain _).2 hs.1 hs.2
      | min => exact pe_callB hB (o.gl h2) (o.blt _ (Bf.mem _)) hv hL (Bf.plain _).1 (Bf.plain _).2 hs.1 hs.2
      | max => exact pe_callB hB (o.gl h2) (o.blt _ (Bf.mem _)) hv hL (Bf.plain _).1 (Bf.plain _).2 hs.1 hs.2
      | sum => exact pe_callB hB (o.gl h2) (o.blt _ (Bf.mem _)) hv hL (Bf.plain _).1 (Bf.plain _).2 hs.1 hs.2
      | lend => exact pe_callB hB (o.gl h2) (o.blt _ (Bf.mem _)) hv hL (Bf.plain _).1 (Bf.plain _).2 hs.1 hs.2
      | sorti => exact pe_callB hB (o.gl h2) (o.blt _ (Bf.mem _)) hv hL (Bf.plain _).1 (Bf.plain _).2 hs.1 hs.2
      | sortp => exact pe_callB hB (o.gl h2) (o.blt _ (Bf.mem _)) hv hL (Bf.plain _).1 (Bf.plain _).2 hs.1 hs.2
      | int => exact pe_callTy hB (o.gl h2) (o.blt _ (Bf.mem _)) hv hL (Bf.plain _).1 (Bf.plain _).2 hs.1 hs.2
      | strI => exact pe_callTy hB (o.gl h2) (o.blt _ (Bf.mem _)) hv hL (Bf.plain _).1 (Bf.plain _).2 hs.1 hs.2
      | intS => exact pe_callTy hB (o.gl h2) (o.blt _ (Bf.mem _)) hv hL (Bf.plain _).1 (Bf.plain _).2 hs.1 hs.2
    · cases h
theorem sE_meth0 (hCX : ∀ o H s e s', CX o H s E0 e s' → False) {m : Mm} {b : CE} (iE_b : IHE CX G b) : IHE CX G (.meth0 m b) := by
    intro e E sc N all X o h
    unfold chkE at h
    split at h
    · rename_i o' nm ap cp
      simp only [Bool.and_eq_true, decide_eq_true_eq] at h
      obtain ⟨⟨⟨h1, h2⟩, h3⟩, h4⟩ := h
      subst h1
      exact pe_bm0 PySem.F.plainAttrs_list m.slot m.ty (rMm_ok m) (iE_b _ o h4) (base_ok h3 _ _ _) h2
    · cases h
theorem sE_meth1 (hCX : ∀ o H s e s', CX o H s E0 e s' → False) {m : Mm} {b : CE} {a : CE} (iE_b : IHE CX G b) (iE_a : IHE CX G a) : IHE CX G (.meth1 m b a) := by
    intro e E sc N all X o h
    unfold chkE at h
    split at h
    · rename_i o' nm ap a' cp
      simp only [Bool.and_eq_true, decide_eq_true_eq] at h
      obtain ⟨⟨⟨⟨h1, h2⟩, h3⟩, h4⟩, h5⟩ := h
      subst h1
      exact pe_bm PySem.F.plainAttrs_list m.slot m.ty (rMm_ok m) (iE_b _ o h4) (pa_cons (iE_a _ o h5) pa_nil (not_star h5 _ _)) (base_ok h3 _ _ _) (by rw [not_star h5]; rfl) h2 (not_star h5 _ _) rfl
    · cases h
theorem isStr_of {x : Str} {e : Expr} (h : isStr x e = true) : ∃ j p, e = .Constant (.str x) j p := by
  unfold isStr at h
  split at h
  · cases of_decide_eq_true h
    exact ⟨_, _, rfl⟩
  · cases h
theorem sE_join (hCX : ∀ o H s e s', CX o H s E0 e s' → False) {sep : Str} {a : CE} (iE_a : IHE CX G a) : IHE CX G (.join sep a) := by
    intro e E sc N all X o h
    unfold chkE at h
    split at h
    · rename_i o' nm ap a' cp
      rw [Bool.and_eq_true] at h
      obtain ⟨h, h4⟩ := h
      obtain ⟨h1, h2, h3⟩ := and3 h
      rw [decide_eq_true_eq] at h1
      subst h1
      obtain ⟨j, p, rfl⟩ := isStr_of h3
      exact pe_bm PySem.F.plainAttrs_str PySem.F.slot_str_join PySem.F.type_str_join mt_join pe_str (pa_cons (iE_a _ o h4) pa_nil (not_star h4 _ _)) rfl (by rw [not_star h4]; rfl) h2 (not_star h4 _ _) rfl
    · cases h
theorem sE_idxd (hCX : ∀ o H s e s', CX o H s E0 e s' → False) {a : CE} {i : CE} (iE_a : IHE CX G a) (iE_i : IHE CX G i) : IHE CX G (.idxd a i) := by
    intro e E sc N all X o h
    exact absurd (show false = true from h) Bool.false_ne_true
theorem sT_idxd (hCX : ∀ o H s e s', CX o H s E0 e s' → False) {a i : CE} : IHT CX G (.idxd a i) := by
    intro _ _ _ _ _ _ _ _
    exact fun _ _ _ _ _ _ z => z.elim
theorem sW_idxd (hCX : ∀ o H s e s', CX o H s E0 e s' → False) {a i : CE} : IHW CX G (.idxd a i) := by
    intro _ _ _ _ _ _ _ _ _ h
    exact absurd h (by simp [chkE])
theorem sE_dicT (hCX : ∀ o H s e s', CX o H s E0 e s' → False) : IHE CX G .dicT := by
    intro e E sc N all X o h
    exact absurd (show false = true from h) Bool.false_ne_true
theorem sT_dicT (hCX : ∀ o H s e s', CX o H s E0 e s' → False) : IHT CX G .dicT := by
    intro _ _ _ _ _ _ _ _
    exact fun _ _ _ _ _ _ z => z.elim
theorem sW_dicT (hCX : ∀ o H s e s', CX o H s E0 e s' → False) : IHW CX G .dicT := by
    intro _ _ _ _ _ _ _ _ _ h
    exact absurd h (by simp [chkE])
theorem sE_setd (hCX : ∀ o H s e s', CX o H s E0 e s' → False) {b a c : CE} (iE_b : IHE CX G b) (iE_a : IHE CX G a) (iE_c : IHE CX G c) : IHE CX G (.setd b a c) := by
    intro e E sc N all X o h
    exact absurd (show false = true from h) Bool.false_ne_true
theorem sT_setd (hCX : ∀ o H s e s', CX o H s E0 e s' → False) {a b c : CE} : IHT CX G (.setd a b c) := by
    intro _ _ _ _ _ _ _ _
    exact fun _ _ _ _ _ _ z => z.elim
theorem sW_setd (hCX : ∀ o H s e s', CX o H s E0 e s' → False) {a b c : CE} : IHW CX G (.setd a b c) := by
    intro _ _ _ _ _ _ _ _ _ h
    exact absurd h (by simp [chkE])
theorem sE_ins (hCX : ∀ o H s e s', CX o H s E0 e s' → False) {b a c : CE} (iE_b : IHE CX G b) (iE_a : IHE CX G a) (iE_c : IHE CX G c) : IHE CX G (.ins b a c) := by
    intro e E sc N all X o h
    exact absurd (show false = true from h) Bool.false_ne_true
theorem sT_ins (hCX : ∀ o H s e s', CX o H s E0 e s' → False) {a b c : CE} : IHT CX G (.ins a b c) := by
    intro _ _ _ _ _ _ _ _
    exact fun _ _ _ _ _ _ z => z.elim
theorem sW_ins (hCX : ∀ o H s e s', CX o H s E0 e s' → False) {a b c : CE} : IHW CX G (.ins a b c) := by
    intro _ _ _ _ _ _ _ _ _ h
    exact absurd h (by simp [chkE])
theorem chkL_few {sc : Scope} {N : List Str} {l : CL} {es : List Expr} (h : chkL sc N l es = true) (hl : l.len < 29) (env : Env) (pos : Pos) : ((backTo pos (starEach es env)).all (fun x => !x.1) && (backToKw pos (keywordEach [] env)).all (fun x => x.1.isSome)
      && decide (es.length + ([] : List Keyword).length + (if ([] : List Keyword).isEmpty then 0 else 1) < 30)) = true := by
  have h1 := chkL_plain h env pos
  rw [Bool.and_eq_true, Bool.and_eq_true]
  refine ⟨⟨?_, rfl⟩, ?_⟩
  · rw [List.any_eq_false] at h1
    exact List.all_eq_true.mpr fun x hx => by simpa using h1 x hx
  · rw [decide_eq_true_eq, chkL_len h]
    exact Nat.lt_trans hl (by decide)
theorem sE_split (hCX : ∀ o H s e s', CX o H s E0 e s' → False) {b a : CE} (iE_b : IHE CX G b) (iE_a : IHE CX G a) : IHE CX G (.split b a) := by
    intro e E sc N all X o h
    unfold chkE at h
    split at h
    · rename_i o' nm ap a' cp
      simp only [Bool.and_eq_true, decide_eq_true_eq] at h
      obtain ⟨⟨⟨⟨h1, h2⟩, h3⟩, h4⟩, h5⟩ := h
      subst h1
      exact pe_bm PySem.F.plainAttrs_str PySem.F.slot_str_split PySem.F.type_str_split mt_split (iE_b _ o h4) (pa_cons (iE_a _ o h5) pa_nil (not_star h5 _ _)) (base_ok h3 _ _ _) (by rw [not_star h5]; rfl) h2 (not_star h5 _ _) rfl
    · cases h
theorem sE_base (hCX : ∀ o H s e s', CX o H s E0 e s' → False) {x : Str} {es : CL} (iL : IHL CX G es) : IHE CX G (.base x es) := by
    intro e E sc N all X o h
    unfold chkE at h
    split at h
    · rename_i x' np nm ap e' es' cp
      simp only [Bool.and_eq_true, decide_eq_true_eq] at h
      obtain ⟨⟨⟨⟨⟨⟨h1, h2⟩, h3⟩, h4⟩, h5⟩, h6⟩, h7⟩ := h
      subst h1
      subst h3
      intro pins s σ H Q I hw
      obtain ⟨B, hv, q⟩ := hw
      obtain ⟨u, hu, ru⟩ := o.val _ _ hv
      obtain rfl : u = Value.ref B := ru
      have hs : starEach (e' :: es') X.env = (false, eval e' X.env) :: starEach es' X.env ∧ (backTo cp (starEach es' X.env)).any (·.1) = false := by
        cases es with
        | nil => exact absurd (chkL_nil h7) (by simp)
        | cons c r =>
          obtain ⟨e1', r1, q, g1, g2⟩ := chkL_cons h7
          cases q
          exact ⟨not_star g1 _ _, chkL_plain g2 _ _⟩
      exact pe_base (o.gl h4) hu (iL _ o h7) (okVar_of h5).1 hs.1 hs.2 (chkL_few h7 h6 _ _) h2 pins s σ H Q I q
    · cases h
theorem sE_fld (hCX : ∀ o H s e s', CX o H s E0 e s' → False) {a : CE} {f : Str} (iE_a : IHE CX G a) : IHE CX G (.fld a f) := by
    intro e E sc N all X o h
    unfold chkE at h
    split at h
    · rw [Bool.and_eq_true, decide_eq_true_eq] at h
      obtain ⟨h1, h2⟩ := h
      subst h1
      exact pe_fldX (iE_a _ o h2)
    · cases h
theorem sE_upper (hCX : ∀ o H s e s', CX o H s E0 e s' → False) {b : CE} (iE_b : IHE CX G b) : IHE CX G (.upper b) := by
    intro e E sc N all X o h
    unfold chkE at h
    split at h
    · simp only [Bool.and_eq_true, decide_eq_true_eq] at h
      obtain ⟨⟨⟨h1, h2⟩, h3⟩, h4⟩ := h
      subst h1
      exact pe_bm0 PySem.F.plainAttrs_str PySem.F.slot_str_upper PySem.F.type_str_upper mt_upper (iE_b _ o h4) (base_ok h3 _ _ _) h2
    · cases h
theorem sT_upper (hCX : ∀ o H s e s', CX o H s E0 e s' → False) {a : CE} : IHT CX G (.upper a) := by
    intro _ _ _ _ _ _ _ _
    exact fun _ _ _ _ _ _ z => z.elim
theorem sW_upper (hCX : ∀ o H s e s', CX o H s E0 e s' → False) {a : CE} : IHW CX G (.upper a) := by
    intro _ _ _ _ _ _ _ _ _ h
    exact absurd h (by simp [chkE])
theorem sE_ninG (hCX : ∀ o H s e s', CX o H s E0 e s' → False) {a b : CE} (iE_a : IHE CX G a) (iE_b : IHE CX G b) : IHE CX G (.ninG a b) := by
    intro e E sc N all X o h
    unfold chkE at h
    split at h
    · rw [Bool.and_eq_true] at h
      obtain ⟨h, h4⟩ := h
      obtain ⟨h1, h2, h3⟩ := and3 h
      rw [decide_eq_true_eq] at h1
      subst h1
      exact pe_cmpR (op_niG o.dic) (iE_a _ o h3) (iE_b _ o h4) (not_marks (nott h2) .NotIn)
    · cases h
theorem sT_ninG (hCX : ∀ o H s e s', CX o H s E0 e s' → False) {a b : CE} (iE_a : IHE CX G a) (iE_b : IHE CX G b) : IHT CX G (.ninG a b) := by
    intro e E sc N all X o h
    unfold chkE at h
    split at h
    · rw [Bool.and_eq_true] at h
      obtain ⟨h, h4⟩ := h
      obtain ⟨h1, h2, h3⟩ := and3 h
      rw [decide_eq_true_eq] at h1
      subst h1
      exact pt_cmpR (op_niG o.dic) (iE_a _ o h3) (iE_b _ o h4) (not_marks (nott h2) .NotIn)
    · cases h
theorem sW_ninG (hCX : ∀ o H s e s', CX o H s E0 e s' → False) {a b : CE} : IHW CX G (.ninG a b) := by
    intro _ _ _ _ _ _ _ _ _ h
    exact absurd h (by simp [chkE])
theorem sT_split (hCX : ∀ o H s e s', CX o H s E0 e s' → False) {a b : CE} : IHT CX G (.split a b) := by
    intro _ _ _ _ _ _ _ _
    exact fun _ _ _ _ _ _ z => z.elim
theorem sW_split (hCX : ∀ o H s e s', CX o H s E0 e s' → False) {a b : CE} : IHW CX G (.split a b) := by
    intro _ _ _ _ _ _ _ _ _ h
    exact absurd h (by simp [chkE])
theorem sT_base (hCX : ∀ o H s e s', CX o H s E0 e s' → False) {x : Str} {es : CL} : IHT CX G (.base x es) := by
    intro _ _ _ _ _ _ _ _
    exact fun _ _ _ _ _ _ z => z.elim
theorem sW_base (hCX : ∀ o H s e s', CX o H s E0 e s' → False) {x : Str} {es : CL} : IHW CX G (.base x es) := by
    intro _ _ _ _ _ _ _ _ _ h
    exact absurd h (by simp [chkE])
theorem sT_fld (hCX : ∀ o H s e s', CX o H s E0 e s' → False) {a : CE} {f : Str} : IHT CX G (.fld a f) := by
    intro _ _ _ _ _ _ _ _
    exact fun _ _ _ _ _ _ z => z.elim
theorem sW_fld (hCX : ∀ o H s e s', CX o H s E0 e s' → False) {a : CE} {f : Str} : IHW CX G (.fld a f) := by
    intro _ _ _ _ _ _ _ _ _ h
    exact absurd h (by simp [chkE])
theorem sE_inG (hCX : ∀ o H s e s', CX o H s E0 e s' → False) {a b : CE} (iE_a : IHE CX G a) (iE_b : IHE CX G b) : IHE CX G (.inG a b) := by
    intro e E sc N all X o h
    unfold chkE at h
    split at h
    · rw [Bool.and_eq_true] at h
      obtain ⟨h, h4⟩ := h
      obtain ⟨h1, h2, h3⟩ := and3 h
      rw [decide_eq_true_eq] at h1
      subst h1
      exact pe_cmpR (op_inG o.dic) (iE_a _ o h3) (iE_b _ o h4) (not_marks (nott h2) .In)
    · cases h
theorem sE_idxG (hCX : ∀ o H s e s', CX o H s E0 e s' → False) {a i : CE} (iE_a : IHE CX G a) (iE_i : IHE CX G i) : IHE CX G (.idxG a i) := by
    intro e E sc N all X o h
    unfold chkE at h
    split at h
    · obtain ⟨h1, h2, h3⟩ := and3 h
      exact pe_ix (ix_inG o.dic) (iE_a _ o h2) (iE_i _ o h3) (plain_ix (nott h1))
    · cases h
theorem sE_fstr (hCX : ∀ o H s e s', CX o H s E0 e s' → False) {pre post : Str} {a : CE} (iE_a : IHE CX G a) : IHE CX G (.fstr pre post a) := by
    intro e E sc N all X o h
    unfold chkE at h
    split at h
    · obtain ⟨h1, h2, h3⟩ := and3 h
      rw [decide_eq_true_eq] at h1 h2
      subst h1
      subst h2
      exact pe_fstr (iE_a _ o h3)
    · cases h
theorem sT_inG (hCX : ∀ o H s e s', CX o H s E0 e s' → False) {a b : CE} : IHT CX G (.inG a b) := by
    intro _ _ _ _ _ _ _ _
    exact fun _ _ _ _ _ _ z => z.elim
theorem sW_inG (hCX : ∀ o H s e s', CX o H s E0 e s' → False) {a b : CE} : IHW CX G (.inG a b) := by
    intro _ _ _ _ _ _ _ _ _ h
    exact absurd h (by simp [chkE])
theorem sT_idxG (hCX : ∀ o H s e s', CX o H s E0 e s' → False) {a i : CE} : IHT CX G (.idxG a i) := by
    intro _ _ _ _ _ _ _ _
    exact fun _ _ _ _ _ _ z => z.elim
theorem sW_idxG (hCX : ∀ o H s e s', CX o H s E0 e s' → False) {a i : CE} : IHW CX G (.idxG a i) := by
    intro _ _ _ _ _ _ _ _ _ h
    exact absurd h (by simp [chkE])
theorem sT_fstr (hCX : ∀ o H s e s', CX o H s E0 e s' → False) {pre post : Str} {a : CE} : IHT CX G (.fstr pre post a) := by
    intro _ _ _ _ _ _ _ _
    exact fun _ _ _ _ _ _ z => z.elim
theorem sW_fstr (hCX : ∀ o H s e s', CX o H s E0 e s' → False) {pre post : Str} {a : CE} : IHW CX G (.fstr pre post a) := by
    intro _ _ _ _ _ _ _ _ _ h
    exact absurd h (by simp [chkE])
theorem sE_divb (hCX : ∀ o H s e s', CX o H s E0 e s' → False) {a b : CE} (iE_a : IHE CX G a) (iE_b : IHE CX G b) : IHE CX G (.divb a b) := by
    intro e E sc N all X o h
    exact absurd (show false = true from h) Bool.false_ne_true
theorem sT_divb (hCX : ∀ o H s e s', CX o H s E0 e s' → False) {a b : CE} : IHT CX G (.divb a b) := by
    intro _ _ _ _ _ _ _ _
    exact fun _ _ _ _ _ _ z => z.elim
theorem sW_divb (hCX : ∀ o H s e s', CX o H s E0 e s' → False) {a b : CE} : IHW CX G (.divb a b) := by
    intro _ _ _ _ _ _ _ _ _ h
    exact absurd h (by simp [chkE])
theorem sE_rev (hCX : ∀ o H s e s', CX o H s E0 e s' → False) {a : CE} (iE_a : IHE CX G a) : IHE CX G (.rev a) := by
    intro e E sc N all X o h
    exact absurd (show false = true from h) Bool.false_ne_true
theorem sT_rev (hCX : ∀ o H s e s', CX o H s E0 e s' → False) {a : CE} : IHT CX G (.rev a) := by
    intro _ _ _ _ _ _ _ _
    exact fun _ _ _ _ _ _ z => z.elim
theorem sW_rev (hCX : ∀ o H s e s', CX o H s E0 e s' → False) {a : CE} : IHW CX G (.rev a) := by
    intro _ _ _ _ _ _ _ _ _ h
    exact absurd h (by simp [chkE])
theorem sE_lrng (hCX : ∀ o H s e s', CX o H s E0 e s' → False) {a : CE} (iE_a : IHE CX G a) : IHE CX G (.lrng a) := by
    intro e E sc N all X o h
    exact absurd (show false = true from h) Bool.false_ne_true
theorem sT_lrng (hCX : ∀ o H s e s', CX o H s E0 e s' → False) {a : CE} : IHT CX G (.lrng a) := by
    intro _ _ _ _ _ _ _ _
    exact fun _ _ _ _ _ _ z => z.elim
theorem sW_lrng (hCX : ∀ o H s e s', CX o H s E0 e s' → False) {a : CE} : IHW CX G (.lrng a) := by
    intro _ _ _ _ _ _ _ _ _ h
    exact absurd h (by simp [chkE])
theorem sT_join (hCX : ∀ o H s e s', CX o H s E0 e s' → False) {sep : Str} {a : CE} : IHT CX G (.join sep a) := by
    intro _ _ _ _ _ _ _ _
    exact fun _ _ _ _ _ _ z => z.elim
theorem sW_join (hCX : ∀ o H s e s', CX o H s E0 e s' → False) {sep : Str} {a : CE} : IHW CX G (.join sep a) := by
    intro _ _ _ _ _ _ _ _ _ h
    exact absurd h (by simp [chkE, isStr])
theorem sE_comp (hCX : ∀ o H s e s', CX o H s E0 e s' → False) {own : List Str} {fr : List Nat} {tg : CG} {it : CI} {cond : CO} {elt : CE} (iI_it : IHI CX G it) (iG_tg : IHG CX G tg) (iC_cond : IHC CX G cond) (iE_elt : IHE CX G elt) : IHE CX G (.comp own fr tg it cond elt) := by
    intro e E sc N all X o h
    unfold chkE at h
    split at h
    · rename_i elt' tg' it' ifs' sc' pos
      simp only [Bool.and_eq_true] at h
      obtain ⟨⟨⟨⟨⟨h1, h2⟩, h3⟩, h4⟩, h5⟩, h6⟩ := h
      have S := scopeOk_of h1
      exact pe_comp (S.comp o) (S.mkOk o) o.calm (iI_it _ _ o h3)
        (fun C s₀ H₀ fp _ => ⟨iG_tg _ (o.comp hCX S C s₀ H₀ fp) h4, iC_cond _ (o.comp hCX S C s₀ H₀ fp) h5, iE_elt _ (o.comp hCX S C s₀ H₀ fp) h6⟩) (not_set (nott h2) _)
    · cases h
theorem sT_cmp (hCX : ∀ o H s e s', CX o H s E0 e s' → False) {op : CmpOp} {a : CE} {b : CE} (iE_a : IHE CX G a) (iE_b : IHE CX G b) : IHT CX G (.cmp op a b) := by
    intro e E sc N all X o h
    unfold chkE at h
    split at h
    · rw [Bool.and_eq_true] at h
      obtain ⟨h, h4⟩ := h
      obtain ⟨h1, h2, h3⟩ := and3 h
      rw [decide_eq_true_eq] at h1
      subst h1
      exact pt_cmpR (rCmp_ok o.hu op) (iE_a _ o h3) (iE_b _ o h4) (not_marks (nott h2) op)
    · cases h
theorem sT_chain (hCX : ∀ o H s e s', CX o H s E0 e s' → False) {o1 : CmpOp} {o2 : CmpOp} {a : CE} {b : CE} {c : CE} (iE_a : IHE CX G a) (iE_b : IHE CX G b) (iE_c : IHE CX G c) : IHT CX G (.chain o1 o2 a b c) := by
    intro e E sc N all X o h
    unfold chkE at h
    split at h
    · simp only [Bool.and_eq_true, decide_eq_true_eq] at h
      obtain ⟨⟨⟨⟨⟨h1, h2⟩, h3⟩, h4⟩, h5⟩, h6⟩ := h
      subst h1 h2
      exact pt_chain (rCmp_ok o.hu o1) (rCmp_ok o.hu o2) (iE_a _ o h4) (iE_b _ o h5) (iE_c _ o h6) (not_marks (nott h3) o2)
    · cases h
theorem sT_not (hCX : ∀ o H s e s', CX o H s E0 e s' → False) {a : CE} (iT_a : IHT CX G a) : IHT CX G (.not a) := by
    intro e E sc N all X o h
    unfold chkE at h
    split at h
    · skip
      exact pt_not (iT_a _ o h)
    · cases h
theorem sT_and (hCX : ∀ o H s e s', CX o H s E0 e s' → False) {a : CE} {b : CE} (iT_a : IHT CX G a) (iT_b : IHT CX G b) (iW_b : IHW CX G b) : IHT CX G (.and a b) := by
    intro e E sc N all X o h
    unfold chkE at h
    split at h
    · rw [Bool.and_eq_true] at h
      exact (pw_and (iT_a _ o h.1) (pw_and1 (iT_b _ o h.2))).pt
    · rw [Bool.and_eq_true] at h
      exact (pw_and (iT_a _ o h.1) (iW_b _ _ _ o h.2)).pt
    · cases h
theorem sT_or (hCX : ∀ o H s e s', CX o H s E0 e s' → False) {a : CE} {b : CE} (iT_a : IHT CX G a) (iT_b : IHT CX G b) (iW_b : IHW CX G b) : IHT CX G (.or a b) := by
    intro e E sc N all X o h
    unfold chkE at h
    split at h
    · rw [Bool.and_eq_true] at h
      exact (pw_or (iT_a _ o h.1) (pw_or1 (iT_b _ o h.2))).pt
    · rw [Bool.and_eq_true] at h
      exact (pw_or (iT_a _ o h.1) (iW_b _ _ _ o h.2)).pt
    · cases h
theorem sT_var (hCX : ∀ o H s e s', CX o H s E0 e s' → False) {i : Nat}  : IHT CX G (.var i) := by
    intro e E sc N all X o h
    have hv := h
    unfold chkE at h
    split at h
    · obtain ⟨h1, h2, h3⟩ := and3 h
      obtain ⟨d1, d2⟩ := okVar_of h3
      exact pt_truth (pe_var (by rw [o.names]; exact beq_iff_eq.mp h1) (o.vis h2) d1 d2) fun _ => rfl
    · cases h
theorem sT_con (hCX : ∀ o H s e s', CX o H s E0 e s' → False) {c : Const}  : IHT CX G (.con c) := by
    intro e E sc N all X o h
    have q := sE_con hCX e o h
    unfold chkE at h
    split at h
    · skip
      skip
      exact pt_truth q fun _ => rfl
    · cases h
theorem sT_glo (hCX : ∀ o H s e s', CX o H s E0 e s' → False) {x : Str}  : IHT CX G (.glo x) := by
    intro e E sc N all X o h
    unfold chkE at h
    split at h
    · obtain ⟨h1, h2, h3⟩ := and3 h
      rw [decide_eq_true_eq] at h1
      subst h1
      refine pt_tru ?_ (fun _ => rfl)
      intro pins s σ H Q I hw
      obtain ⟨v, hv, q⟩ := hw
      obtain ⟨u, hu, r⟩ := o.val _ _ hv
      exact pe_glob (o.gl h2) hu r (okVar_of h3).1 pins s σ H Q I q
    · cases h
theorem sT_idx (hCX : ∀ o H s e s', CX o H s E0 e s' → False) {a : CE} {i : CE} (iE_a : IHE CX G a) (iE_i : IHE CX G i) : IHT CX G (.idx a i) := by
    intro e E sc N all X o h
    unfold chkE at h
    split at h
    · obtain ⟨h1, h2, h3⟩ := and3 h
      exact pt_truth (pe_ix ix_seq (iE_a _ o h2) (iE_i _ o h3) (plain_ix (nott h1))) fun _ => rfl
    · cases h
theorem sT_call (hCX : ∀ o H s e s', CX o H s E0 e s' → False) {f : Str} {es : CL} (iL_es : IHL CX G es) : IHT CX G (.call f es) := by
    intro e E sc N all X o h
    unfold chkE at h
    split at h
    · rename_i f' np es' pos
      rw [Bool.and_eq_true] at h
      obtain ⟨h, h4⟩ := h
      obtain ⟨h1, h2, h3⟩ := and3 h
      rw [decide_eq_true_eq] at h1
      subst h1
      refine pt_tru ?_ (fun _ => rfl)
      intro pins s σ H Q I hw
      obtain ⟨sp, dvs, hf, hw⟩ := hw
      obtain ⟨fa, fd, ps, ds, k, F, hr, hm, hk, hb, hd⟩ := o.fn _ _ _ _ hf
      cases es with
      | nil =>
        have e0 := chkL_nil h4
        subst e0
        exact pe_call0S F hr (o.gl h2) hm hk hb hd o.pass (okVar_of h3).1 pins s σ H Q I hw
      | cons c r =>
        have hL := iL_es _ o h4
        obtain ⟨e1, r1, rfl, g1, g2⟩ := chkL_cons h4
        exact pe_callS F hr (o.gl h2) hm hk hb hd o.pass hL (okVar_of h3).1 (not_star g1 _ _) (chkL_plain g2 _ _) pins s σ H Q I hw
    · cases h
theorem sT_bfn (hCX : ∀ o H s e s', CX o H s E0 e s' → False) {b : Bf} {es : CL} (iL_es : IHL CX G es) : IHT CX G (.bfn b es) := by
    intro e E sc N all X o h
    unfold chkE at h
    split at h
    · rename_i f' np e1 es' pos
      obtain ⟨h1, h2, h3⟩ := and3 h
      rw [decide_eq_true_eq] at h1
      subst h1
      have hL := iL_es _ o h3
      have hs : starEach (e1 :: es') X.env = (false, eval e1 X.env) :: starEach es' X.env ∧ (backTo pos (starEach es' X.env)).any (·.1) = false := by
        cases es with
        | nil => exact absurd (chkL_nil h3) (by simp)
        | cons c r =>
          obtain ⟨e1', r1, q, g1, g2⟩ := chkL_cons h3
          cases q
          exact ⟨not_star g1 _ _, chkL_plain g2 _ _⟩
      have hB := rBf_ok (X := X) o.calm o.hu b
      have hv := b.boot
      refine pt_tru ?_ (fun _ => rfl)
      cases b with
      | list => exact pe_callTy hB (o.gl h2) (o.blt _ (Bf.mem _)) hv hL (Bf.plain _).1 (Bf.plain _).2 hs.1 hs.2
      | tuple => exact pe_callTy hB (o.gl h2) (o.blt _ (Bf.mem _)) hv hL (Bf.plain _).1 (Bf.plain _).2 hs.1 hs.2
      | len => exact pe_callB hB (o.gl h2) (o.blt _ (Bf.mem _)) hv hL (Bf.plain _).1 (Bf.plain _).2 hs.1 hs.2
      | isinstance => exact pe_callB hB (o.gl h2) (o.blt _ (Bf.mem _)) hv hL (Bf.plain _).1 (Bf.plain _).2 hs.1 hs.2
      | all => exact pe_callB hB (o.gl h2) (o.blt _ (Bf.mem _)) hv hL (Bf.plain _).1 (Bf.plain _).2 hs.1 hs.2
      | any => exact pe_callB hB (o.gl h2) (o.blt _ (Bf.mem _)) hv hL (Bf.plain _).1 (Bf.plain _).2 hs.1 hs.2
      | sorted => exact pe_callB hB (o.gl h2) (o.blt _ (Bf.mem _)) hv hL (Bf.plain _).1 (Bf.plain _).2 hs.1 hs.2
      | set => exact pe_callTy hB (o.gl h2) (o.blt _ (Bf.mem _)) hv hL (Bf.plain _).1 (Bf.plain _).2 hs.1 hs.2
      | setp => exact pe_callTy hB (o.gl h2) (o.blt _ (Bf.mem _)) hv hL (Bf.plain _).1 (Bf.plain _).2 hs.1 hs.2
      | isx => exact pe_callB hB (o.gl h2) (o.blt _ (Bf.mem _)) hv hL (Bf.plain _).1 (Bf.plain _).2 hs.1 hs.2
      | min => exact pe_callB hB (o.gl h2) (o.blt _ (Bf.mem _)) hv hL (Bf.plain _).1 (Bf.plain _).2 hs.1 hs.2
      | max => exact pe_callB hB (o.gl h2) (o.blt _ (Bf.mem _)) hv hL (Bf.plain _).1 (Bf.plain _).2 hs.1 hs.2
      | sum => exact pe_callB hB (o.gl h2) (o.blt _ (Bf.mem _)) hv hL (Bf.plain _).1 (Bf.plain _).2 hs.1 hs.2
      | lend => exact pe_callB hB (o.gl h2) (o.blt _ (Bf.mem _)) hv hL (Bf.plain _).1 (Bf.plain _).2 hs.1 hs.2
      | sorti => exact pe_callB hB (o.gl h2) (o.blt _ (Bf.mem _)) hv hL (Bf.plain _).1 (Bf.plain _).2 hs.1 hs.2
      | sortp => exact pe_callB hB (o.gl h2) (o.blt _ (Bf.mem _)) hv hL (Bf.plain _).1 (Bf.plain _).2 hs.1 hs.2
      | int => exact pe_callTy hB (o.gl h2) (o.blt _ (Bf.mem _)) hv hL (Bf.plain _).1 (Bf.plain _).2 hs.1 hs.2
      | strI => exact pe_callTy hB (o.gl h2) (o.blt _ (Bf.mem _)) hv hL (Bf.plain _).1 (Bf.plain _).2 hs.1 hs.2
      | intS => exact pe_callTy hB (o.gl h2) (o.blt _ (Bf.mem _)) hv hL (Bf.plain _).1 (Bf.plain _).2 hs.1 hs.2
    · cases h
theorem sT_ite (hCX : ∀ o H s e s', CX o H s E0 e s' → False) {c : CE} {a : CE} {b : CE}  : IHT CX G (.ite c a b) := by
    intro _ _ _ _ _ _ _ _
    exact fun _ _ _ _ _ _ z => z.elim
theorem sT_ty (hCX : ∀ o H s e s', CX o H s E0 e s' → False) {t : Ty}  : IHT CX G (.ty t) := by
    intro _ _ _ _ _ _ _ _
    exact fun _ _ _ _ _ _ z => z.elim
theorem sT_bin (hCX : ∀ o H s e s', CX o H s E0 e s' → False) {op : Operator} {a : CE} {b : CE}  : IHT CX G (.bin op a b) := by
    intro _ _ _ _ _ _ _ _
    exact fun _ _ _ _ _ _ z => z.elim
theorem sT_un (hCX : ∀ o H s e s', CX o H s E0 e s' → False) {op : UnaryOp} {a : CE}  : IHT CX G (.un op a) := by
    intro _ _ _ _ _ _ _ _
    exact fun _ _ _ _ _ _ z => z.elim
theorem sT_cut (hCX : ∀ o H s e s', CX o H s E0 e s' → False) {a : CE} {lo : CO} {hi : CO}  : IHT CX G (.cut a lo hi) := by
    intro _ _ _ _ _ _ _ _
    exact fun _ _ _ _ _ _ z => z.elim
theorem sT_tup (hCX : ∀ o H s e s', CX o H s E0 e s' → False) {es : CL}  : IHT CX G (.tup es) := by
    intro _ _ _ _ _ _ _ _
    exact fun _ _ _ _ _ _ z => z.elim
theorem sT_lst (hCX : ∀ o H s e s', CX o H s E0 e s' → False) {es : CL}  : IHT CX G (.lst es) := by
    intro _ _ _ _ _ _ _ _
    exact fun _ _ _ _ _ _ z => z.elim
theorem sT_dic (hCX : ∀ o H s e s', CX o H s E0 e s' → False) {ps : CP}  : IHT CX G (.dic ps) := by
    intro _ _ _ _ _ _ _ _
    exact fun _ _ _ _ _ _ z => z.elim
theorem sT_meth0 (hCX : ∀ o H s e s', CX o H s E0 e s' → False) {m : Mm} {b : CE}  : IHT CX G (.meth0 m b) := by
    intro _ _ _ _ _ _ _ _
    exact fun _ _ _ _ _ _ z => z.elim
theorem sT_meth1 (hCX : ∀ o H s e s', CX o H s E0 e s' → False) {m : Mm} {b : CE} {a : CE}  : IHT CX G (.meth1 m b a) := by
    intro _ _ _ _ _ _ _ _
    exact fun _ _ _ _ _ _ z => z.elim
theorem sT_comp (hCX : ∀ o H s e s', CX o H s E0 e s' → False) {own : List Str} {fr : List Nat} {tg : CG} {it : CI} {cond : CO} {elt : CE}  : IHT CX G (.comp own fr tg it cond elt) := by
    intro _ _ _ _ _ _ _ _
    exact fun _ _ _ _ _ _ z => z.elim
theorem sW_and (hCX : ∀ o H s e s', CX o H s E0 e s' → False) {a : CE} {b : CE} (iT_a : IHT CX G a) (iT_b : IHT CX G b) (iW_b : IHW CX G b) : IHW CX G (.and a b) := by
    intro op es pos E sc N all X o h
    unfold chkE at h
    split at h
    · rename_i heq
      cases heq
      rw [Bool.and_eq_true] at h
      exact pw_and (iT_a _ o h.1) (pw_and1 (iT_b _ o h.2))
    · rename_i heq
      cases heq
      rw [Bool.and_eq_true] at h
      exact pw_and (iT_a _ o h.1) (iW_b _ _ _ o h.2)
    · cases h
theorem sW_or (hCX : ∀ o H s e s', CX o H s E0 e s' → False) {a : CE} {b : CE} (iT_a : IHT CX G a) (iT_b : IHT CX G b) (iW_b : IHW CX G b) : IHW CX G (.or a b) := by
    intro op es pos E sc N all X o h
    unfold chkE at h
    split at h
    · rename_i heq
      cases heq
      rw [Bool.and_eq_true] at h
      exact pw_or (iT_a _ o h.1) (pw_or1 (iT_b _ o h.2))
    · rename_i heq
      cases heq
      rw [Bool.and_eq_true] at h
      exact pw_or (iT_a _ o h.1) (iW_b _ _ _ o h.2)
    · cases h
theorem sW_var (hCX : ∀ o H s e s', CX o H s E0 e s' → False) {i : Nat}  : IHW CX G (.var i) := by
    intro _ _ _ _ _ _ _ _ _ h
    exact absurd h (by simp [chkE])
theorem sW_con (hCX : ∀ o H s e s', CX o H s E0 e s' → False) {c : Const}  : IHW CX G (.con c) := by
    intro _ _ _ _ _ _ _ _ _ h
    exact absurd h (by simp [chkE])
theorem sW_glo (hCX : ∀ o H s e s', CX o H s E0 e s' → False) {x : Str}  : IHW CX G (.glo x) := by
    intro _ _ _ _ _ _ _ _ _ h
    exact absurd h (by simp [chkE])
theorem sW_ty (hCX : ∀ o H s e s', CX o H s E0 e s' → False) {t : Ty}  : IHW CX G (.ty t) := by
    intro _ _ _ _ _ _ _ _ _ h
    exact absurd h (by simp [chkE])
theorem sW_bin (hCX : ∀ o H s e s', CX o H s E0 e s' → False) {op : Operator} {a : CE} {b : CE}  : IHW CX G (.bin op a b) := by
    intro _ _ _ _ _ _ _ _ _ h
    exact absurd h (by simp [chkE])
theorem sW_un (hCX : ∀ o H s e s', CX o H s E0 e s' → False) {op : UnaryOp} {a : CE}  : IHW CX G (.un op a) := by
    intro _ _ _ _ _ _ _ _ _ h
    exact absurd h (by simp [chkE])
theorem sW_cmp (hCX : ∀ o H s e s', CX o H s E0 e s' → False) {op : CmpOp} {a : CE} {b : CE}  : IHW CX G (.cmp op a b) := by
    intro _ _ _ _ _ _ _ _ _ h
    exact absurd h (by simp [chkE])
theorem sW_chain (hCX : ∀ o H s e s', CX o H s E0 e s' → False) {o1 : CmpOp} {o2 : CmpOp} {a : CE} {b : CE} {c : CE}  : IHW CX G (.chain o1 o2 a b c) := by
    intro _ _ _ _ _ _ _ _ _ h
    exact absurd h (by simp [chkE])
theorem sW_not (hCX : ∀ o H s e s', CX o H s E0 e s' → False) {a : CE}  : IHW CX G (.not a) := by
    intro _ _ _ _ _ _ _ _ _ h
    exact absurd h (by simp [chkE])
theorem sW_ite (hCX : ∀ o H s e s', CX o H s E0 e s' → False) {c : CE} {a : CE} {b : CE}  : IHW CX G (.ite c a b) := by
    intro _ _ _ _ _ _ _ _ _ h
    exact absurd h (by simp [chkE])
theorem sW_idx (hCX : ∀ o H s e s', CX o H s E0 e s' → False) {a : CE} {i : CE}  : IHW CX G (.idx a i) := by
    intro _ _ _ _ _ _ _ _ _ h
    exact absurd h (by simp [chkE])
theorem sW_cut (hCX : ∀ o H s e s', CX o H s E0 e s' → False) {a : CE} {lo : CO} {hi : CO}  : IHW CX G (.cut a lo hi) := by
    intro _ _ _ _ _ _ _ _ _ h
    exact absurd h (by simp [chkE])
theorem sW_tup (hCX : ∀ o H s e s', CX o H s E0 e s' → False) {es : CL}  : IHW CX G (.tup es) := by
    intro _ _ _ _ _ _ _ _ _ h
    exact absurd h (by simp [chkE])
theorem sW_lst (hCX : ∀ o H s e s', CX o H s E0 e s' → False) {es : CL}  : IHW CX G (.lst es) := by
    intro _ _ _ _ _ _ _ _ _ h
    exact absurd h (by simp [chkE])
theorem sW_dic (hCX : ∀ o H s e s', CX o H s E0 e s' → False) {ps : CP}  : IHW CX G (.dic ps) := by
    intro _ _ _ _ _ _ _ _ _ h
    exact absurd h (by simp [chkE])
theorem sW_call (hCX : ∀ o H s e s', CX o H s E0 e s' → False) {f : Str} {es : CL}  : IHW CX G (.call f es) := by
    intro _ _ _ _ _ _ _ _ _ h
    exact absurd h (by simp [chkE])
theorem sW_bfn (hCX : ∀ o H s e s', CX o H s E0 e s' → False) {b : Bf} {es : CL}  : IHW CX G (.bfn b es) := by
    intro _ _ _ _ _ _ _ _ _ h
    exact absurd h (by simp [chkE])
theorem sW_meth0 (hCX : ∀ o H s e s', CX o H s E0 e s' → False) {m : Mm} {b : CE}  : IHW CX G (.meth0 m b) := by
    intro _ _ _ _ _ _ _ _ _ h
    exact absurd h (by simp [chkE])
theorem sW_meth1 (hCX : ∀ o H s e s', CX o H s E0 e s' → False) {m : Mm} {b : CE} {a : CE}  : IHW CX G (.meth1 m b a) := by
    intro _ _ _ _ _ _ _ _ _ h
    exact absurd h (by simp [chkE])
theorem sW_comp (hCX : ∀ o H s e s', CX o H s E0 e s' → False) {own : List Str} {fr : List Nat} {tg : CG} {it : CI} {cond : CO} {elt : CE}  : IHW CX G (.comp own fr tg it cond elt) := by
    intro _ _ _ _ _ _ _ _ _ h
    exact absurd h (by simp [chkE])
theorem sL_nil (hCX : ∀ o H s e s', CX o H s E0 e s' → False)  : IHL CX G (.nil) := by
    intro es E sc N all X o h
    rw [chkL_nil h]
    exact pa_nil
theorem sL_cons (hCX : ∀ o H s e s', CX o H s E0 e s' → False) {c : CE} {r : CL} (iE_c : IHE CX G c) (iL_r : IHL CX G r) : IHL CX G (.cons c r) := by
    intro es E sc N all X o h
    obtain ⟨e', r', rfl, h1, h2⟩ := chkL_cons h
    exact pa_cons (iE_c _ o h1) (iL_r _ o h2) (not_star h1 _ _)
theorem sP_nil (hCX : ∀ o H s e s', CX o H s E0 e s' → False)  : IHP CX G (.nil) := by
    intro ks vs E sc N all X o h pos
    have q : ks = [] ∧ vs = [] := by
      cases ks with
      | nil => cases vs with
        | nil => exact ⟨rfl, rfl⟩
        | cons a b => exact absurd h (by simp [chkP])
      | cons a b => exact absurd h (by simp [chkP])
    obtain ⟨rfl, rfl⟩ := q
    exact ⟨pps_nil, rfl, rfl, fun z => absurd rfl z⟩
theorem sP_cons (hCX : ∀ o H s e s', CX o H s E0 e s' → False) {k : CE} {v : CE} {r : CP} (iP_r : IHP CX G r) (iE_k : IHE CX G k) (iE_v : IHE CX G v) : IHP CX G (.cons k v r) := by
    intro ks vs E sc N all X o h pos
    unfold chkP at h
    split at h
    · obtain ⟨h1, h2, h3⟩ := and3 h
      obtain ⟨p1, p2, p3, _⟩ := iP_r _ _ o h3 pos
      exact ⟨pps_cons (iE_k _ o h1) (iE_v _ o h2) p1, by simp [p2], by simp [p3], fun _ => by simp⟩
    · cases h
theorem sO_no (hCX : ∀ o H s e s', CX o H s E0 e s' → False)  : IHO CX G (.no) := by
    intro e E sc N all X o h
    unfold chkO at h
    split at h
    · exact po_none
    · cases h
theorem sO_yes (hCX : ∀ o H s e s', CX o H s E0 e s' → False) {c : CE} (iE_c : IHE CX G c) : IHO CX G (.yes c) := by
    intro e E sc N all X o h
    unfold chkO at h
    split at h
    · exact po_some (iE_c _ o h)
    · cases h
theorem sC_no (hCX : ∀ o H s e s', CX o H s E0 e s' → False)  : IHC CX G (.no) := by
    intro e E sc N all X o h
    unfold chkC at h
    split at h
    · exact pts_nil
    · cases h
theorem sC_yes (hCX : ∀ o H s e s', CX o H s E0 e s' → False) {c : CE} (iT_c : IHT CX G c) : IHC CX G (.yes c) := by
    intro e E sc N all X o h
    unfold chkC at h
    split at h
    · exact pts_one (iT_c _ o h)
    · cases h
theorem sG_name (hCX : ∀ o H s e s', CX o H s E0 e s' → False) {i : Nat}  : IHG CX G (.name i) := by
    intro e E sc N all X o h
    unfold chkG at h
    split at h
    · rename_i x p
      rw [Bool.and_eq_true, Bool.or_eq_true, beq_iff_eq, beq_iff_eq, beq_iff_eq] at h
      obtain ⟨h1, h2⟩ := h
      refine pg_name (by rw [o.names]; exact o.nd) (by rw [o.names]; exact h1) ?_ ?_
      · rcases h2 with q | q
        · exact .inl (o.loc x q)
        · exact .inr (o.cel x q)
      · rcases h2 with q | q
        · exact .inr (o.loc x q)
        · exact .inl (o.own x q)
    · cases h
theorem sG_tup (hCX : ∀ o H s e s', CX o H s E0 e s' → False) {gs : CGs} (iGs_gs : IHGs CX G gs) : IHG CX G (.tup gs) := by
    intro e E sc N all X o h
    unfold chkG at h
    split at h
    · obtain ⟨a, b⟩ := chkGs_plain h X.env
      exact pg_tup o.calm (iGs_gs _ o h) a b
    · cases h
theorem sG_sub (hCX : ∀ o H s e s', CX o H s E0 e s' → False) {ob : CE} {i : CE} (iE_ob : IHE CX G ob) (iE_i : IHE CX G i) : IHG CX G (.sub ob i) := by
    intro e E sc N all X o h
    unfold chkG at h
    split at h
    · rename_i o' i' pos
      obtain ⟨h1, h2, h3⟩ := and3 h
      refine pg_sub (iE_ob _ o h2) (iE_i _ o h3) set_list fun v => ?_
      cases i' <;> first
        | rfl
        | (exact absurd h1 (by simp [isSlice]))
    · cases h
theorem sGs_nil (hCX : ∀ o H s e s', CX o H s E0 e s' → False)  : IHGs CX G (.nil) := by
    intro es E sc N all X o h
    rw [chkGs_nil h]
    exact pgs_nil
theorem sGs_cons (hCX : ∀ o H s e s', CX o H s E0 e s' → False) {c : CG} {r : CGs} (iG_c : IHG CX G c) (iGs_r : IHGs CX G r) : IHGs CX G (.cons c r) := by
    intro es E sc N all X o h
    obtain ⟨e', r', rfl, h1, h2⟩ := chkGs_cons h
    exact pgs_cons (iG_c _ o h1) (iGs_r _ o h2) (by rw [notStarG h1]; rfl)
theorem sI_seq (hCX : ∀ o H s e s', CX o H s E0 e s' → False) {c : CE} (iE_c : IHE CX G c) : IHI CX G (.seq c) := by
    intro e tg E sc N all X o h
    unfold chkI at h
    exact pi_any (iE_c _ o h)
theorem sI_lseq (hCX : ∀ o H s e s', CX o H s E0 e s' → False) {c : CE} (iE_c : IHE CX G c) : IHI CX G (.lseq c) := by
    intro e tg E sc N all X o h
    unfold chkI at h
    exact pi_list (iE_c _ o h)
theorem sI_tseq (hCX : ∀ o H s e s', CX o H s E0 e s' → False) {c : CE} (iE_c : IHE CX G c) : IHI CX G (.tseq c) := by
    intro e tg E sc N all X o h
    unfold chkI at h
    exact pi_tup (iE_c _ o h)
theorem sI_range1 (hCX : ∀ o H s e s', CX o H s E0 e s' → False) {c : CE} (iE_c : IHE CX G c) : IHI CX G (.range1 c) := by
    intro e tg E sc N all X o h
    unfold chkI at h
    split at h
    · obtain ⟨h1, h2, h3⟩ := and3 h
      rw [decide_eq_true_eq] at h1
      subst h1
      exact pi_range1 (o.gl h2) (o.blt _ (by decide +kernel)) (pa_cons (iE_c _ o h3) pa_nil (not_star h3 _ _)) (not_star h3 _ _)
    · cases h
theorem sI_range2 (hCX : ∀ o H s e s', CX o H s E0 e s' → False) {a : CE} {b : CE} (iE_a : IHE CX G a) (iE_b : IHE CX G b) : IHI CX G (.range2 a b) := by
    intro e tg E sc N all X o h
    unfold chkI at h
    split at h
    · rw [Bool.and_eq_true] at h
      obtain ⟨h, h4⟩ := h
      obtain ⟨h1, h2, h3⟩ := and3 h
      rw [decide_eq_true_eq] at h1
      subst h1
      exact pi_range2 (o.gl h2) (o.blt _ (by decide +kernel)) (pa_cons (iE_a _ o h3) (pa_cons (iE_b _ o h4) pa_nil (not_star h4 _ _)) (not_star h3 _ _)) (by rw [not_star h3, not_star h4]; rfl) (not_star h4 _ _)
    · cases h
theorem sI_enum (hCX : ∀ o H s e s', CX o H s E0 e s' → False) {c : CE} (iE_c : IHE CX G c) : IHI CX G (.enum c) := by
    intro e tg E sc N all X o h
    unfold chkI at h
    split at h
    · rw [Bool.and_eq_true] at h
      obtain ⟨h, h4⟩ := h
      obtain ⟨h1, h2, h3⟩ := and3 h
      rw [decide_eq_true_eq] at h1
      subst h1
      cases tg <;> first
        | exact pi_enum (o.gl h2) (o.blt _ (by decide +kernel)) (iE_c _ o h3) (not_star h3 _ _)
        | (exact absurd h4 (by simp [isTupE]))
    · cases h
theorem sI_zip (hCX : ∀ o H s e s', CX o H s E0 e s' → False) {a b : CE} (iE_a : IHE CX G a) (iE_b : IHE CX G b) : IHI CX G (.zip a b) := by
    intro e tg E sc N all X o h
    unfold chkI at h
    split at h
    · simp only [Bool.and_eq_true, decide_eq_true_eq] at h
      obtain ⟨⟨⟨⟨h1, h2⟩, h3⟩, h4⟩, h5⟩ := h
      subst h1
      cases tg <;> first
        | exact pi_zip (o.gl h2) (o.blt _ (by decide +kernel)) (pa_cons (iE_a _ o h3) (pa_cons (iE_b _ o h4) pa_nil (not_star h4 _ _)) (not_star h3 _ _)) (not_star h3 _ _) (by rw [not_star h4]; rfl)
        | (exact absurd h5 (by simp [isTupE]))
    · cases h
theorem sI_zipt (hCX : ∀ o H s e s', CX o H s E0 e s' → False) {a b : CE} (iE_a : IHE CX G a) (iE_b : IHE CX G b) : IHI CX G (.zipt a b) := by
    intro e tg E sc N all X o h
    unfold chkI at h
    split at h
    · simp only [Bool.and_eq_true, decide_eq_true_eq] at h
      obtain ⟨⟨⟨⟨h1, h2⟩, h3⟩, h4⟩, h5⟩ := h
      subst h1
      cases tg <;> first
        | exact pi_zipT (o.gl h2) (o.blt _ (by decide +kernel)) (pa_cons (iE_a _ o h3) (pa_cons (iE_b _ o h4) pa_nil (not_star h4 _ _)) (not_star h3 _ _)) (not_star h3 _ _) (by rw [not_star h4]; rfl)
        | (exact absurd h5 (by simp [isTupE]))
    · cases h
mutual
theorem soundE (hCX : ∀ o H s e s', CX o H s E0 e s' → False) : ∀ c : CE, IHE CX G c
  | .var i => sE_var hCX
  | .con c => sE_con hCX
  | .glo x => sE_glo hCX
  | .ty t => sE_ty hCX
  | .bin op a b => sE_bin hCX (soundE hCX a) (soundE hCX b)
  | .un op a => sE_un hCX (soundE hCX a)
  | .cmp op a b => sE_cmp hCX (soundE hCX a) (soundE hCX b)
  | .chain o1 o2 a b c => sE_chain hCX (soundE hCX a) (soundE hCX b) (soundE hCX c)
  | .not a => sE_not hCX (soundE hCX a)
  | .and a b => sE_and hCX (soundE hCX a) (soundE hCX b)
  | .or a b => sE_or hCX (soundE hCX a) (soundE hCX b)
  | .ite c a b => sE_ite hCX (soundT hCX c) (soundE hCX a) (soundE hCX b)
  | .idx a i => sE_idx hCX (soundE hCX a) (soundE hCX i)
  | .cut a lo hi => sE_cut hCX (soundE hCX a) (soundO hCX lo) (soundO hCX hi)
  | .tup es => sE_tup hCX (soundL hCX es)
  | .lst es => sE_lst hCX (soundL hCX es)
  | .dic ps => sE_dic hCX (soundP hCX ps)
  | .call f es => sE_call hCX (soundL hCX es)
  | .bfn b es => sE_bfn hCX (soundL hCX es)
  | .meth0 m b => sE_meth0 hCX (soundE hCX b)
  | .meth1 m b a => sE_meth1 hCX (soundE hCX b) (soundE hCX a)
  | .join sep a => sE_join hCX (soundE hCX a)
  | .idxd a i => sE_idxd hCX (soundE hCX a) (soundE hCX i)
  | .dicT => sE_dicT hCX
  | .setd b a c => sE_setd hCX (soundE hCX b) (soundE hCX a) (soundE hCX c)
  | .ins b a c => sE_ins hCX (soundE hCX b) (soundE hCX a) (soundE hCX c)
  | .divb a b => sE_divb hCX (soundE hCX a) (soundE hCX b)
  | .split b a => sE_split hCX (soundE hCX b) (soundE hCX a)
  | .upper b => sE_upper hCX (soundE hCX b)
  | .ninG a b => sE_ninG hCX (soundE hCX a) (soundE hCX b)
  | .base x es => sE_base hCX (soundL hCX es)
  | .fld a f => sE_fld hCX (soundE hCX a)
  | .inG a b => sE_inG hCX (soundE hCX a) (soundE hCX b)
  | .idxG a i => sE_idxG hCX (soundE hCX a) (soundE hCX i)
  | .fstr pre post a => sE_fstr hCX (soundE hCX a)
  | .rev a => sE_rev hCX (soundE hCX a)
  | .lrng a => sE_lrng hCX (soundE hCX a)
  | .comp own fr tg it cond elt => sE_comp hCX (soundI hCX it) (soundG hCX tg) (soundC hCX cond) (soundE hCX elt)
theorem soundT (hCX : ∀ o H s e s', CX o H s E0 e s' → False) : ∀ c : CE, IHT CX G c
  | .cmp op a b => sT_cmp hCX (soundE hCX a) (soundE hCX b)
  | .chain o1 o2 a b c => sT_chain hCX (soundE hCX a) (soundE hCX b) (soundE hCX c)
  | .not a => sT_not hCX (soundT hCX a)
  | .and a b => sT_and hCX (soundT hCX a) (soundT hCX b) (soundW hCX b)
  | .or a b => sT_or hCX (soundT hCX a) (soundT hCX b) (soundW hCX b)
  | .var i => sT_var hCX
  | .con c => sT_con hCX
  | .glo x => sT_glo hCX
  | .idx a i => sT_idx hCX (soundE hCX a) (soundE hCX i)
  | .call f es => sT_call hCX (soundL hCX es)
  | .bfn b es => sT_bfn hCX (soundL hCX es)
  | .ite c a b => sT_ite hCX
  | .ty t => sT_ty hCX
  | .bin op a b => sT_bin hCX
  | .un op a => sT_un hCX
  | .cut a lo hi => sT_cut hCX
  | .tup es => sT_tup hCX
  | .lst es => sT_lst hCX
  | .dic ps => sT_dic hCX
  | .meth0 m b => sT_meth0 hCX
  | .meth1 m b a => sT_meth1 hCX
  | .join sep a => sT_join hCX
  | .idxd a i => sT_idxd hCX
  | .dicT => sT_dicT hCX
  | .setd b a c => sT_setd hCX
  | .ins b a c => sT_ins hCX
  | .divb a b => sT_divb hCX
  | .split b a => sT_split hCX
  | .upper b => sT_upper hCX
  | .ninG a b => sT_ninG hCX (soundE hCX a) (soundE hCX b)
  | .base x es => sT_base hCX
  | .fld a f => sT_fld hCX
  | .inG a b => sT_inG hCX
  | .idxG a i => sT_idxG hCX
  | .fstr pre post a => sT_fstr hCX
  | .rev a => sT_rev hCX
  | .lrng a => sT_lrng hCX
  | .comp own fr tg it cond elt => sT_comp hCX
theorem soundW (hCX : ∀ o H s e s', CX o H s E0 e s' → False) : ∀ c : CE, IHW CX G c
  | .and a b => sW_and hCX (soundT hCX a) (soundT hCX b) (soundW hCX b)
  | .or a b => sW_or hCX (soundT hCX a) (soundT hCX b) (soundW hCX b)
  | .var i => sW_var hCX
  | .con c => sW_con hCX
  | .glo x => sW_glo hCX
  | .ty t => sW_ty hCX
  | .bin op a b => sW_bin hCX
  | .un op a => sW_un hCX
  | .cmp op a b => sW_cmp hCX
  | .chain o1 o2 a b c => sW_chain hCX
  | .not a => sW_not hCX
  | .ite c a b => sW_ite hCX
  | .idx a i => sW_idx hCX
  | .cut a lo hi => sW_cut hCX
  | .tup es => sW_tup hCX
  | .lst es => sW_lst hCX
  | .dic ps => sW_dic hCX
  | .call f es => sW_call hCX
  | .bfn b es => sW_bfn hCX
  | .meth0 m b => sW_meth0 hCX
  | .meth1 m b a => sW_meth1 hCX
  | .join sep a => sW_join hCX
  | .idxd a i => sW_idxd hCX
  | .dicT => sW_dicT hCX
  | .setd b a c => sW_setd hCX
  | .ins b a c => sW_ins hCX
  | .divb a b => sW_divb hCX
  | .split b a => sW_split hCX
  | .upper b => sW_upper hCX
  | .ninG a b => sW_ninG hCX
  | .base x es => sW_base hCX
  | .fld a f => sW_fld hCX
  | .inG a b => sW_inG hCX
  | .idxG a i => sW_idxG hCX
  | .fstr pre post a => sW_fstr hCX
  | .rev a => sW_rev hCX
  | .lrng a => sW_lrng hCX
  | .comp own fr tg it cond elt => sW_comp hCX
theorem soundL (hCX : ∀ o H s e s', CX o H s E0 e s' → False) : ∀ c : CL, IHL CX G c
  | .nil => sL_nil hCX
  | .cons c r => sL_cons hCX (soundE hCX c) (soundL hCX r)
theorem soundP (hCX : ∀ o H s e s', CX o H s E0 e s' → False) : ∀ c : CP, IHP CX G c
  | .nil => sP_nil hCX
  | .cons k v r => sP_cons hCX (soundP hCX r) (soundE hCX k) (soundE hCX v)
theorem soundO (hCX : ∀ o H s e s', CX o H s E0 e s' → False) : ∀ c : CO, IHO CX G c
  | .no => sO_no hCX
  | .yes c => sO_yes hCX (soundE hCX c)
theorem soundC (hCX : ∀ o H s e s', CX o H s E0 e s' → False) : ∀ c : CO, IHC CX G c
  | .no => sC_no hCX
  | .yes c => sC_yes hCX (soundT hCX c)
theorem soundG (hCX : ∀ o H s e s', CX o H s E0 e s' → False) : ∀ c : CG, IHG CX G c
  | .name i => sG_name hCX
  | .tup gs => sG_tup hCX (soundGs hCX gs)
  | .sub ob i => sG_sub hCX (soundE hCX ob) (soundE hCX i)
theorem soundGs (hCX : ∀ o H s e s', CX o H s E0 e s' → False) : ∀ c : CGs, IHGs CX G c
  | .nil => sGs_nil hCX
  | .cons c r => sGs_cons hCX (soundG hCX c) (soundGs hCX r)
theorem soundI (hCX : ∀ o H s e s', CX o H s E0 e s' → False) : ∀ c : CI, IHI CX G c
  | .seq c => sI_seq hCX (soundE hCX c)
  | .lseq c => sI_lseq hCX (soundE hCX c)
  | .tseq c => sI_tseq hCX (soundE hCX c)
  | .range1 c => sI_range1 hCX (soundE hCX c)
  | .range2 a b => sI_range2 hCX (soundE hCX a) (soundE hCX b)
  | .enum c => sI_enum hCX (soundE hCX c)
  | .zip a b => sI_zip hCX (soundE hCX a) (soundE hCX b)
  | .zipt a b => sI_zipt hCX (soundE hCX a) (soundE hCX b)
end
end
end R
namespace R
open PySem PySem.Spec PyProof.Rows L2
section
variable {CX : CXT} {G : Gam}
theorem no_swapped {sc : Scope} {N : List Str} {all : Bool} {g : CG} {tg e : Expr} (h : chkG sc N all g tg = true) (hn : (isTupE tg && isTupE e) = false) (env : Env) : swappedStores [tg] e env = pure none := by
  cases tg with
  | Tuple es k p =>
    cases e <;> first
      | rfl
      | (exact absurd hn (by simp [isTupE]))
  | List es p => cases g <;> exact absurd h (by simp [chkG])
  | _ => rfl
theorem swaps_false {a : Expr} {b : List Comprehension} {c : Scope} {d p : Pos} {x : Str} {l : Nat} {env : Env} (h : env.kindOf x ≠ some .local) : swapsWith (.ListComp a b c d) (some (.Name x p)) l env = pure false := by
  show (pure (env.blockKind == .function && env.kindOf x == some .local && p.line == d.line && !(c.names.any fun (n, k) => n == x && (k == .local || k == .cell))) : Sem Bool) = pure false
  have e : (env.kindOf x == some NameKind.local) = false := by simpa using h
  rw [e, Bool.and_false, Bool.false_and, Bool.false_and]
theorem swaps_true {a : Expr} {b : List Comprehension} {c : Scope} {d p : Pos} {x : Str} {l : Nat} {env : Env} (hk : env.scope.kind = .function) (h : env.kindOf x = some .local) (hl : p.line = d.line)
    (hn : (c.names.any fun y => decide (y.1 = x) && (decide (y.2 = .local) || decide (y.2 = .cell))) = false) : swapsWith (.ListComp a b c d) (some (.Name x p)) l env = pure true := by
  show (pure (env.blockKind == .function && env.kindOf x == some .local && p.line == d.line && !(c.names.any fun (n, k) => n == x && (k == .local || k == .cell))) : Sem Bool) = pure true
  have e1 : env.blockKind = .function := by unfold Env.blockKind; rw [hk]; rfl
  have e2 : (c.names.any fun (n, k) => n == x && (k == NameKind.local || k == NameKind.cell)) = false := by
    rw [← hn]
    congr 1
  rw [e1, h, hl, e2]
  simp
theorem comp_shape {sc : Scope} {N : List Str} {c : CE} {a : Expr} {b : List Comprehension} {s : Scope} {d : Pos} (h : chkE sc N c (.ListComp a b s d) = true) : ∃ own fr tg it cond elt, c = .comp own fr tg it cond elt := by
  cases c with
  | comp own fr tg it cond elt => exact ⟨_, _, _, _, _, _, rfl⟩
  | _ => exact absurd h (by simp [chkE])
theorem no_swapS {e : Expr} (h : isComp e = false) (tg : Expr) (l : Nat) (env : Env) : swapsWithSole [tg] e l env = pure false := by
  unfold swapsWithSole
  exact no_swap h _ _ _
structure OkL (G : Gam) (sc : Scope) (N : List Str) (X : Cx) : Prop where
  names : X.N = N
  nd : N.Nodup
  loc : ∀ x, sc.names.lookup x = some .local → X.env.scope.names.lookup x = some .local
  cel : ∀ x, sc.names.lookup x = some .cell → X.env.scope.names.lookup x = some .cell
  fre : ∀ x, sc.names.lookup x = some .free → X.env.scope.names.lookup x = some .cell ∨ X.env.scope.names.lookup x = some .free
  glo : ∀ x, sc.names.lookup x = some .globalImplicit → X.env.scope.names.lookup x = some .globalImplicit
  all : ∀ x, X.fn x = true
  val : ∀ x v, G.val x = some v → ∃ u, X.mg x = some u ∧ RelV v u
  blt : ∀ x ∈ bltNames, X.mg x = none
theorem OkL.vis {sc : Scope} {N : List Str} {X : Cx} (o : OkL G sc N X) {x : Str} (h : isVis sc x = true) : Vis X.env.scope x := by
  unfold isVis at h
  rw [Bool.or_eq_true, Bool.or_eq_true, beq_iff_eq, beq_iff_eq, beq_iff_eq] at h
  rcases h with (h | h) | h
  · exact .inl (o.loc x h)
  · exact .inr (.inl (o.cel x h))
  · rcases o.fre x h with q | q
    · exact .inr (.inl q)
    · exact .inr (.inr q)
theorem OkL.gl {sc : Scope} {N : List Str} {X : Cx} (o : OkL G sc N X) {x : Str} (h : isGl sc x = true) : Gl X x := by
  unfold isGl at h
  rw [beq_iff_eq] at h
  exact o.glo x h
theorem isi_ok {X : Cx} : CallR X (.builtin "isinstance") (rBf X.K .isinstance) := call_isinst.or (call_isinstC.or call_isinstX)
mutual
theorem liteE_ok : ∀ (c : CE) (e : Expr) {E : XS} {sc : Scope} {N : List Str} {X : Cx}, OkL G sc N X → liteE c = true → chkE sc N c e = true → PE X e (wpE G X.K E c)
  | .var i, e, E, sc, N, X, o, l, h => by
    unfold chkE at h
    split at h
    · obtain ⟨h1, h2, h3⟩ := and3 h
      obtain ⟨d1, d2⟩ := okVar_of h3
      skip
      exact pe_var (by rw [o.names]; exact beq_iff_eq.mp h1) (o.vis h2) d1 d2
    · cases h
  | .con c, e, E, sc, N, X, o, l, h => by
    unfold chkE at h
    split at h
    · rw [Bool.and_eq_true, decide_eq_true_eq] at h
      obtain ⟨h1, rfl⟩ := h
      skip
      cases c with
      | none => exact pe_non
      | bool b => exact pe_bl
      | int i => exact pe_int
      | str x => exact pe_str
      | _ => exact absurd h1 (by simp [okCon])
    · cases h
  | .glo x, e, E, sc, N, X, o, l, h => by
    unfold chkE at h
    split at h
    · obtain ⟨h1, h2, h3⟩ := and3 h
      rw [decide_eq_true_eq] at h1
      subst h1
      skip
      intro pins s σ H Q I hw
      obtain ⟨v, hv, q⟩ := hw
      obtain ⟨u, hu, r⟩ := o.val _ _ hv
      exact pe_glob (o.gl h2) hu r (okVar_of h3).1 pins s σ H Q I q
    · cases h
  | .ty t, e, E, sc, N, X, o, l, h => by
    unfold chkE at h
    split at h
    · rw [Bool.and_eq_true, decide_eq_true_eq] at h
      obtain ⟨h1, h2⟩ := h
      subst h1
      skip
      exact pe_bltn (o.gl h2) (o.blt _ t.mem) t.boot rfl t.plain.1 t.plain.2
    · cases h
  | .lst es, e, E, sc, N, X, o, l, h => by
    unfold chkE at h
    split at h
    · skip
      exact pe_lst (liteL_ok es _ o l h)
    · cases h
  | .tup es, e, E, sc, N, X, o, l, h => by
    unfold chkE at h
    split at h
    · skip
      exact pe_tup (liteL_ok es _ o l h)
    · cases h
  | .bfn .isinstance es, e, E, sc, N, X, o, l, h => by
    unfold chkE at h
    split at h
    · rename_i f' np e1 es' pos
      obtain ⟨h1, h2, h3⟩ := and3 h
      rw [decide_eq_true_eq] at h1
      subst h1
      skip
      have hL := liteL_ok es _ (E := E) o l h3
      have hs : starEach (e1 :: es') X.env = (false, eval e1 X.env) :: starEach es' X.env ∧ (backTo pos (starEach es' X.env)).any (·.1) = false := by
        cases es with
        | nil => exact absurd (chkL_nil h3) (by simp)
        | cons c r =>
          obtain ⟨e1', r1, q, g1, g2⟩ := chkL_cons h3
          cases q
          exact ⟨not_star g1 _ _, chkL_plain g2 _ _⟩
      exact pe_callB isi_ok (o.gl h2) (o.blt _ (Bf.mem _)) (Bf.boot .isinstance) hL (Bf.plain _).1 (Bf.plain _).2 hs.1 hs.2
    · cases h
  | .bfn .isx es, e, E, sc, N, X, o, l, h => by
    unfold chkE at h
    split at h
    · rename_i f' np e1 es' pos
      obtain ⟨h1, h2, h3⟩ := and3 h
      rw [decide_eq_true_eq] at h1
      subst h1
      skip
      have hL := liteL_ok es _ (E := E) o l h3
      have hs : starEach (e1 :: es') X.env = (false, eval e1 X.env) :: starEach es' X.env ∧ (backTo pos (starEach es' X.env)).any (·.1) = false := by
        cases es with
        | nil => exact absurd (chkL_nil h3) (by simp)
        | cons c r =>
          obtain ⟨e1', r1, q, g1, g2⟩ := chkL_cons h3
          cases q
          exact ⟨not_star g1 _ _, chkL_plain g2 _ _⟩
      exact pe_callB call_isinstD (o.gl h2) (o.blt _ (Bf.mem _)) (Bf.boot .isx) hL (Bf.plain _).1 (Bf.plain _).2 hs.1 hs.2
    · cases h
  | .fld a f, e, E, sc, N, X, o, l, h => by
    unfold chkE at h
    split at h
    · rw [Bool.and_eq_true, decide_eq_true_eq] at h
      obtain ⟨h1, h2⟩ := h
      subst h1
      skip
      exact pe_fldX (liteE_ok a _ o l h2)
    · cases h
  | .bfn .len _, _, _, _, _, _, _, l, _ => nomatch l
  | .bfn .all _, _, _, _, _, _, _, l, _ => nomatch l
  | .bfn .any _, _, _, _, _, _, _, l, _ => nomatch l
  | .bfn .list _, _, _, _, _, _, _, l, _ => nomatch l
  | .bfn .tuple _, _, _, _, _, _, _, l, _ => nomatch l
  | .bfn .sorted _, _, _, _, _, _, _, l, _ => nomatch l
  | .bfn .set _, _, _, _, _, _, _, l, _ => nomatch l
  | .bfn .min _, _, _, _, _, _, _, l, _ => nomatch l
  | .bfn .max _, _, _, _, _, _, _, l, _ => nomatch l
  | .bfn .sum _, _, _, _, _, _, _, l, _ => nomatch l
  | .bfn .int _, _, _, _, _, _, _, l, _ => nomatch l
  | .bfn .lend _, _, _, _, _, _, _, l, _ => nomatch l
  | .bfn .sorti _, _, _, _, _, _, _, l, _ => nomatch l
  | .bfn .sortp _, _, _, _, _, _, _, l, _ => nomatch l
  | .bfn .setp _, _, _, _, _, _, _, l, _ => nomatch l
  | .bfn .strI _, _, _, _, _, _, _, l, _ => nomatch l
  | .bfn .intS _, _, _, _, _, _, _, l, _ => nomatch l
  | .meth0 _ _, _, _, _, _, _, _, l, _ => nomatch l
  | .meth1 _ _ _, _, _, _, _, _, _, l, _ => nomatch l
  | .join _ _, _, _, _, _, _, _, l, _ => nomatch l
  | .idxd _ _, _, _, _, _, _, _, l, _ => nomatch l
  | .dicT, _, _, _, _, _, _, l, _ => nomatch l
  | .setd _ _ _, _, _, _, _, _, _, l, _ => nomatch l
  | .ins _ _ _, _, _, _, _, _, _, l, _ => nomatch l
  | .divb _ _, _, _, _, _, _, _, l, _ => nomatch l
  | .split _ _, _, _, _, _, _, _, l, _ => nomatch l
  | .base _ _, _, _, _, _, _, _, l, _ => nomatch l
  | .upper _, _, _, _, _, _, _, l, _ => nomatch l
  | .ninG _ _, _, _, _, _, _, _, l, _ => nomatch l
  | .inG _ _, _, _, _, _, _, _, l, _ => nomatch l
  | .idxG _ _, _, _, _, _, _, _, l, _ => nomatch l
  | .fstr _ _ _, _, _, _, _, _, _, l, _ => nomatch l
  | .rev _, _, _, _, _, _, _, l, _ => nomatch l
  | .lrng _, _, _, _, _, _, _, l, _ => nomatch l
  | .bin op a b, e, E, sc, N, X, o, l, h => by
    have l' : (liteE a && liteE b) = true := l
    rw [Bool.and_eq_true] at l'
    unfold chkE at h
    split at h
    · obtain ⟨h1, h2, h3⟩ := and3 h
      rw [decide_eq_true_eq] at h1
      subst h1
      skip
      exact pe_op (rBin_ok op) (liteE_ok a _ o l'.1 h2) (liteE_ok b _ o l'.2 h3)
    · cases h
  | .un _ _, _, _, _, _, _, _, l, _ => nomatch l
  | .cmp _ _ _, _, _, _, _, _, _, l, _ => nomatch l
  | .chain _ _ _ _ _, _, _, _, _, _, _, l, _ => nomatch l
  | .not _, _, _, _, _, _, _, l, _ => nomatch l
  | .and _ _, _, _, _, _, _, _, l, _ => nomatch l
  | .or _ _, _, _, _, _, _, _, l, _ => nomatch l
  | .ite _ _ _, _, _, _, _, _, _, l, _ => nomatch l
  | .idx _ _, _, _, _, _, _, _, l, _ => nomatch l
  | .cut _ _ _, _, _, _, _, _, _, l, _ => nomatch l
  | .dic _, _, _, _, _, _, _, l, _ => nomatch l
  | .call _ _, _, _, _, _, _, _, l, _ => nomatch l
  | .comp _ _ _ _ _ _, _, _, _, _, _, _, l, _ => nomatch l
theorem liteL_ok : ∀ (c : CL) (es : List Expr) {E : XS} {sc : Scope} {N : List Str} {X : Cx}, OkL G sc N X → liteL c = true → chkL sc N c es = true → PA X es (wpL G X.K E c)
  | .nil, es, E, sc, N, X, o, l, h => by
    rw [chkL_nil h]
    skip
    exact pa_nil
  | .cons c r, es, E, sc, N, X, o, l, h => by
    obtain ⟨e', r', rfl, h1, h2⟩ := chkL_cons h
    have l' : (liteE c && liteL r) = true := l
    rw [Bool.and_eq_true] at l'
    skip
    exact pa_cons (liteE_ok c _ o l'.1 h1) (liteL_ok r _ o l'.2 h2) (not_star h1 _ _)
end
theorem liteB_ok : ∀ (c : CB) (st : List Stmt) {E : XS} {sc : Scope} {N : List Str} {X : Cx}, OkL G sc N X → liteB c = true → chkB sc N c st = true → PSs X st (wpB G X.K E c)
  | .hole, _, _, _, _, _, _, l, _ => nomatch l
  | .nil, st, E, sc, N, X, o, l, h => by
    unfold chkB at h
    split at h
    · skip
      exact pss_nil
    · cases h
  | .cons s r, st, E, sc, N, X, o, l, h => by
    have l' : (liteS s && liteB r) = true := l
    rw [Bool.and_eq_true] at l'
    obtain ⟨l1, l2⟩ := l'
    unfold chkB at h
    split at h
    case h_2 => cases h
    rw [Bool.and_eq_true] at h
    skip
    refine pss_cons ?_ (liteB_ok r _ o l2 h.2)
    cases s with
    | asg g e =>
      cases g with
      | name i =>
        have h1 := h.1
        unfold chkS at h1
        split at h1
        · rw [Bool.and_eq_true] at h1
          obtain ⟨g1, g2, g3⟩ := and3 h1.1
          skip
          have g1' := g1
          unfold chkG at g1
          split at g1
          · rename_i x p
            simp only [Bool.and_eq_true, Bool.or_eq_true, beq_iff_eq, Bool.true_and] at g1
            refine ps_asg (liteE_ok e _ o l1 g2) ?_ (no_swapS (nott g3) _ _ _) rfl rfl
            refine pg_name (by rw [o.names]; exact o.nd) (by rw [o.names]; exact g1.1) ?_ (.inl (o.all x))
            rcases g1.2 with q | q
            · exact .inl (o.loc x q)
            · exact .inr (o.cel x q)
          · cases g1
        · cases h1
      | _ => nomatch l1
    | ret e =>
      have h1 := h.1
      unfold chkS at h1
      split at h1
      · skip
        exact ps_ret (liteE_ok e _ o l1 h1)
      · cases h1
    | pass =>
      have h1 := h.1
      unfold chkS at h1
      split at h1
      · skip
        exact ps_pass
      · cases h1
    | _ => nomatch l1
mutual
theorem soundS (hCX : ∀ o H s e s', CX o H s E0 e s' → False) : ∀ (c : CS) (st : Stmt) {E : XS} {sc : Scope} {N : List Str} {X : Cx}, Ok CX G E sc N true X → (∀ pins σ H s, Inv X pins σ H s → X.env.scope.kind = .function) → chkS sc N c st = true → PS X st (wpS G X.K E c)
  | .asg g e, st, E, sc, N, X, o, hk, h => by
    unfold chkS at h
    split at h
    · rw [Bool.and_eq_true] at h
      obtain ⟨h, h4⟩ := h
      obtain ⟨h1, h2, h3⟩ := and3 h
      skip
      exact ps_asg (soundE hCX e _ o h2) (soundG hCX g _ o h1) (no_swap (nott h3) _ _ _) (no_swapped h1 (nott h4) _) (by rw [notStarG h1]; rfl)
    · cases h
  | .asgc i e, st, E, sc, N, X, o, hk, h => by
    unfold chkS at h
    split at h
    · rename_i x p a b c d sp
      simp only [Bool.and_eq_true, Bool.or_eq_true, beq_iff_eq, decide_eq_true_eq] at h
      obtain ⟨⟨⟨h1, h2⟩, h3⟩, h4⟩ := h
      skip
      obtain ⟨own, fr, tg, it, cond, elt, rfl⟩ := comp_shape h3
      by_cases hl : X.env.scope.names.lookup x = some .local
      · have h4' : p.line = d.line ∧ (!(c.names.any fun y => decide (y.1 = x) && (decide (y.2 = .local) || decide (y.2 = .cell)))) = true := by
          rcases h4 with q | q
          · rw [o.cel x q] at hl; cases hl
          · exact q
        unfold chkE at h3
        split at h3
        · rename_i elt' tg' it' ifs' sc' pos heq
          cases heq
          simp only [Bool.and_eq_true] at h3
          obtain ⟨⟨⟨⟨⟨g1, g2⟩, g3⟩, g4⟩, g5⟩, g6⟩ := h3
          have S := scopeOk_of g1
          skip
          intro pins s σ H D I hw
          exact ps_setComp (S.comp o) (S.mkOk o) o.calm (soundI hCX it _ _ o g3)
            (fun C s₀ H₀ fp _ => ⟨soundG hCX tg _ (o.comp hCX S C s₀ H₀ fp) g4, soundC hCX cond _ (o.comp hCX S C s₀ H₀ fp) g5, soundE hCX elt _ (o.comp hCX S C s₀ H₀ fp) g6⟩)
            (by rw [o.names]; exact o.nd) (by rw [o.names]; exact h1) hl (swaps_true (hk pins σ H s I) hl h4'.1 (nott h4'.2)) (not_set (nott g2) _) pins s σ H D I hw
        · cases h3
      · have hc : sc.names.lookup x = some .cell := by
          rcases h2 with q | q
          · exact absurd (o.loc x q) hl
          · exact q
        exact ps_set (by rw [o.names]; exact o.nd) (by rw [o.names]; exact h1) (.inr (o.cel x hc)) (soundE hCX _ _ o h3) (swaps_false (by rw [show X.env.kindOf x = _ from o.cel x hc]; decide)) (.inl (o.all rfl x))
    · cases h
  | .expr e, st, E, sc, N, X, o, hk, h => by
    unfold chkS at h
    split at h
    · rw [Bool.and_eq_true] at h
      skip
      exact ps_expr (soundE hCX e _ o h.1) (no_swap (nott h.2) _ _ _)
    · cases h
  | .iff c a b, st, E, sc, N, X, o, hk, h => by
    unfold chkS at h
    split at h
    · obtain ⟨h1, h2, h3⟩ := and3 h
      skip
      exact ps_if (soundT hCX c _ o h1) (soundB hCX a _ o hk h2) (soundB hCX b _ o hk h3)
    · cases h
  | .whl c b, st, E, sc, N, X, o, hk, h => by
    exact absurd (show false = true from h) Bool.false_ne_true
  | .forr g it b, st, E, sc, N, X, o, hk, h => by
    unfold chkS at h
    split at h
    · rw [Bool.and_eq_true] at h
      obtain ⟨h, h4⟩ := h
      obtain ⟨h1, h2, h3⟩ := and3 h
      skip
      exact ps_for o.px o.calm (soundI hCX it _ _ o h2) (soundG hCX g _ o h1) (soundB hCX b _ o hk h4) (not_set (nott h3) _)
    · cases h
  | .ret e, st, E, sc, N, X, o, hk, h => by
    unfold chkS at h
    split at h
    · skip
      exact ps_ret (soundE hCX e _ o h)
    · cases h
  | .retN, st, E, sc, N, X, o, hk, h => by
    unfold chkS at h
    split at h
    · skip
      exact ps_retN
    · cases h
  | .rais x es, st, E, sc, N, X, o, hk, h => by
    unfold chkS at h
    split at h
    · rename_i x' np e' es' cp p
      rw [Bool.and_eq_true] at h
      obtain ⟨h, h4⟩ := h
      obtain ⟨h1, h2, h3⟩ := and3 h
      rw [decide_eq_true_eq] at h1
      subst h1
      skip
      intro pins s σ H D I hw
      obtain ⟨C, hv, hkp, hq, hw⟩ := hw
      obtain ⟨u, hu, ru⟩ := o.val _ _ hv
      obtain rfl : u = Value.ref C := ru
      have hL := soundL hCX es _ o h4
      have hs : starEach (e' :: es') X.env = (false, eval e' X.env) :: starEach es' X.env ∧ (backTo cp (starEach es' X.env)).any (·.1) = false := by
        cases es with
        | nil => exact absurd (chkL_nil h4) (by simp)
        | cons c r =>
          obtain ⟨e1', r1, q, g1, g2⟩ := chkL_cons h4
          cases q
          exact ⟨not_star g1 _ _, chkL_plain g2 _ _⟩
      exact ps_raise (o.gl h2) hu hkp hq hL o.calm (okVar_of h3).1 hs.1 hs.2 o.made pins s σ H D I hw
    · cases h
  | .raisX x es, st, E, sc, N, X, o, hk, h => by
    unfold chkS at h
    split at h
    · rename_i x' np e' es' cp p
      rw [Bool.and_eq_true] at h
      obtain ⟨h, h4⟩ := h
      obtain ⟨h1, h2, h3⟩ := and3 h
      rw [decide_eq_true_eq] at h1
      subst h1
      skip
      intro pins s σ H D I hw
      obtain ⟨C, sp, dvs, hv, hw⟩ := hw
      obtain ⟨f, fd, ps, ds, k, hM, F, hr, hu, hb, hd⟩ := o.ini _ _ _ _ _ hv
      have hL := soundL hCX es _ o h4
      have hs : starEach (e' :: es') X.env = (false, eval e' X.env) :: starEach es' X.env ∧ (backTo cp (starEach es' X.env)).any (·.1) = false := by
        cases es with
        | nil => exact absurd (chkL_nil h4) (by simp)
        | cons c r =>
          obtain ⟨e1', r1, q, g1, g2⟩ := chkL_cons h4
          cases q
          exact ⟨not_star g1 _ _, chkL_plain g2 _ _⟩
      exact ps_raiseX hM F hr hb hd o.pass (o.gl h2) hu hL o.calm (okVar_of h3).1 hs.1 hs.2 o.madeX pins s σ H D I hw
    · cases h
  | .fldX a f e, st, E, sc, N, X, o, hk, h => by
    unfold chkS at h
    split at h
    · simp only [Bool.and_eq_true, decide_eq_true_eq] at h
      obtain ⟨⟨⟨h1, h2⟩, h3⟩, h4⟩ := h
      subst h1
      skip
      exact ps_fldX (soundE hCX a _ o h2) (soundE hCX e _ o h3) (no_swap (nott h4) _ _ _)
    · cases h
  | .tryc x i b su, st, E, sc, N, X, o, hk, h => by
    unfold chkS at h
    split at h
    · rename_i b' x' np n s0 ss hp p
      simp only [Bool.and_eq_true, decide_eq_true_eq, beq_iff_eq] at h
      obtain ⟨⟨⟨⟨⟨⟨⟨h1, h2⟩, h3⟩, h4⟩, h5⟩, h6⟩, h7⟩, h8⟩ := h
      subst h1
      skip
      obtain ⟨t1, t2, t3⟩ := o.top rfl
      intro pins s σ H D I hw
      obtain ⟨C, hv, hw⟩ := hw
      obtain ⟨u, hu, ru⟩ := o.val _ _ hv
      obtain rfl : u = Value.ref C := ru
      have O : TryOk X x n C i (s0 :: ss) (wpB G X.K N0 su) :=
        { nd := by rw [o.names]; exact o.nd, at_ := by rw [o.names]; exact h4, loc := o.loc n h5, gl := o.gl h2, mg := hu, db := (okVar_of h3).1, stk := t1, fr := t2, ex := t3
          su := fun pins a => liteB_ok su _ (X := X.re (X.A.mark (some (.ref a))) false (X.pn ++ pins) (fun _ _ => False)) ⟨o.names, o.nd, o.loc, o.cel, o.fre, o.glo, o.all rfl, o.val, o.blt⟩ h6 h7 }
      exact ps_try (X := X) (tb := fun D => wpB G X.K (eCatch X.K C i (wpB G X.K N0 su) D) b) (fun pins D ok => soundB hCX b _ (X := X.re X.A X.calm (X.pn ++ pins) (wCatch X pins D [.ExceptHandler (some (.Name x np)) (some n) (s0 :: ss) hp]))
        { names := o.names, top := fun _ => ⟨t1, t2, t3⟩, nd := o.nd, loc := o.loc, cel := o.cel, fre := o.fre, glo := o.glo, all := o.all, own := o.own, calm := o.calm, hu := o.hu, val := o.val, fn := o.fn, ini := o.ini, dic := o.dic, blt := o.blt, px := PassesOwn.looking
          pass := fun pins' σ' H' s' e s'' J z => try_pass O ok o.calm J (by rw [o.cx] at z; exact z)
          made := fun pins' σ' H' s' a c args h' J hm z => try_made O ok J hm z
          madeX := fun pins' σ' H' s' a C' d J m z => try_madeX O ok J m z
          cx := o.cx } (fun _ _ _ _ J => J.ok.kind) h8) pins s σ H D I hw
    · cases h
  | .pass, st, E, sc, N, X, o, hk, h => by
    unfold chkS at h
    split at h
    · skip
      exact ps_pass
    · cases h
  | .brk, st, E, sc, N, X, o, hk, h => by
    unfold chkS at h
    split at h
    · skip
      exact ps_break
    · cases h
  | .cont, st, E, sc, N, X, o, hk, h => by
    unfold chkS at h
    split at h
    · skip
      exact ps_continue
    · cases h
theorem soundB (hCX : ∀ o H s e s', CX o H s E0 e s' → False) : ∀ (c : CB) (st : List Stmt) {E : XS} {sc : Scope} {N : List Str} {X : Cx}, Ok CX G E sc N true X → (∀ pins σ H s, Inv X pins σ H s → X.env.scope.kind = .function) → chkB sc N c st = true → PSs X st (wpB G X.K E c)
  | .hole, _, _, _, _, _, _, _, _ => fun _ _ _ _ _ _ z => z.elim
  | .nil, st, E, sc, N, X, o, hk, h => by
    unfold chkB at h
    split at h
    · skip
      exact pss_nil
    · cases h
  | .cons s r, st, E, sc, N, X, o, hk, h => by
    unfold chkB at h
    split at h
    · rw [Bool.and_eq_true] at h
      skip
      exact pss_cons (soundS hCX s _ o hk h.1) (soundB hCX r _ o hk h.2)
    · cases h
end
end
structure GOk (P : Program) (w : World) (K : PySem.W.Frag) (mg : Str → Option Value) (base : Heap) (CX : CXT) (k : Nat) (G : Gam) : Prop where
  val : ∀ x v, G.val x = some v → ∃ u, mg x = some u ∧ RelV v u
  fn : ∀ x n sp dvs, G.fn x n = some (sp, dvs) → ∃ f fd ps ds j, j ≤ k ∧ FnOk P w K mg base CX j f fd ps sp ∧ mg x = some (.ref f) ∧ PySem.W.keepIn K (.ref f) = true ∧ Binds K fd ps ds ∧ Vals dvs ds
  ini : ∀ x n C sp dvs, G.ini x n = some (C, sp, dvs) → ∃ f fd ps ds j, j + 1 ≤ k ∧ MkX K C f ∧ FnOk P w K mg base CX j f fd ps sp ∧ mg x = some (.ref C) ∧ Binds K fd ps ds ∧ Vals dvs ds
  dic : ∀ a kvs, G.dic a = some kvs → DkIn P w K a kvs
  blt : ∀ x ∈ bltNames, mg x = none
noncomputable def okDef (N ps : List Str) (sc : Scope) : Bool :=
  decide (sc.kind = .function) && decide (sc.isCoroutine = false) && decide (sc.isGenerator = false) && decide N.Nodup && decide (N.take ps.length = ps) &&
  ps.all (fun x => sc.names.lookup x == some .local || sc.names.lookup x == some .cell) && sc.names.all (fun y => decide (y.2 ≠ .free))
theorem okDef_of {N ps : List Str} {sc : Scope} (h : okDef N ps sc = true) : FnScope N ps sc := by
  unfold okDef at h
  simp only [Bool.and_eq_true, List.all_eq_true, decide_eq_true_eq, beq_iff_eq, Bool.or_eq_true] at h
  obtain ⟨⟨⟨⟨⟨⟨h1, h2⟩, h3⟩, h4⟩, h5⟩, h6⟩, h7⟩ := h
  exact ⟨h1, h2, h3, h4, h5, h6, h7⟩
section
variable {P : Program} {w : World} {K : PySem.W.Frag} {mg : Str → Option Value} {base : Heap}
theorem fn_codeD {x qual : Str} {st : Stmt} {f : Addr} {oc dV kV doc pm cdv ct : Value} {od an : Option Addr} {osl : Array (Option Value)} {N ps : List Str} {k : Nat} {G : Gam} {sp : Sp} {code : CB} (lk : K.lookup f = some ⟨oc, od, .func (PySem.W.fnOf x qual (defArgs st) (defBody st) (defScope st) dV kV doc pm an cdv ct), osl⟩) (hcd : PySem.W.codeIn K cdv qual = true) (hd : okDef N ps (defScope st) = true) (hc : chkB (defScope st) N code (defBody st) = true)
    (g : GOk P w K mg base (CXx P w) k G) (len : ∀ vs H Q E, sp vs H Q E → vs.length = ps.length)
    (h : ∀ vs H Q E, sp vs H Q E → wpB G K (fun _ => E) code { nx := fun _ H' => Q .non H', rt := Q } (start N vs) H) : FnOk P w K mg base (CXx P w) (k + 1) f (PySem.W.fnOf x qual (defArgs st) (defBody st) (defScope st) dV kV doc pm an cdv ct) ps sp := by
  have S := okDef_of hd
  refine fn_of lk hcd S len fun A outer s H vs Q E hr hsp => ?_
  have o : Ok (CXx P w) G (fun _ => E) (defScope st) N true (cxOf (CXx P w) P w K mg base N qual (defScope st) f cdv A outer s H E) :=
    { names := rfl, top := fun _ => ⟨rfl, rfl, rfl⟩, nd := S.nd, loc := fun _ z => z, cel := fun _ z => z, fre := fun y z => absurd rfl (S.nofree _ (PySem.mem_of_lookup z)), glo := fun _ z => z, all := fun _ _ => rfl, own := fun _ _ => rfl, calm := rfl,
      hu := by have := hr.units; show _ + 50 < cLine; exact Nat.lt_of_le_of_lt (Nat.add_le_add_left (by decide) _) this
      val := g.val
      fn := fun y n sp' dvs e => by
        obtain ⟨f', fd', ps', ds', j, hj, F', hm, hk, hb, hv⟩ := g.fn y n sp' dvs e
        exact ⟨f', fd', ps', ds', j, F', hr.mono hj, hm, hk, hb, hv⟩
      ini := fun y n C sp' dvs e => by
        obtain ⟨f', fd', ps', ds', j, hj, M, F', hm, hb, hv⟩ := g.ini y n C sp' dvs e
        exact ⟨f', fd', ps', ds', j, M, F', hr.mono hj, hm, hb, hv⟩
      dic := g.dic
      blt := g.blt, px := PassesOwn.leaving, pass := body_pass, made := body_made, madeX := body_madeX, cx := rfl }
  exact ⟨_, soundB (fun _ _ _ _ _ z => cxx0 z) code _ o (fun _ _ _ _ _ => S.kind) hc, h vs H Q E hsp⟩
theorem fn_code {x qual : Str} {st : Stmt} {f : Addr} {fd : FuncData} {N ps : List Str} {k : Nat} {G : Gam} {sp : Sp} {code : CB} (F : Fun K x qual st f fd) (hd : okDef N ps (defScope st) = true) (hc : chkB (defScope st) N code (defBody st) = true)
    (g : GOk P w K mg base (CXx P w) k G) (len : ∀ vs H Q E, sp vs H Q E → vs.length = ps.length)
    (h : ∀ vs H Q E, sp vs H Q E → wpB G K (fun _ => E) code { nx := fun _ H' => Q .non H', rt := Q } (start N vs) H) : FnOk P w K mg base (CXx P w) (k + 1) f fd ps sp := by
  obtain ⟨oc, od, kV, doc, pm, an, cdv, ct, osl, rfl, lk, hcd⟩ := F.ex
  exact fn_codeD lk hcd hd hc g len h
end
end R
namespace R
open PySem PySem.Spec PyProof.Rows L2
noncomputable def gam (vals : List (Str × V)) (fns : List ((Str × Nat) × (Sp × List V))) (inis : List ((Str × Nat) × (Addr × Sp × List V)) := []) (dics : List (Addr × List (Key × V)) := []) : Gam := ⟨fun x => vals.lookup x, fun x n => fns.lookup (x, n), fun x n => inis.lookup (x, n), fun a => dics.lookup a⟩
theorem mem_look {β : Type} {a : Addr} {b : β} : ∀ {l : List (Addr × β)}, l.lookup a = some b → (a, b) ∈ l
  | [], h => nomatch h
  | (k, v) :: l, h => by
    rw [List.lookup_cons] at h
    cases q : (a == k) with
    | true =>
      rw [q] at h
      cases h
      rw [beq_iff_eq.mp q]
      exact List.mem_cons_self
    | false =>
      rw [q] at h
      exact List.mem_cons_of_mem _ (mem_look h)
section
variable {P : Program} {w : World} {K : PySem.W.Frag} {mg : Str → Option Value} {base : Heap} {CX : CXT}
theorem GOk.start {vals : List (Str × V)} (hv : ∀ x v, (x, v) ∈ vals → ∃ u, mg x = some u ∧ RelV v u) (hb : ∀ x ∈ bltNames, mg x = none) {dics : List (Addr × List (Key × V))} (hd : ∀ a kvs, (a, kvs) ∈ dics → DkIn P w K a kvs := by intro a kvs h; exact nomatch h) : GOk P w K mg base CX 0 (gam vals [] [] dics) :=
  ⟨fun x v e => hv x v (PySem.mem_of_lookup e), fun x n sp dvs e => (nomatch e), fun x n C sp dvs e => (nomatch e), fun a kvs e => hd a kvs (mem_look (show List.lookup a dics = some kvs from e)), hb⟩
theorem GOk.add {k n : Nat} {vals : List (Str × V)} {fns : List ((Str × Nat) × (Sp × List V))} {x : Str} {f : Addr} {fd : FuncData} {ps : List Str} {sp : Sp} {ds : List Value} {dvs : List V} {inis : List ((Str × Nat) × (Addr × Sp × List V))} {dics : List (Addr × List (Key × V))} (g : GOk P w K mg base CX k (gam vals fns inis dics))
    (F : FnOk P w K mg base CX (k + 1) f fd ps sp) (hm : mg x = some (.ref f)) (hk : PySem.W.keepIn K (.ref f) = true) (hb : Binds K fd ps ds) (hd : Vals dvs ds) : GOk P w K mg base CX (k + 1) (gam vals (((x, n), (sp, dvs)) :: fns) inis dics) := by
  refine ⟨g.val, fun y m sp' dvs' e => ?_, fun y m C sp' dvs' e => ?_, g.dic, g.blt⟩
  rotate_left
  · obtain ⟨f', fd', ps', ds', j, hj, r⟩ := g.ini y m C sp' dvs' e
    exact ⟨f', fd', ps', ds', j, Nat.le_succ_of_le hj, r⟩
  have e' : List.lookup (y, m) (((x, n), (sp, dvs)) :: fns) = some (sp', dvs') := e
  rw [List.lookup_cons] at e'
  cases q : ((y, m) == (x, n)) with
  | true =>
    rw [q] at e'
    have e2 : (y, m) = (x, n) := eq_of_beq q
    cases e2
    cases e'
    exact ⟨f, fd, ps, ds, k + 1, Nat.le_refl _, F, hm, hk, hb, hd⟩
  | false =>
    rw [q] at e'
    obtain ⟨f', fd', ps', ds', j, hj, r⟩ := g.fn y m sp' dvs' e'
    exact ⟨f', fd', ps', ds', j, Nat.le_succ_of_le hj, r⟩
end
section
variable {K : PySem.W.Frag} {H : Hp} {Q : VK} {i j : Int}
theorem add_ii : rBin K .Add (.int i) (.int j) H Q ↔ Q (.int (i + j)) H := by
  simp [rBin, rI0, rCat, rCatT, rCat0]
theorem sub_ii : rBin K .Sub (.int i) (.int j) H Q ↔ Q (.int (i - j)) H := by simp [rBin, rI0]
theorem mul_ii : rBin K .Mult (.int i) (.int j) H Q ↔ CMul i j ∧ Q (.int (i * j)) H := by simp [rBin, rI, rRep, rRepS]
theorem mod_ii : rBin K .Mod (.int i) (.int j) H Q ↔ 0 < j ∧ Q (.int (i % j)) H := by simp [rBin, rI]
theorem div_ii : rBin K .FloorDiv (.int i) (.int j) H Q ↔ CDiv i j ∧ Q (.int (i / j)) H := by simp [rBin, rI]
theorem pow_ii : rBin K .Pow (.int i) (.int j) H Q ↔ CPow i j ∧ Q (.int (i ^ j.toNat)) H := by simp [rBin, rI]
theorem add_ss {x y : Str} : rBin K .Add (.str x) (.str y) H Q ↔ x.length + y.length ≤ sizeLine ∧ Q (.str (x ++ y)) H := by simp [rBin, rI0, rCat, rCatT, rCat0]
theorem neg_i : rUn K .USub (.int i) H Q ↔ Q (.int (-i)) H := by simp [rUn, rU]
theorem lt_ii : rCmp K .Lt (.int i) (.int j) H Q ↔ Q (.bl (decide (i < j))) H := by simp [rCmp, rI0]
theorem le_ii : rCmp K .LtE (.int i) (.int j) H Q ↔ Q (.bl (decide (i ≤ j))) H := by simp [rCmp, rI0]
theorem gt_ii : rCmp K .Gt (.int i) (.int j) H Q ↔ Q (.bl (decide (j < i))) H := by simp [rCmp, rI0]
theorem rep_int {d : D} : Rep K H d (.int i) ↔ d = .int i := by
  cases d <;> simp [Rep, eq_comm]
theorem rep_str {d : D} {x : Str} : Rep K H d (.str x) ↔ d = .str x := by
  cases d <;> simp [Rep, eq_comm]
theorem eq_ii : rCmp K .Eq (.int i) (.int j) H Q ↔ Q (.bl (decide (i = j))) H := by
  simp only [rCmp, rEqD, rep_int]
  constructor
  · rintro ⟨_, _, rfl, rfl, _, q⟩; exact q
  · intro q; exact ⟨_, _, rfl, rfl, Nat.zero_le _, q⟩
theorem ne_ii : rCmp K .NotEq (.int i) (.int j) H Q ↔ Q (.bl (!decide (i = j))) H := by
  simp only [rCmp, rNeD, rep_int]
  constructor
  · rintro ⟨_, _, rfl, rfl, _, q⟩; exact q
  · intro q; exact ⟨_, _, rfl, rfl, Nat.zero_le _, q⟩
theorem eq_ss {x y : Str} : rCmp K .Eq (.str x) (.str y) H Q ↔ Q (.bl (decide (x = y))) H := by
  simp only [rCmp, rEqD, rep_str]
  constructor
  · rintro ⟨_, _, rfl, rfl, _, q⟩
    simpa [eqD, Bool.beq_eq_decide_eq] using q
  · intro q
    exact ⟨_, _, rfl, rfl, Nat.zero_le _, by simpa [eqD, Bool.beq_eq_decide_eq] using q⟩
theorem ne_ss {x y : Str} : rCmp K .NotEq (.str x) (.str y) H Q ↔ Q (.bl (!decide (x = y))) H := by
  simp only [rCmp, rNeD, rep_str]
  constructor
  · rintro ⟨_, _, rfl, rfl, _, q⟩
    simpa [eqD, Bool.beq_eq_decide_eq] using q
  · intro q
    exact ⟨_, _, rfl, rfl, Nat.zero_le _, by simpa [eqD, Bool.beq_eq_decide_eq] using q⟩
theorem is_n {x : V} : rCmp K .Is x .non H Q ↔ Q (.bl (decide (x = .non))) H := by simp [rCmp]
theorem len_s {z : Str} : rBf K .len [.str z] H Q ↔ z.length ≤ sizeLine ∧ Q (.int z.length) H := by simp [rBf]
theorem idx_s {z : Str} : rIx K (.str z) (.int i) H Q ↔ ∃ c, z.length ≤ sizeLine ∧ atI z.cps.toList i = some c ∧ Q (.str ⟨#[c]⟩) H := by
  simp [rIx, rIxL, rIxT, rIxS]
theorem cut_s {z : Str} {lo hi : Option Int} : rSlc K (.str z) lo hi H Q ↔ z.length ≤ sizeLine ∧ Q (.str (cutS z lo hi)) H := by
  simp [rSlc, rSlL, rSlS]
end
end R
namespace R
open PySem PySem.Spec PyProof.Rows L2
structure Seqs (J : It) (n : Nat) (it : Nat → V → Hp → Prop) (Hc : Hp → Prop) : Prop where
  go : ∀ i H, Hc H → i < n → J.go i H
  stop : ∀ i H, Hc H → n ≤ i → J.stop i H
  yld : ∀ i H x H', Hc H → i < n → J.yld i H x H' → it i x H' ∧ Same H H'
section
variable {K : PySem.W.Frag}
theorem seq_list {a : Addr} {xs : List V} : Seqs (Itl K a) xs.length (fun i x _ => xs[i]? = some x) (fun H => SqL K H a xs) where
  go := fun i H h hi => ⟨xs, xs[i], h, by simp [hi]⟩
  stop := fun i H h hi => ⟨xs, h, hi⟩
  yld := fun i H x H' h hi y => by
    obtain ⟨e, y⟩ := y
    subst e
    exact ⟨y xs h, Same.refl _⟩
theorem seq_tup {a : Addr} {xs : List V} : Seqs (Itt K a) xs.length (fun i x _ => xs[i]? = some x) (fun H => SqT K H a xs) where
  go := fun i H h hi => ⟨xs, xs[i], h, by simp [hi]⟩
  stop := fun i H h hi => ⟨xs, h, hi⟩
  yld := fun i H x H' h hi y => by
    obtain ⟨e, y⟩ := y
    subst e
    exact ⟨y xs h, Same.refl _⟩
theorem seq_range {lo : Int} {n : Nat} : Seqs (Itr lo n) n (fun i x _ => x = .int (lo + i)) (fun _ => True) where
  go := fun i H _ hi => hi
  stop := fun i H _ hi => hi
  yld := fun i H x H' _ hi y => by
    obtain ⟨e, y⟩ := y
    subst e
    exact ⟨y, Same.refl _⟩
theorem seq_str {z : Str} : Seqs (Its z) z.length (fun i x _ => ∃ c, z.cps[i]? = some c ∧ x = .str ⟨#[c]⟩) (fun _ => True) where
  go := fun i H _ hi => hi
  stop := fun i H _ hi => hi
  yld := fun i H x H' _ hi y => by
    obtain ⟨e, y⟩ := y
    subst e
    exact ⟨y, Same.refl _⟩
theorem same_upd {H : Hp} {p : Addr} {o : HO} (h : H p = none) : Same H (upd H p o) := fun b u e => by rw [upd_ne (ne_of_none e h)]; exact e
theorem seq_enum {a : Addr} {xs : List V} : Seqs (Ite K a) xs.length (fun i x H => ∃ p v, x = .ref p ∧ H p = some (.tup [.int i, v]) ∧ xs[i]? = some v) (fun H => SqL K H a xs) where
  go := fun i H h hi => ⟨xs, xs[i], h, by simp [hi]⟩
  stop := fun i H h hi => ⟨xs, h, hi⟩
  yld := fun i H x H' h hi y => by
    obtain ⟨p, v, hp, e, ex, y⟩ := y
    subst e ex
    exact ⟨⟨p, v, rfl, upd_same, y xs h⟩, same_upd hp⟩
noncomputable def ForB (J : It) (g : TG) (tb : TS) (D : Ends) (σ : L2.St) (H : Hp) : Prop := ∃ W : Nat → Nat → L2.St → Hp → Prop, (∃ m, W 0 m σ H) ∧ ∀ i m σ H, W i m σ H →
  (J.stop i H ∧ D.nx σ H) ∨ (J.go i H ∧ ∃ N : L2.St → Hp → Prop, (∀ σ' H', N σ' H' → ∃ m', m' < m ∧ W (i + 1) m' σ' H') ∧ ∀ x H', J.yld i H x H' → g x σ H' fun σ2 H2 => tb { D with nx := N, ct := N, bk := D.nx } σ2 H2)
noncomputable def CompB (J : It) (g : TG) (tc : TT) (te : TE) (τ0 : L2.St) (H1 : Hp) (Q : VK) : Prop := ∃ W : Nat → Nat → L2.St → List V → Hp → Prop, (∃ m, W 0 m τ0 [] H1) ∧
  ∀ i m τ acc H2, W i m τ acc H2 → (J.stop i H2 ∧ ∀ l, H2 l = none → Q (.ref l) (upd H2 l (.lst acc))) ∨ (J.go i H2 ∧ ∃ N : L2.St → List V → Hp → Prop, (∀ τ' acc' H', N τ' acc' H' → ∃ m', m' < m ∧ W (i + 1) m' τ' acc' H') ∧
    ∀ x H3, J.yld i H2 x H3 → g x τ H3 fun τ4 H4 => tc τ4 H4 fun b H5 => if b = true then te τ4 H5 fun v H6 => acc.length < sizeLine ∧ N τ4 (acc ++ [v]) H6 else N τ4 acc H5)
theorem for_seq {J : It} {n : Nat} {it : Nat → V → Hp → Prop} {Hc : Hp → Prop} {g : TG} {tb : TS} {D : Ends} {σ : L2.St} {H : Hp} (S : Seqs J n it Hc) (Pv : Nat → L2.St → Hp → Prop) (h0 : Pv 0 σ H) (hl : ∀ i σ H, i ≤ n → Pv i σ H → Hc H)
    (hs : ∀ i x σ H H', i < n → Pv i σ H → it i x H' → Same H H' → g x σ H' fun σ2 H2 => tb { D with nx := Pv (i + 1), ct := Pv (i + 1), bk := D.nx } σ2 H2) (hd : ∀ σ H, Pv n σ H → D.nx σ H) :
    ForB J g tb D σ H := by
  refine ⟨fun i m σ H => m = n - i ∧ i ≤ n ∧ Pv i σ H, ⟨n, by simp, Nat.zero_le _, h0⟩, ?_⟩
  rintro i m σ H ⟨rfl, hi, p⟩
  have q := hl i σ H hi p
  by_cases hlt : i < n
  · refine .inr ⟨S.go i H q hlt, Pv (i + 1), fun σ' H' p' => ⟨n - (i + 1), by omega, rfl, hlt, p'⟩, fun x H' y => ?_⟩
    obtain ⟨y1, y2⟩ := S.yld i H x H' q hlt y
    exact hs i x σ H H' hlt p y1 y2
  · have e : i = n := by omega
    subst e
    exact .inl ⟨S.stop i H q (Nat.le_refl _), hd σ H p⟩
theorem comp_seq {J : It} {n : Nat} {it : Nat → V → Hp → Prop} {Hc : Hp → Prop} {g : TG} {te : TE} {Q : VK} {τ0 : L2.St} {H1 : Hp} (S : Seqs J n it Hc) (hn : n ≤ sizeLine) (hc : ∀ H, Same H1 H → Hc H)
    (F : Nat → V → Hp → Prop) (Fm : ∀ i v H H', Same H H' → F i v H → F i v H') (T : L2.St → Prop) (hT : T τ0)
    (step : ∀ i x τ H3 (R : L2.St → V → Hp → Prop), i < n → T τ → Same H1 H3 → it i x H3 → (∀ τ' v H6, T τ' → Same H3 H6 → F i v H6 → R τ' v H6) → g x τ H3 fun τ4 H4 => te τ4 H4 (R τ4))
    (fin : ∀ vs H2 l, vs.length = n → (∀ (i : Nat) v, vs[i]? = some v → F i v H2) → Same H1 H2 → H2 l = none → Q (.ref l) (upd H2 l (.lst vs))) :
    CompB J g tYes te τ0 H1 Q := by
  refine ⟨fun i m τ acc H2 => m = n - i ∧ i ≤ n ∧ T τ ∧ acc.length = i ∧ Same H1 H2 ∧ ∀ (k : Nat) v, acc[k]? = some v → F k v H2, ⟨n, by simp, Nat.zero_le _, hT, rfl, Same.refl _, fun k v e => by simp at e⟩, ?_⟩
  rintro i m τ acc H2 ⟨rfl, hi, ht, hl, sm, hF⟩
  have q := hc H2 sm
  by_cases hlt : i < n
  · refine .inr ⟨S.go i H2 q hlt, fun τ' acc' H' => T τ' ∧ acc'.length = i + 1 ∧ Same H1 H' ∧ ∀ (k : Nat) v, acc'[k]? = some v → F k v H', fun τ' acc' H' ⟨a, b, c, d⟩ => ⟨n - (i + 1), by omega, rfl, hlt, a, b, c, d⟩, fun x H3 y => ?_⟩
    obtain ⟨y1, y2⟩ := S.yld i H2 x H3 q hlt y
    refine step i x τ H3 (fun τ' v H6 => acc.length < sizeLine ∧ T τ' ∧ (acc ++ [v]).length = i + 1 ∧ Same H1 H6 ∧ ∀ (k : Nat) v', (acc ++ [v])[k]? = some v' → F k v' H6) hlt ht (sm.trans y2) y1 fun τ' v H6 ht' s6 f6 => ⟨by omega, ht', by simp [hl], (sm.trans y2).trans s6, fun k v' e => ?_⟩
    by_cases hk : k < acc.length
    · rw [List.getElem?_append_left hk] at e
      exact Fm k v' H2 H6 (y2.trans s6) (hF k v' e)
    · rw [List.getElem?_append_right (by omega)] at e
      have hk0 : k - acc.length = 0 := by
        have := (List.getElem?_eq_some_iff.mp e).1
        simp at this
        omega
      rw [hk0] at e
      have hk' : k = i := by omega
      simp at e
      subst e
      rw [hk']
      exact f6
  · have e : i = n := by omega
    subst e
    exact .inl ⟨S.stop i H2 q (Nat.le_refl _), fun l hl' => fin acc H2 l hl hF sm hl'⟩
theorem comp_of {wi : TI} {g : TG} {tc : TT} {te : TE} {mk : L2.St → L2.St} {σ : L2.St} {H : Hp} {Q : VK} (h : wi σ H fun J H1 => CompB J g tc te (mk σ) H1 Q) : tComp wi g tc te mk σ H Q := h
theorem for_of {wi : TI} {g : TG} {tb : TS} {D : Ends} {σ : L2.St} {H : Hp} (h : wi σ H fun J H1 => ForB J g tb D σ H1) : tFor wi g tb D σ H := h
theorem any_var_str {i : Nat} {z : Str} {σ : L2.St} {H : Hp} {R : It → Hp → Prop} (hv : σ[i]? = some (some (.str z))) (h : R (Its z) H) : iAny K (tVar i) σ H R := ⟨_, hv, .inr (.inr ⟨z, rfl, h⟩)⟩
theorem any_var_list {i : Nat} {a : Addr} {xs : List V} {σ : L2.St} {H : Hp} {R : It → Hp → Prop} (hv : σ[i]? = some (some (.ref a))) (hq : SqL K H a xs) (h : R (Itl K a) H) : iAny K (tVar i) σ H R := ⟨_, hv, .inl ⟨a, rfl, ⟨xs, hq⟩, h⟩⟩
theorem any_var_tup {i : Nat} {a : Addr} {xs : List V} {σ : L2.St} {H : Hp} {R : It → Hp → Prop} (hv : σ[i]? = some (some (.ref a))) (hq : SqT K H a xs) (h : R (Itt K a) H) : iAny K (tVar i) σ H R := ⟨_, hv, .inr (.inl ⟨a, rfl, ⟨xs, hq⟩, h⟩)⟩
theorem bool_list {vs : List V} {n : Nat} {b : Nat → Bool} (hl : vs.length = n) (h : ∀ (i : Nat) v, vs[i]? = some v → v = .bl (b i)) : vs = ((List.range n).map b).map V.bl := by
  apply List.ext_getElem
  · simp [hl]
  · intro i h1 h2
    have := h i vs[i] (by simp [h1])
    simp [this]
theorem all_getD {α : Type} (l : List α) (d : α) (f : α → Bool) : ((List.range l.length).map fun i => f (l.getD i d)).all id = l.all f := by
  rw [List.all_map, Bool.eq_iff_iff]
  simp only [List.all_eq_true, List.mem_range, Function.comp, id]
  constructor
  · intro h c hc
    obtain ⟨i, hi, rfl⟩ := List.mem_iff_getElem.mp hc
    have := h i hi
    rw [List.getD_eq_getElem?_getD, List.getElem?_eq_getElem hi] at this
    exact this
  · intro h i hi
    have := h _ (List.getElem_mem hi)
    rw [List.getD_eq_getElem?_getD, List.getElem?_eq_getElem hi]
    exact this
theorem getD_some {α : Type} {l : List α} {i : Nat} {d x : α} (h : l[i]? = some x) : l.getD i d = x := by
  rw [List.getD_eq_getElem?_getD, h]; rfl
theorem str_len (z : Str) : z.length = z.cps.toList.length := by simp [Str.length]
theorem len_append (x y : Str) : (x ++ y).length = x.length + y.length := by
  show (x.cps ++ y.cps).size = _
  rw [Array.size_append]; rfl
theorem cutS_list (z : Str) (lo hi : Option Int) : (cutS z lo hi).cps.toList = (z.cps.toList.drop (HT.sIx z.length 0 lo)).take (HT.sIx z.length z.length hi - HT.sIx z.length 0 lo) := by simp [cutS]
theorem cutS_len (z : Str) (lo hi : Option Int) : (cutS z lo hi).length = HT.sIx z.length z.length hi - HT.sIx z.length 0 lo := by
  have h1 : HT.sIx z.length 0 lo ≤ z.length := HT.sIx_le _ _ (Nat.zero_le _) lo
  have h2 : HT.sIx z.length z.length hi ≤ z.length := HT.sIx_le _ _ (Nat.le_refl _) hi
  rw [str_len, cutS_list, List.length_take, List.length_drop, ← str_len]
  omega
theorem cutS_length (z : Str) (lo hi : Option Int) : (cutS z lo hi).length ≤ z.length := by
  have h2 : HT.sIx z.length z.length hi ≤ z.length := HT.sIx_le _ _ (Nat.le_refl _) hi
  rw [cutS_len]
  omega
end
end R
namespace R
open PySem PySem.Spec PyProof.Rows L2
noncomputable def HasFn (K : PySem.W.Frag) (x : Str) (st : Stmt) : Prop := ∃ (f : Addr) (oc : Value) (od an : Option Addr) (osl : Array (Option Value)) (kV doc pm cdv ct : Value), PySem.W.nsIn K mainGlobals x = some (some (.ref f)) ∧
  K.lookup f = some ⟨oc, od, .func (PySem.W.fnOf x x (defArgs st) (defBody st) (defScope st) .none kV doc pm an cdv ct), osl⟩ ∧ PySem.W.codeIn K cdv x = true ∧ PySem.W.keepIn K (.ref f) = true
theorem hasFn_mk {K : PySem.W.Frag} {x : Str} {st : Stmt} {f : Addr} {oc : Value} {od an : Option Addr} {osl : Array (Option Value)} {kV doc pm cdv ct : Value} (a : PySem.W.nsIn K mainGlobals x = some (some (.ref f)))
    (l : K.lookup f = some ⟨oc, od, .func (PySem.W.fnOf x x (defArgs st) (defBody st) (defScope st) .none kV doc pm an cdv ct), osl⟩) (c : PySem.W.codeIn K cdv x = true) (k : PySem.W.keepIn K (.ref f) = true) : HasFn K x st :=
  ⟨f, oc, od, an, osl, kV, doc, pm, cdv, ct, a, l, c, k⟩
structure Def (K : PySem.W.Frag) (mg : Str → Option Value) (x : Str) (st : Stmt) : Prop where
  ex : ∃ f fd, Fun K x x st f fd ∧ mg x = some (.ref f)
theorem HasFn.def {K : PySem.W.Frag} {h : Heap} {mg : Str → Option Value} {x : Str} {st : Stmt} (X : K.In h) (Gm : h.Ns mainGlobals mg) (H : HasFn K x st) : Def K mg x st := by
  obtain ⟨f, oc, od, an, osl, kV, doc, pm, cdv, ct, a, l, c, k⟩ := H
  exact ⟨f, _, fun_mk l c k, PySem.W.mg_of X Gm a⟩
section
variable {P : Program} {w : World} {K : PySem.W.Frag} {mg : Str → Option Value} {base : Heap}
theorem add_fn {k : Nat} {vals : List (Str × V)} {fns : List ((Str × Nat) × (Sp × List V))} {x : Str} {st : Stmt} {N ps : List Str} {sp : Sp} {code : CB} {inis : List ((Str × Nat) × (Addr × Sp × List V))} {dics : List (Addr × List (Key × V))} (g : GOk P w K mg base (CXx P w) k (gam vals fns inis dics)) (d : Def K mg x st)
    (hc : (okDef N ps (defScope st) && chkB (defScope st) N code (defBody st)) = true)
    (hb : ∀ (kV doc pm : Value) (an : Option Addr) (cdv ct : Value) (us : List Value), us.length = ps.length → bindArgs (PySem.W.fnOf x x (defArgs st) (defBody st) (defScope st) .none kV doc pm an cdv ct) ⟨us, []⟩ = pure (ps.zip us))
    (len : ∀ vs H Q E, sp vs H Q E → vs.length = ps.length)
    (h : ∀ vs H Q E, sp vs H Q E → wpB (gam vals fns inis dics) K (fun _ => E) code { nx := fun _ H' => Q .non H', rt := Q } (L2.start N vs) H) : GOk P w K mg base (CXx P w) (k + 1) (gam vals (((x, ps.length), (sp, [])) :: fns) inis dics) := by
  rw [Bool.and_eq_true] at hc
  obtain ⟨f, fd, F, hm⟩ := d.ex
  exact g.add (n := ps.length) (fn_code F hc.1 hc.2 g len h) hm F.kp (F.binds hb) .nil
end
end R
local macro_rules | `(tactic| walk_at "wp") => `(tactic| simp only [R.wpB, R.wpS, R.wpE, R.wpT, R.wpL, R.wpO, R.wpC, R.wpG, R.wpGs, R.wpI, L2.tSeq, L2.tRet, L2.tRetN, L2.tNext, L2.tAsg, L2.tDrop, L2.tIfS, L2.tAndV, L2.tOrV, L2.tNotV, L2.tNot, L2.tAnd, L2.tOr, L2.tTest, R.tTru, L2.tIf, L2.tCB, L2.tCons, L2.tNil, L2.tVar, L2.tC, L2.tOp, L2.tUn, L2.tChain, L2.tTup, L2.tLst, L2.tCall, L2.tBM, L2.tBM0, L2.tSl, L2.tPart, L2.tNoPart, R.cv, L2.gName, L2.gSub, L2.gTup, L2.gCons, L2.gNil, R.CGs.len, L2.iRng1, L2.iRng2, L2.iList, L2.iTup, L2.iEnum, List.getElem?_cons_zero, List.getElem?_cons_succ, Option.some.injEq, exists_eq_left', exists_eq_left, L2.V.bl.injEq, L2.V.int.injEq, L2.V.str.injEq, List.set_cons_zero, List.set_cons_succ, R.CL.len, R.Ty.t, R.add_ii, R.sub_ii, R.mul_ii, R.mod_ii, R.div_ii, R.pow_ii, R.add_ss, R.neg_i, R.lt_ii, R.le_ii, R.gt_ii, R.eq_ii, R.ne_ii, R.eq_ss, R.ne_ss, R.is_n, R.len_s, R.idx_s, R.cut_s, List.append_nil, R.slotsOf, List.map_cons, List.map_nil, List.nil_append, List.cons_append])
namespace Lm
open PySem PySem.Spec PySem.W PyProof.Rows L2 Q
section
variable {prog : Program} {w : World} {A : Around} {E : Value → Shared → Prop} {s : Shared}
end
end Lm
namespace Lm
open PySem PySem.Spec PySem.W PyProof.Rows L2 Q
section
variable {K : PySem.W.Frag} {T : Tb} {H H' : Hp} {a : Addr} {xs : List V}
end
noncomputable def BM (mg : Str → Option Value) (h : Heap) : Prop := ∃ bm ob, mg "__builtins__" = some (.ref bm) ∧ bm ≠ builtinsNs ∧ bm ≠ mainGlobals ∧ h.get? bm = some ob ∧ ob.cls = .type "module" ∧ ob.dict = some builtinsNs ∧ ob.data = .plain
section
variable {X : Cx} {e : Expr} {te : TE} {T : Tb} {c : Addr} {p kp pos p1 p2 p3 : Pos} {x : Str} {j : Nat} {params : Arguments} {scope : Scope}
end
end Lm
namespace Lm
open PySem PySem.Spec PySem.W PyProof.Rows L2 Q R
section
variable {P : Program} {w : World} {K : PySem.W.Frag} {mg : Str → Option Value} {base : Heap}
end
noncomputable def heapT (K : PySem.W.Frag) (tabs : List Addr) (a : Addr) (vs : List Value) (ns : List Int) : Hp := fun b =>
  if b ∈ tabs then some (.tbl #[]) else if b = a ∧ K.lookup a = none then some (.frz { cls := .type "list", data := .seq vs.toArray } (.lst (ns.map V.int))) else none
theorem law_callT {P : Program} {w : World} {K : PySem.W.Frag} {mg mb : Str → Option Value} {CX : CXT} {k : Nat} {fa a : Addr} {fd : FuncData} {x : Str} {sp : Sp} {s₁ : Shared} {vs : List Value} {ns : List Int} {tabs : List Addr} (KX : K.In s₁.heap)
    (hns : s₁.heap.Ns mainGlobals mg) (hb : s₁.heap.Ns builtinsNs mb) (hbb : ∀ x : Str, x ≠ "__name__" → mb x = bootBuiltins x) (hlim : s₁.heap.NoLimit) (hg : s₁.gens = #[]) (ha : s₁.heap.get? a = some { cls := .type "list", data := .seq vs.toArray })
    (hi : IntsAre vs ns) (hl : ns.length ≤ sizeLine) (hr : Room k callerA) (hT : ∀ p ∈ tabs, s₁.heap.get? p = some (tabObj #[]) ∧ isCodeTable s₁.heap p ∧ K.lookup p = none)
    (F : ∀ base : Heap, K.In base → base.Ns mainGlobals mg → (∀ b o, s₁.heap.get? b = some o → o.cls ≠ .none → o.cls ≠ .type "list" → base.get? b = some o) → FnOk P w K mg base CX k fa fd [x] sp)
    (hbind : ∀ (s : Shared) (u : Value), BindsTo s fd ⟨[u], []⟩ [(x, u)])
    (hsp : ∀ H : Hp, (∀ p ∈ tabs, H p = some (.tbl #[])) → SqL K H a (ns.map V.int) → sp [.ref a] H (fun v _ => v = .bl true) fun _ _ _ => False) (hCX : ∀ H e s', CX [] H s₁ (fun _ _ _ => False) e s' → False) :
    codeAny (model P w) callerA (.call (.ref fa) ⟨[.ref a], []⟩) (fun r s' => r = .ok (.ret (.bool true)) ∧ OldK s₁.heap s'.heap ∧ s'.os = s₁.os ∧ AllBare s'.gens) s₁ := by
  have rv := vals_ints hi
  have lenV := hi.length
  have cases3 : ∀ b, (b ∈ tabs ∧ heapT K tabs a vs ns b = some (.tbl #[])) ∨ (b = a ∧ K.lookup a = none ∧ heapT K tabs a vs ns b = some (.frz { cls := .type "list", data := .seq vs.toArray } (.lst (ns.map V.int)))) ∨ heapT K tabs a vs ns b = none := fun b => by
    unfold heapT
    by_cases h1 : b ∈ tabs
    · exact .inl ⟨h1, if_pos h1⟩
    · rw [if_neg h1]
      by_cases h2 : b = a ∧ K.lookup a = none
      · exact .inr (.inl ⟨h2.1, h2.2, if_pos h2⟩)
      · exact .inr (.inr (if_neg h2))
  have tabH : ∀ p ∈ tabs, heapT K tabs a vs ns p = some (.tbl #[]) := fun p hp => if_pos hp
  have haT : a ∉ tabs := fun z => by
    have := (hT a z).1
    rw [ha] at this; cases this
  -- what is neither a table nor a list is not tracked
  have untr : ∀ {b : Addr} {o : Obj}, s₁.heap.get? b = some o → o.cls ≠ .none ∨ (∃ es ep, o.data = .dict es ep) → o.cls ≠ .type "list" ∨ (∃ es ep, o.data = .dict es ep) → heapT K tabs a vs ns b = none := fun {b o} e h1 h2 => by
    rcases cases3 b with ⟨q, _⟩ | ⟨rfl, _⟩ | q
    · have := (hT b q).1
      rw [e] at this; cases this
      rcases h1 with z | ⟨_, _, z⟩
      · exact absurd rfl z
      · cases z
    · rw [ha] at e; cases e
      rcases h2 with z | ⟨_, _, z⟩
      · exact absurd rfl z
      · cases z
    · exact q
  have nsK : ∀ {b : Addr} {m : Str → Option Value}, s₁.heap.Ns b m → (hidT s₁.heap (heapT K tabs a vs ns)).Ns b m := fun {b m} ⟨o, es, ep, e, d, r⟩ => ⟨o, es, ep, hidT_get e (untr e (.inr ⟨_, _, d⟩) (.inr ⟨_, _, d⟩)), d, r⟩
  have hKb : K.In (hidT s₁.heap (heapT K tabs a vs ns)) := fun b o e => hidT_get (KX b o e) (by
    rcases cases3 b with ⟨q, _⟩ | ⟨rfl, z, _⟩ | q
    · rw [(hT b q).2.2] at e; cases e
    · rw [z] at e; cases e
    · exact q)
  have hok : HOk P w (heapT K tabs a vs ns) s₁.heap := fun b o e => by
    rcases cases3 b with ⟨q, z⟩ | ⟨rfl, _, z⟩ | z
    · rw [z] at e; cases e
      exact (hT b q).1
    · rw [z] at e; cases e
      exact ⟨ha, by rw [List.length_map]; exact hl, vs, _, rv, ha⟩
    · rw [z] at e; cases e
  have hS : SqL K (heapT K tabs a vs ns) a (ns.map V.int) := by
    cases hk : K.lookup a with
    | none =>
      refine .inl (.inr ⟨{ cls := .type "list", data := .seq vs.toArray }, ?_⟩)
      unfold heapT
      rw [if_neg haT, if_pos ⟨rfl, hk⟩]
    | some o =>
      have e := KX a o hk
      rw [ha] at e
      cases e
      exact .inr ⟨_, vs.toArray, _, hk, rfl, rfl, rfl, by rw [List.size_toArray, lenV]; exact hl, by simpa using rv⟩
  have hM : Mod K mg (hidT s₁.heap (heapT K tabs a vs ns)) := ⟨hKb, nsK hns, ⟨mb, nsK hb, hbb⟩, let ⟨mc, h1, h2⟩ := hlim; ⟨mc, nsK h1, h2⟩⟩
  have e0 : Env0 P w K mg (hidT s₁.heap (heapT K tabs a vs ns)) callerA [] s₁ (heapT K tabs a vs ns) := ⟨rfl, hM, fun b o e => of_hidT e, Nat.le_of_eq (hidT_size _ _), trivial, fun b hb => absurd (show b ∈ ([] : List Addr) from hb) (by simp), hok, .of_eq hg⟩
  have f0 := F _ hKb (nsK hns) fun b o e h1 h2 => hidT_get e (untr e (.inl h1) (.inl h2))
  refine codeAny_mono (f0.run callerA [] s₁ (heapT K tabs a vs ns) ⟨[.ref a], []⟩ [.ref a] [.ref a] _ _ hr e0 (hbind s₁ (.ref a)) (.cons rfl .nil) (hsp _ tabH hS)) fun r s' h => ?_
  cases r with
  | error e => exact (hCX _ e s' h).elim
  | ok fl =>
    cases fl with
    | next => exact False.elim h
    | brk => exact False.elim h
    | cont => exact False.elim h
    | ret u =>
      obtain ⟨v, H', os, bare, un, hok', r', q⟩ := h
      have q' : v = .bl true := q
      subst q'
      obtain rfl : u = Value.bool true := r'
      have kept : ∀ b o, s₁.heap.get? b = some o → b ∉ tabs → s'.heap.get? b = some o := fun b o e nt => by
        rcases cases3 b with ⟨z, _⟩ | ⟨rfl, _, z⟩ | z
        · exact absurd z nt
        · have z2 := un.frzs b _ _ z
          obtain ⟨e2, _⟩ := hok' b _ z2
          rw [ha] at e; cases e
          exact e2
        · exact un.keep b o e z (by intro z; exact absurd (show b ∈ ([] : List Addr) from z) (by simp)) (by simp)
      have grown : ∀ b ∈ tabs, ∃ more, s'.heap.get? b = some (tabObj (#[] ++ more)) := fun b hb => by
        obtain ⟨more, z⟩ := un.tbls b _ (tabH b hb)
        exact ⟨more, hok' b _ z⟩
      refine ⟨rfl, ⟨fun b o e => ?_, fun b o e => ?_⟩, os, bare⟩
      · by_cases hb : b ∈ tabs
        · obtain ⟨e1, ct, _⟩ := hT b hb
          rw [e] at e1; cases e1
          obtain ⟨more, z⟩ := grown b hb
          exact .inr (.inl ⟨ct, rfl, #[], more, rfl, z⟩)
        · exact .inl (kept b o e hb)
      · by_cases hb : b ∈ tabs
        · obtain ⟨more, z⟩ := grown b hb
          exact ⟨_, z⟩
        · exact ⟨o, kept b o e hb⟩
theorem bm_of {mg : Str → Option Value} {h : Heap} (hg : h.Ns mainGlobals mg) (hb : ∃ bm ob, mg "__builtins__" = some (.ref bm) ∧ bm ≠ builtinsNs ∧ h.get? bm = some ob ∧ ob.cls = .type "module" ∧ ob.dict = some builtinsNs ∧ ob.data = .plain) : BM mg h := by
  obtain ⟨bm, ob, b1, b2, b3, b4, b5, b6⟩ := hb
  refine ⟨bm, ob, b1, b2, fun q => ?_, b3, b4, b5, b6⟩
  obtain ⟨o, es, ep, e, hd, _⟩ := hg
  rw [q, e] at b3; cases b3; rw [hd] at b6; cases b6
theorem walk_ofT {l : PySem.W.OpenLaw} {n k : Nat} {q : Program} {loose : List Str} {XP : (Str → Option Value) → Heap → Prop} {YP : World → Heap → Prop} {d : DefRec} {K : Params → PySem.W.Frag} {CX : CXT} {sp : PySem.W.Frag → Sp} {x : Str} {tabs : List Addr}
    (hn : l.most = some n) (hn2 : n ≤ sizeLine) (hdf : d.params.defaults = []) (hr : Room k callerA) (hY : ∀ (w : World) (h : Heap), YP w h → (K w.params).In h)
    (hT : ∀ (w : World) (s₀ : Shared) (mg mb : Str → Option Value) (h : Heap), Ground q loose [] XP w s₀ mg mb h → YP w h → ∀ p ∈ tabs, h.get? p = some (tabObj #[]) ∧ isCodeTable h p ∧ (K w.params).lookup p = none)
    (F : ∀ (w : World) (mg : Str → Option Value) (fa : Addr) (h : Heap), (K w.params).In h → h.Ns mainGlobals mg → mg d.name = some (.ref fa) →
      ∃ fd : FuncData, (∀ (s : Shared) (u : Value), BindsTo s fd ⟨[u], []⟩ [(x, u)]) ∧
        ∀ base : Heap, (K w.params).In base → base.Ns mainGlobals mg → BM mg base → FnOk l.prog w (K w.params) mg base CX k fa fd [x] (sp (K w.params)))
    (hsp : ∀ (K : PySem.W.Frag) (H : Hp) (a : Addr) (ns : List Int), ns.length ≤ n → (∀ p ∈ tabs, H p = some (.tbl #[])) → SqL K H a (ns.map V.int) → sp K [.ref a] H (fun v _ => v = .bl true) fun _ _ _ => False)
    (hCX : ∀ (H : Hp) (s : Shared) (e : Value) (s' : Shared), CX [] H s (fun _ _ _ => False) e s' → False) :
    PySem.W.WalkO q loose XP YP l.row.toRowW d [] (fun f vs => PySem.call f vs) := by
  refine Att.attach_call hn hdf fun w s₀ s₁ mg mb fa o pm cd doc a vs ns G Y ho hd hcd hmg hobj hints hlen hg => ?_
  have KX := hY w _ Y
  obtain ⟨fd, hb, hF⟩ := F w mg fa _ KX G.T.g hmg
  have hbm := bm_of G.T.g G.T.bmain
  refine law_callT KX G.T.g G.T.b G.T.builtins G.T.nolimit hg hobj hints (Nat.le_trans hlen hn2) hr (hT w s₀ mg mb _ G Y) (fun base k1 k2 k3 => hF base k1 k2 ?_) hb (fun H t S => hsp _ H a ns hlen t S) fun H e s' => hCX H s₁ e s'
  obtain ⟨bm, ob, b1, b2, b0, b3, b4, b5, b6⟩ := hbm
  exact ⟨bm, ob, b1, b2, b0, k3 bm ob b3 (by rw [b4]; nofun) (by rw [b4]; decide), b4, b5, b6⟩
end Lm
namespace Cp
open PySem R
noncomputable def p_is_whole : List Str := ["thing"]
noncomputable def n_is_whole : List Str := ["thing"]
noncomputable def c_is_whole : CB :=
    (.cons (.ret (.and (.bfn .isinstance (.cons (.var 0) (.cons (.ty .int) .nil))) (.not (.bfn .isinstance (.cons (.var 0) (.cons (.ty .bool) .nil))))))
    .nil)
noncomputable def p_is_name : List Str := ["thing"]
noncomputable def n_is_name : List Str := ["thing"]
noncomputable def c_is_name : CB :=
    (.cons (.iff (.not (.bfn .isinstance (.cons (.var 0) (.cons (.ty .str) .nil))))
    (.cons (.ret (.con (.bool false)))
    .nil)
    .nil)
    (.cons (.iff (.not (.chain .LtE .LtE (.con (.int 1)) (.bfn .len (.cons (.var 0) .nil)) (.glo "LONGEST_NAME")))
    (.cons (.ret (.con (.bool false)))
    .nil)
    .nil)
    (.cons (.ret (.bfn .all (.cons (.comp ["sign"] [] (.name 0) (.seq (.var 0)) .no (.cmp .In (.var 0) (.glo "LETTERS"))) .nil)))
    .nil)))
noncomputable def p_is_reading : List Str := ["thing"]
noncomputable def n_is_reading : List Str := ["thing"]
noncomputable def c_is_reading : CB :=
    (.cons (.ret (.and (.call "is_whole" (.cons (.var 0) .nil)) (.cmp .In (.var 0) (.tup (.cons (.con (.int 0)) (.cons (.con (.int 1)) .nil))))))
    .nil)
noncomputable def p_are_readings : List Str := ["thing"]
noncomputable def n_are_readings : List Str := ["thing"]
noncomputable def c_are_readings : CB :=
    (.cons (.iff (.or (.not (.bfn .isinstance (.cons (.var 0) (.cons (.ty .tuple) .nil)))) (.cmp .Gt (.bfn .len (.cons (.var 0) .nil)) (.glo "MOST_PLACES")))
    (.cons (.ret (.con (.bool false)))
    .nil)
    .nil)
    (.cons (.ret (.bfn .all (.cons (.comp ["part"] [] (.name 0) (.seq (.var 0)) .no (.call "is_reading" (.cons (.var 0) .nil))) .nil)))
    .nil))
end Cp
set_option maxHeartbeats 1000000
namespace Cp
open PySem PySem.Spec PyProof.Rows L2 R
noncomputable def hoTy : Option HO → String
  | some (.lst _) => "list"
  | some (.frz _ (.lst _)) => "list"
  | some (.tup _) => "tuple"
  | some (.dK _) => "dict"
  | some (.dT _) => "dict"
  | _ => "?"
noncomputable def tyName (H : Hp) : V → String
  | .non => "NoneType"
  | .bl _ => "bool"
  | .int _ => "int"
  | .str _ => "str"
  | .ref a => hoTy (H a)
  | _ => "?"
noncomputable def Known (H : Hp) (x : V) : Prop := tyName H x ≠ "?"
theorem Known.same {H H' : Hp} {x : V} (h : Known H x) (s : Same H H') : Known H' x ∧ tyName H' x = tyName H x := by
  cases x with
  | ref a =>
    have h' : hoTy (H a) ≠ "?" := h
    show hoTy (H' a) ≠ "?" ∧ hoTy (H' a) = hoTy (H a)
    cases e : H a with
    | none => rw [e] at h'; exact absurd rfl h'
    | some o => rw [s a o e]; rw [e] at h'; exact ⟨h', rfl⟩
  | _ => exact ⟨h, rfl⟩
theorem Known.ty {K : PySem.W.Frag} {H : Hp} {x : V} (h : Known H x) : TyOf K H x (.type (tyName H x)) := by
  cases x with
  | non => exact .non
  | bl b => exact .bl b
  | int i => exact .int i
  | str s => exact .str s
  | ref a =>
    have h' : hoTy (H a) ≠ "?" := h
    show TyOf K H (.ref a) (.type (hoTy (H a)))
    cases e : H a with
    | none => rw [e] at h'; exact absurd rfl h'
    | some o =>
      rw [e] at h'
      cases o with
      | lst xs => exact .lst e
      | tup xs => exact .tup e
      | dK kvs => exact .dK e
      | dT kvs => exact .dT e
      | frz ob u =>
        cases u with
        | lst xs => exact .frz e
        | _ => exact absurd rfl h'
      | _ => exact absurd rfl h'
  | _ => exact absurd rfl h
theorem Known.mem {H : Hp} {x : V} (h : Known H x) : tyName H x ∈ ["NoneType", "bool", "int", "str", "list", "tuple", "dict"] := by
  cases x with
  | ref a =>
    have h' : hoTy (H a) ≠ "?" := h
    show hoTy (H a) ∈ _
    cases e : H a with
    | none => rw [e] at h'; exact absurd rfl h'
    | some o =>
      rw [e] at h'
      cases o with
      | lst xs => simp [hoTy]
      | tup xs => simp [hoTy]
      | dK kvs => simp [hoTy]
      | dT kvs => simp [hoTy]
      | frz ob u =>
        cases u with
        | lst xs => simp [hoTy]
        | _ => exact absurd rfl h'
      | _ => exact absurd rfl h'
  | _ => first
    | exact absurd rfl h
    | simp [tyName]
noncomputable def subTy (a b : String) : Bool := a == b || (a == "bool" && b == "int")
theorem kit_ty (K : PySem.W.Frag) : ∀ (a : String) (t : Ty), a ∈ ["NoneType", "bool", "int", "str", "list", "tuple", "dict"] → PySem.W.kitOne K (.type a) (.type t.t) = some (subTy a t.t) := by
  intro a t h
  simp only [List.mem_cons, List.not_mem_nil, or_false] at h
  rcases h with rfl | rfl | rfl | rfl | rfl | rfl | rfl <;> cases t <;> rfl
theorem isi {K : PySem.W.Frag} {H : Hp} {x : V} {Q : VK} (h : Known H x) (t : Ty) (q : Q (.bl (subTy (tyName H x) t.t)) H) : rBf K .isinstance [x, .ty t.t] H Q :=
  .inl ⟨x, t.t, _, _, rfl, h.ty, kit_ty K _ t h.mem, q⟩
theorem kn_int {H : Hp} {i : Int} : Known H (.int i) := by show "int" ≠ "?"; decide
theorem kn_bl {H : Hp} {i : Bool} : Known H (.bl i) := by show "bool" ≠ "?"; decide
theorem kn_non {H : Hp} : Known H .non := by show "NoneType" ≠ "?"; decide
theorem kn_str {H : Hp} {x : Str} : Known H (.str x) := by show "str" ≠ "?"; decide
theorem kn_tup {H : Hp} {a : Addr} {xs : List V} (h : H a = some (.tup xs)) : Known H (.ref a) := by show hoTy (H a) ≠ "?"; rw [h]; show "tuple" ≠ "?"; decide
theorem kn_lst {H : Hp} {a : Addr} {xs : List V} (h : H a = some (.lst xs)) : Known H (.ref a) := by show hoTy (H a) ≠ "?"; rw [h]; show "list" ≠ "?"; decide
theorem kn_dK {H : Hp} {a : Addr} {xs : List (Key × V)} (h : H a = some (.dK xs)) : Known H (.ref a) := by show hoTy (H a) ≠ "?"; rw [h]; show "dict" ≠ "?"; decide
theorem same_new {H H1 : Hp} {l : Addr} {o : HO} (s : Same H H1) (h : H l = none) : Same H (upd H1 l o) := fun b u e => by rw [upd_ne (ne_of_none e h)]; exact s b u e
noncomputable def isWhole : V → Bool
  | .int _ => true
  | _ => false
noncomputable def isReading : V → Bool
  | .int i => i == 0 || i == 1
  | _ => false
noncomputable def spB (f : V → Bool) : Sp := fun vs H Q _ => ∃ x, vs = [x] ∧ Known H x ∧ ∀ H', Same H H' → Q (.bl (f x)) H'
theorem sub_int {H : Hp} {x : V} (h : Known H x) : (subTy (tyName H x) "int" && !subTy (tyName H x) "bool") = isWhole x := by
  cases x with
  | ref a =>
    have h' : hoTy (H a) ≠ "?" := h
    show (subTy (hoTy (H a)) "int" && !subTy (hoTy (H a)) "bool") = false
    unfold hoTy
    split <;> rfl
  | _ => rfl
theorem wp_is_whole {G : Gam} {K : PySem.W.Frag} : ∀ vs H Q E, spB isWhole vs H Q E → wpB G K (fun _ => E) c_is_whole { nx := fun _ H' => Q .non H', rt := Q } (L2.start n_is_whole vs) H := by
  rintro vs H Q E ⟨x, rfl, hk, q⟩
  unfold c_is_whole
  change wpB G K _ _ _ [some x] H
  walk_at "wp"
  refine isi hk .int ⟨_, rfl, ?_⟩
  have e := sub_int hk
  cases h1 : subTy (tyName H x) "int" with
  | false =>
    rw [h1, Bool.false_and] at e
    have q1 := q H (Same.refl H)
    rw [← e] at q1
    simpa [Ty.t, h1] using q1
  | true =>
    rw [h1, Bool.true_and] at e
    have q1 := q H (Same.refl H)
    rw [← e] at q1
    simp only [Ty.t, h1, if_true]
    exact isi hk .bool ⟨_, rfl, q1⟩
theorem wp_is_reading {G : Gam} {K : PySem.W.Frag} (g1 : G.fn "is_whole" 1 = some (spB isWhole, [])) :
    ∀ vs H Q E, spB isReading vs H Q E → wpB G K (fun _ => E) c_is_reading { nx := fun _ H' => Q .non H', rt := Q } (L2.start n_is_reading vs) H := by
  rintro vs H Q E ⟨x, rfl, hk, q⟩
  unfold c_is_reading
  change wpB G K _ _ _ [some x] H
  walk_at "wp"
  refine ⟨_, _, g1, x, rfl, hk, fun H1 s1 => ⟨_, rfl, ?_⟩⟩
  cases x with
  | int i =>
    refine ⟨by decide, fun p hp => .inr ⟨p, _, rfl, .inr (SqT.of upd_same), rfl, rfl, ?_⟩⟩
    have q1 := q _ (s1.trans (same_upd (o := .tup [.int 0, .int 1]) hp))
    have e : (if false = true then !inV (.int i) [.int 0, .int 1] else inV (.int i) [.int 0, .int 1]) = isReading (.int i) := by
      show ((0 : Int) == i || ((1 : Int) == i || false)) = (i == 0 || i == 1)
      rw [Bool.or_false, Bool.beq_comm, Bool.beq_comm (a := (1 : Int))]
    rw [e]
    exact q1
  | _ => exact q H1 s1
noncomputable def letter (c : Nat) : Bool := decide (97 ≤ c ∧ c ≤ 122)
noncomputable def nameOk (z : Str) : Bool := decide (1 ≤ z.length ∧ z.length ≤ 8) && z.cps.toList.all letter
noncomputable def isName : V → Bool
  | .str z => nameOk z
  | _ => false
noncomputable def LETTERS : Str := "abcdefghijklmnopqrstuvwxyz"
theorem letters_mem (c : Nat) : decide (c ∈ LETTERS.cps.toList) = letter c := by
  unfold letter
  rw [show LETTERS.cps.toList = List.range' 97 26 by decide +kernel, decide_eq_decide, List.mem_range'_1]
  exact ⟨fun h => ⟨h.1, Nat.le_of_lt_succ h.2⟩, fun h => ⟨h.1, Nat.lt_succ_of_le h.2⟩⟩
theorem in_letters {K : PySem.W.Frag} {H : Hp} {c : Nat} {Q : VK} (q : Q (.bl (letter c)) H) : rCmp K .In (.str ⟨#[c]⟩) (.str LETTERS) H Q := by
  refine .inl (.inl ⟨_, _, rfl, rfl, ?_⟩)
  rw [StrLaws.found_one, letters_mem]
  exact q
theorem line20 : (20000 : Nat) ≤ sizeLine := by decide
noncomputable def spN : Sp := fun vs H Q _ => ∃ x, vs = [x] ∧ Known H x ∧ (∀ z, x = .str z → z.length ≤ 20000) ∧ ∀ H', Same H H' → Q (.bl (isName x)) H'
theorem sub_str {H : Hp} {x : V} (h : Known H x) : subTy (tyName H x) "str" = (match x with | .str _ => true | _ => false) := by
  cases x with
  | ref a =>
    show subTy (hoTy (H a)) "str" = false
    unfold hoTy
    split <;> rfl
  | _ => rfl
theorem wp_is_name {G : Gam} {K : PySem.W.Frag} (v1 : G.val "LETTERS" = some (.str LETTERS)) (v2 : G.val "LONGEST_NAME" = some (.int 8)) :
    ∀ vs H Q E, spN vs H Q E → wpB G K (fun _ => E) c_is_name { nx := fun _ H' => Q .non H', rt := Q } (L2.start n_is_name vs) H := by
  rintro vs H Q E ⟨x, rfl, hk, hz, q⟩
  unfold c_is_name
  change wpB G K _ _ _ [some x] H
  walk_at "wp"
  refine isi hk .str ⟨_, rfl, ?_⟩
  rw [show Ty.t .str = "str" from rfl, sub_str hk]
  cases x with
  | str z =>
    have hz := hz z rfl
    have hl : z.length ≤ sizeLine := Nat.le_trans hz line20
    have all : ∀ R : VK, (∀ H', Same H H' → R (.bl (z.cps.toList.all letter)) H') → tComp (iAny K (tVar 0)) (gName 0) tYes (tOp (rCmp K .In) (tVar 0) fun σ H Q => ∃ v, G.val "LETTERS" = some v ∧ Q v H) (slotsOf ["sign"] []) [some (.str z)] H fun x H2 => rBf K .all [x] H2 R := by
      intro R hR
      refine comp_of (any_var_str rfl (comp_seq seq_str hl (fun _ _ => trivial) (fun i v _ => v = .bl (letter (z.cps.toList.getD i 0))) (fun _ _ _ _ _ h => h) (fun τ => ∃ t, τ = [t]) ⟨none, rfl⟩ ?_ ?_))
      · rintro i x τ H3 R hi ⟨t, rfl⟩ s3 ⟨c, hc, rfl⟩ k
        refine ⟨_, rfl, _, v1, in_letters (k _ _ _ ⟨_, rfl⟩ (Same.refl _) ?_)⟩
        have : z.cps.toList[i]? = some c := by simpa using hc
        rw [List.getD_eq_getElem?_getD, this]; rfl
      · intro vs H2 l hvl hF s2 hl2
        have e := bool_list hvl hF
        subst e
        refine ⟨l, _, rfl, SqL.of upd_same, ?_⟩
        have e2 : ((List.range z.length).map fun i => letter (z.cps.toList.getD i 0)).all id = z.cps.toList.all letter := by
          have := all_getD z.cps.toList 0 letter
          rw [show z.cps.toList.length = z.length by simp [Str.length]] at this
          exact this
        rw [e2]
        exact hR _ (s2.trans (same_upd hl2))
    simp only [Bool.not_true, Bool.false_eq_true, if_false, v2, Option.some.injEq, exists_eq_left', exists_eq_left, V.bl.injEq, V.int.injEq, le_ii, len_s, hl, true_and]
    have q' : ∀ H', Same H H' → Q (.bl (nameOk z)) H' := q
    unfold nameOk at q'
    by_cases h1 : 1 ≤ z.length
    · by_cases h2 : z.length ≤ 8
      · have e1 : decide ((1 : Int) ≤ z.length) = true := decide_eq_true (by omega)
        have e2 : decide ((z.length : Int) ≤ 8) = true := decide_eq_true (by omega)
        rw [decide_eq_true (And.intro h1 h2), Bool.true_and] at q'
        simp only [e1, e2, if_true, Bool.not_true, Bool.false_eq_true, if_false]
        exact all Q q'
      · have e1 : decide ((1 : Int) ≤ z.length) = true := decide_eq_true (by omega)
        have e2 : decide ((z.length : Int) ≤ 8) = false := decide_eq_false (by omega)
        rw [decide_eq_false (fun h => h2 h.2), Bool.false_and] at q'
        simp only [e1, e2, if_true, Bool.not_false]
        exact q' H (Same.refl H)
    · have e1 : decide ((1 : Int) ≤ z.length) = false := decide_eq_false (by omega)
      rw [decide_eq_false (fun h => h1 h.1), Bool.false_and] at q'
      simp only [e1, Bool.false_eq_true, if_false, Bool.not_false, if_true]
      exact q' H (Same.refl H)
  | _ => exact q H (Same.refl H)
noncomputable def hoTup : Option HO → Option (List V)
  | some (.tup xs) => some xs
  | _ => none
theorem hoTup_some {o : Option HO} {xs : List V} (h : hoTup o = some xs) : o = some (.tup xs) := by
  unfold hoTup at h
  split at h
  · cases h; rfl
  · cases h
theorem sub_tuple (o : Option HO) : subTy (hoTy o) "tuple" = (hoTup o).isSome := by
  unfold hoTy
  split <;> first
    | rfl
    | skip
  unfold hoTup
  split <;> simp_all
  rfl
noncomputable def areReadings (H : Hp) : V → Bool
  | .ref a => match hoTup (H a) with
    | some xs => decide (xs.length ≤ 60) && xs.all isReading
    | none => false
  | _ => false
noncomputable def spR : Sp := fun vs H Q _ => ∃ x, vs = [x] ∧ Known H x ∧ (∀ a xs, x = .ref a → H a = some (.tup xs) → xs.length ≤ 20000 ∧ ∀ y ∈ xs, Known H y) ∧ ∀ H', Same H H' → Q (.bl (areReadings H x)) H'
theorem wp_are_readings {G : Gam} {K : PySem.W.Frag} (g1 : G.fn "is_reading" 1 = some (spB isReading, [])) (v1 : G.val "MOST_PLACES" = some (.int 60)) :
    ∀ vs H Q E, spR vs H Q E → wpB G K (fun _ => E) c_are_readings { nx := fun _ H' => Q .non H', rt := Q } (L2.start n_are_readings vs) H := by
  rintro vs H Q E ⟨x, rfl, hk, hx, q⟩
  unfold c_are_readings
  change wpB G K _ _ _ [some x] H
  walk_at "wp"
  refine isi hk .tuple ⟨_, rfl, ?_⟩
  rw [show Ty.t .tuple = "tuple" from rfl]
  cases x with
  | ref a =>
    show if (!subTy (hoTy (H a)) "tuple") = true then _ else _
    rw [sub_tuple]
    have q0 : ∀ H', Same H H' → Q (.bl (match hoTup (H a) with | some xs => decide (xs.length ≤ 60) && xs.all isReading | none => false)) H' := q
    cases e0 : hoTup (H a) with
    | none =>
      rw [e0] at q0
      exact q0 H (Same.refl H)
    | some xs =>
        rw [e0] at q0
        have e := hoTup_some e0
        have q' : ∀ H', Same H H' → Q (.bl (decide (xs.length ≤ 60) && xs.all isReading)) H' := q0
        obtain ⟨hl, hy⟩ := hx a xs rfl e
        have hl' : xs.length ≤ sizeLine := Nat.le_trans hl line20
        simp only [Option.isSome_some, Bool.not_true, Bool.false_eq_true, if_false]
        refine Or.inl ⟨a, xs, rfl, .inr (SqT.of e), _, v1, ?_⟩
        rw [gt_ii]
        refine ⟨_, rfl, ?_⟩
        by_cases hle : xs.length ≤ 60
        · rw [decide_eq_true hle, Bool.true_and] at q'
          have e1 : decide ((60 : Int) < xs.length) = false := decide_eq_false (by omega)
          rw [e1]
          simp only [Bool.false_eq_true, if_false]
          refine comp_of (any_var_tup rfl (SqT.of e) (comp_seq seq_tup hl' (fun H1 s1 => s1.tup (SqT.of e)) (fun i v _ => v = .bl (isReading (xs.getD i .non))) (fun _ _ _ _ _ h => h) (fun τ => ∃ t, τ = [t]) ⟨none, rfl⟩ ?_ ?_))
          · rintro i y τ H3 R hi ⟨t, rfl⟩ s3 hy3 k
            have hym : y ∈ xs := List.mem_of_getElem? hy3
            exact ⟨_, _, g1, y, rfl, y, rfl, ((hy y hym).same s3).1, fun H4 s4 => k _ _ _ ⟨_, rfl⟩ s4 (by rw [getD_some hy3])⟩
          · intro vs H2 l hvl hF s2 hl2
            have e := bool_list hvl hF
            subst e
            refine ⟨l, _, rfl, SqL.of upd_same, ?_⟩
            rw [all_getD xs .non isReading]
            exact q' _ (s2.trans (same_upd hl2))
        · rw [decide_eq_false hle, Bool.false_and] at q'
          have e1 : decide ((60 : Int) < xs.length) = true := decide_eq_true (by omega)
          rw [e1]
          simpa using q' H (Same.refl H)
  | _ => exact q H (Same.refl H)
end Cp
namespace Cp
open PySem R
end Cp
namespace Cp
open PySem PySem.Spec PyProof.Rows L2 R
theorem map_list {xs vs : List V} {f : V → V} (hl : vs.length = xs.length) (h : ∀ (i : Nat) v, vs[i]? = some v → v = f (xs.getD i .non)) : vs = xs.map f := by
  apply List.ext_getElem
  · simp [hl]
  · intro i h1 h2
    have h3 : i < xs.length := by omega
    have := h i vs[i] (by simp [h1])
    rw [this, List.getElem_map, List.getD_eq_getElem?_getD, List.getElem?_eq_getElem h3]
    rfl
theorem one_line : (1 : Nat) ≤ sizeLine := by decide
theorem reading_cases {v : V} (h : isReading v = true) : v = .int 0 ∨ v = .int 1 := by
  cases v with
  | int i =>
    have h' : (i == 0 || i == 1) = true := h
    rw [Bool.or_eq_true, beq_iff_eq, beq_iff_eq] at h'
    rcases h' with rfl | rfl
    · exact .inl rfl
    · exact .inr rfl
  | _ => cases h
theorem comp_filt {J : It} {Hc : Hp → Prop} {g : TG} {tc : TT} {te : TE} {Q : VK} {τ0 : L2.St} {H1 : Hp} {xs : List V} (S : Seqs J xs.length (fun i x _ => xs[i]? = some x) Hc) (hn : xs.length ≤ sizeLine) (hc : ∀ H, Same H1 H → Hc H)
    (t : V → Bool) (f : V → V) (T : L2.St → Prop) (hT : T τ0)
    (step : ∀ x τ H3 (Rt : L2.St → V → Hp → Prop) (Rf : L2.St → Hp → Prop), x ∈ xs → T τ → Same H1 H3 → (∀ τ' H6, T τ' → Same H3 H6 → t x = true → Rt τ' (f x) H6) → (∀ τ' H6, T τ' → Same H3 H6 → t x = false → Rf τ' H6) →
      g x τ H3 fun τ4 H4 => tc τ4 H4 fun b H5 => if b = true then te τ4 H5 (Rt τ4) else Rf τ4 H5)
    (fin : ∀ H2 l, Same H1 H2 → H2 l = none → Q (.ref l) (upd H2 l (.lst ((xs.filter t).map f)))) : CompB J g tc te τ0 H1 Q := by
  refine ⟨fun i m τ acc H2 => m = xs.length - i ∧ i ≤ xs.length ∧ T τ ∧ acc = ((xs.take i).filter t).map f ∧ Same H1 H2, ⟨xs.length, by simp, Nat.zero_le _, hT, by simp, Same.refl _⟩, ?_⟩
  rintro i m τ acc H2 ⟨rfl, hi, ht, rfl, sm⟩
  have q := hc H2 sm
  by_cases hlt : i < xs.length
  · refine .inr ⟨S.go i H2 q hlt, fun τ' acc' H' => T τ' ∧ acc' = ((xs.take (i + 1)).filter t).map f ∧ Same H1 H', fun τ' acc' H' ⟨a, b, c⟩ => ⟨xs.length - (i + 1), by omega, rfl, hlt, a, b, c⟩, fun x H3 y => ?_⟩
    obtain ⟨y1, y2⟩ := S.yld i H2 x H3 q hlt y
    have e : xs.take (i + 1) = xs.take i ++ [x] := by rw [List.take_add_one, y1]; rfl
    have hlen : (((xs.take i).filter t).map f).length ≤ i := by
      rw [List.length_map]
      refine Nat.le_trans (List.length_filter_le _ _) ?_
      rw [List.length_take]
      omega
    refine step x τ H3 _ _ (List.mem_of_getElem? y1) ht (sm.trans y2) (fun τ' H6 h1 h2 h3 => ⟨by omega, h1, ?_, (sm.trans y2).trans h2⟩) (fun τ' H6 h1 h2 h3 => ⟨h1, ?_, (sm.trans y2).trans h2⟩)
    · rw [e, List.filter_append, List.map_append]
      simp [h3]
    · rw [e, List.filter_append, List.map_append]
      simp [h3]
  · have e : i = xs.length := by omega
    subst e
    rw [List.take_length]
    exact .inl ⟨S.stop _ H2 q (Nat.le_refl _), fun l hl' => fin H2 l sm hl'⟩
end Cp
namespace Lt
open PySem R
noncomputable def p_law_cell_at : List Str := ["_law_script", "_law_k"]
noncomputable def n_law_cell_at : List Str := ["_law_script", "_law_k"]
noncomputable def c_law_cell_at : CB :=
    (.cons (.iff (.cmp .Lt (.var 1) (.bfn .len (.cons (.var 0) .nil)))
    (.cons (.ret (.idx (.var 0) (.var 1)))
    .nil)
    .nil)
    (.cons (.ret (.con (.int 0)))
    .nil))
noncomputable def p_law_mixed : List Str := ["_law_cell", "_law_k"]
noncomputable def n_law_mixed : List Str := ["_law_cell", "_law_k"]
noncomputable def c_law_mixed : CB :=
    (.cons (.iff (.and (.cmp .Eq (.bin .Mod (.var 0) (.con (.int 2))) (.con (.int 1))) (.cmp .Gt (.var 0) (.bin .Pow (.con (.int 10)) (.con (.int 12)))))
    (.cons (.ret (.bin .Mod (.bin .FloorDiv (.var 0) (.con (.int 2))) (.bin .Pow (.con (.int 10)) (.con (.int 60)))))
    .nil)
    .nil)
    (.cons (.ret (.bin .Mod (.bin .Mult (.bin .Add (.bin .Mod (.var 0) (.bin .Pow (.con (.int 10)) (.con (.int 30)))) (.con (.int 1))) (.bin .Add (.con (.int 48271)) (.bin .Mult (.bin .Mult (.con (.int 7919)) (.var 1)) (.var 1)))) (.con (.int 2147483629))))
    .nil))
end Lt
namespace Lt
open PySem PySem.Spec PyProof.Rows L2 R Cp
theorem cmulR {i j : Int} (h0 : 0 ≤ j) (h1 : j < 18446744073709551616) : CMul i j := .inr ⟨by omega, by omega⟩
theorem cmulL {i j : Int} (h0 : 0 ≤ i) (h1 : i < 18446744073709551616) : CMul i j := .inl ⟨by omega, by omega⟩
noncomputable def spCell (K : PySem.W.Frag) : Sp := fun vs H Q _ => ∃ (a : Addr) (ns : List Int) (k : Nat), vs = [.ref a, .int k] ∧ SqL K H a (ns.map V.int) ∧ Q (.int (ns.getD k 0)) H
theorem wp_cell {G : Gam} {K : PySem.W.Frag} : ∀ vs H Q E, spCell K vs H Q E → wpB G K (fun _ => E) c_law_cell_at { nx := fun _ H' => Q .non H', rt := Q } (L2.start n_law_cell_at vs) H := by
  rintro vs H Q E ⟨a, ns, k, rfl, hs, q⟩
  unfold c_law_cell_at
  change wpB G K _ _ _ [some (.ref a), some (.int k)] H
  walk_at "wp"
  refine Or.inl ⟨a, _, rfl, .inl hs, ?_⟩
  show rCmp K .Lt (.int (k : Int)) (.int ((ns.map V.int).length : Int)) H _
  rw [lt_ii, List.length_map]
  refine ⟨_, rfl, ?_⟩
  by_cases hk : k < ns.length
  · rw [decide_eq_true (by omega : (k : Int) < (ns.length : Int)), if_pos rfl]
    refine .inl ⟨a, _, k, _, rfl, rfl, hs, atI_nat (j := k) (v := .int (ns.getD k 0)) ?_, q⟩
    rw [List.getElem?_map, List.getElem?_eq_getElem hk, List.getD_eq_getElem?_getD, List.getElem?_eq_getElem hk]
    rfl
  · rw [decide_eq_false (by omega : ¬ (k : Int) < (ns.length : Int)), if_neg Bool.false_ne_true]
    rw [List.getD_eq_getElem?_getD, List.getElem?_eq_none (by omega)] at q
    exact q
noncomputable def spMixed : Sp := fun vs H Q _ => ∃ c k : Int, vs = [.int c, .int k] ∧ 0 ≤ k ∧ k ≤ 100 ∧ ∀ d : Int, 0 ≤ d → Q (.int d) H
theorem wp_mixed {G : Gam} {K : PySem.W.Frag} : ∀ vs H Q E, spMixed vs H Q E → wpB G K (fun _ => E) c_law_mixed { nx := fun _ H' => Q .non H', rt := Q } (L2.start n_law_mixed vs) H := by
  rintro vs H Q E ⟨c, k, rfl, hk0, hk1, q⟩
  unfold c_law_mixed
  change wpB G K _ _ _ [some (.int c), some (.int k)] H
  walk_at "wp"
  have hkk : 0 ≤ 7919 * k * k ∧ 7919 * k * k ≤ 79190000 := by
    have h1 : 0 ≤ k * k := Int.mul_nonneg hk0 hk0
    have h2 : k * k ≤ 100 * 100 := Int.mul_le_mul hk1 hk1 hk0 (by decide)
    rw [Int.mul_assoc]
    omega
  have last : CPow 10 30 ∧ 0 < (10 : Int) ^ Int.toNat 30 ∧ CMul 7919 k ∧ CMul (7919 * k) k ∧ CMul (c % 10 ^ Int.toNat 30 + 1) (48271 + 7919 * k * k) ∧ (0 : Int) < 2147483629 ∧ Q (V.int ((c % 10 ^ Int.toNat 30 + 1) * (48271 + 7919 * k * k) % 2147483629)) H :=
    ⟨⟨by decide, by decide, by decide⟩, by decide, cmulL (by decide) (by decide), cmulR hk0 (by omega), cmulR (by omega) (by omega), by decide, q _ (Int.emod_nonneg _ (by decide))⟩
  refine ⟨by decide, ?_⟩
  split
  · refine ⟨⟨by decide, by decide, by decide⟩, ?_⟩
    split
    · exact ⟨⟨by decide, by decide⟩, ⟨by decide, by decide, by decide⟩, by decide, q _ (Int.emod_nonneg _ (by decide))⟩
    · exact last
  · exact last
theorem mod2 (x : Int) : isReading (.int (x % 2)) = true := by
  have h0 : 0 ≤ x % 2 := Int.emod_nonneg _ (by decide)
  have h1 : x % 2 < 2 := Int.emod_lt_of_pos _ (by decide)
  have h : x % 2 = 0 ∨ x % 2 = 1 := by omega
  rcases h with h | h <;> rw [h] <;> rfl
noncomputable def lett (x : Int) : Nat := 97 + (x % 26).toNat
theorem lett_ok (x : Int) : letter (lett x) = true := by
  have h0 : 0 ≤ x % 26 := Int.emod_nonneg _ (by decide)
  have h1 : x % 26 < 26 := Int.emod_lt_of_pos _ (by decide)
  unfold letter lett
  exact decide_eq_true (by omega)
noncomputable abbrev mkS (l : List Nat) : Str := ⟨l.toArray⟩
theorem mk_app (a b : List Nat) : mkS a ++ mkS b = mkS (a ++ b) := by
  show (⟨a.toArray ++ b.toArray⟩ : Str) = ⟨(a ++ b).toArray⟩
  rw [List.append_toArray]
theorem mk_len (a : List Nat) : (mkS a).length = a.length := by show a.toArray.size = _; simp
theorem cut_take (l : List Nat) (k : Nat) : cutS (mkS l) none (some (k : Int)) = mkS (l.take k) := by
  unfold cutS
  rw [HT.sIx_nat, HT.sIx_none, mk_len]
  show mkS _ = _
  congr 1
  show ((l.toArray.toList.drop 0).take (min k l.length - 0)) = l.take k
  rw [List.drop_zero, Nat.sub_zero]
  show l.take (min k l.length) = l.take k
  by_cases h : k ≤ l.length
  · rw [Nat.min_eq_left h]
  · rw [Nat.min_eq_right (by omega), List.take_length, List.take_of_length_le (by omega)]
theorem cut_drop (l : List Nat) (k : Nat) : cutS (mkS l) (some (k : Int)) none = mkS (l.drop k) := by
  unfold cutS
  rw [HT.sIx_nat, HT.sIx_none, mk_len]
  show mkS _ = _
  congr 1
  show ((l.toArray.toList.drop (min k l.length)).take (l.length - min k l.length)) = l.drop k
  show (l.drop (min k l.length)).take (l.length - min k l.length) = l.drop k
  rw [List.take_of_length_le (by rw [List.length_drop]; omega)]
  by_cases h : k ≤ l.length
  · rw [Nat.min_eq_left h]
  · rw [Nat.min_eq_right (by omega), List.drop_length, List.drop_of_length_le (by omega)]
theorem letters_at : ∀ j : Fin 26, LETTERS.cps.toList[j.val]? = some (97 + j.val) := by decide +kernel
theorem at_letters (x : Int) : atI LETTERS.cps.toList (x % 26) = some (lett x) := by
  have h0 : 0 ≤ x % 26 := Int.emod_nonneg _ (by decide)
  have h1 : x % 26 < 26 := Int.emod_lt_of_pos _ (by decide)
  obtain ⟨j, hj⟩ := Int.eq_ofNat_of_zero_le h0
  rw [hj]
  refine atI_nat ?_
  have := letters_at ⟨j, by omega⟩
  rw [this]
  unfold lett
  rw [hj]
  rfl
theorem letters_line : LETTERS.length ≤ sizeLine := by decide +kernel
theorem short {n : Nat} (h : n ≤ 40) : n ≤ sizeLine := Nat.le_trans h (by decide)
theorem mk1 (x : Nat) : (⟨#[x]⟩ : Str) = mkS [x] := rfl
end Lt
namespace Q
open PySem PySem.Spec PySem.W PyProof.Rows L2
end Q
namespace Lt
open PySem PySem.Spec PyProof.Rows L2 R Cp
theorem isiX {K : PySem.W.Frag} {H : Hp} {a C D : Addr} {b : Bool} {Q : VK} (e : H a = some (excO a (.ref C))) (o : excOk K C = true) (k : PySem.W.kitOne K (.ref C) (.ref D) = some b) (q : Q (.bl b) H) : rBf K .isinstance [.ref a, .ref D] H Q :=
  .inr (.inr ⟨a, C, _, _, b, rfl, e, o, .inr ⟨D, rfl, rfl⟩, k, q⟩)
theorem isiV {K : PySem.W.Frag} {H : Hp} {a C : Addr} {b : Bool} {Q : VK} (e : H a = some (excO a (.ref C))) (o : excOk K C = true) (k : PySem.W.kitOne K (.ref C) (.type "ValueError") = some b) (q : Q (.bl b) H) : rBf K .isinstance [.ref a, .ty "ValueError"] H Q :=
  .inr (.inr ⟨a, C, _, _, b, rfl, e, o, .inl ⟨_, rfl, rfl⟩, k, q⟩)
mutual
theorem eqD_self : ∀ d : D, eqD d d = true
  | .non => rfl
  | .bl b => by cases b <;> rfl
  | .int i => by show (i == i) = true; simp
  | .str x => by show (x == x) = true; simp
  | .tup ds => eqDs_self ds
  | .lst ds => eqDs_self ds
theorem eqDs_self : ∀ ds : List D, eqDs ds ds = true
  | [] => rfl
  | d :: ds => by show (eqD d d && eqDs ds ds) = true; rw [eqD_self d, eqDs_self ds]; rfl
end
end Lt
namespace Cp
open PySem PySem.Spec PyProof.Rows L2 R Lm
end Cp
namespace R
open PySem PySem.Spec PyProof.Rows L2
section
variable {G : Gam} {K : PySem.W.Frag} {E : XS} {σ : L2.St} {H : Hp}
end
end R
namespace K02
open PySem R
end K02
namespace K02
open PySem PySem.Spec PyProof.Rows L2 R Cp Lt Lm
section
variable {G : Gam} {K : PySem.W.Frag} {E : XS} {σ : L2.St} {H : Hp}
end
section
variable {G : Gam} {K : PySem.W.Frag} {E : XS} {σ : L2.St} {H : Hp}
end
section
variable {H : Hp} {c : Int} {n : Nat} {ys xs : List V} {p : Addr} {x : V}
end
section
variable {G : Gam} {K : PySem.W.Frag} {E : XS} {σ : L2.St} {H : Hp} {t r : Addr} {c : Int} {n : Nat} {ys rs : List V} {z : Str}
variable {j : Nat}
end
end K02
namespace K02
open PySem R
end K02
namespace K02
open PySem PySem.Spec PyProof.Rows L2 R Cp Lt Lm
noncomputable def rdD : V → D
  | .int i => .int i
  | _ => .non
theorem reps_rdD {K : PySem.W.Frag} {H : Hp} : ∀ {rs : List V}, (∀ y ∈ rs, isReading y = true) → Reps K H (rs.map rdD) rs
  | [], _ => rfl
  | y :: rs, h => by
    refine ⟨y, rs, rfl, ?_, reps_rdD fun z hz => h z (.tail _ hz)⟩
    rcases reading_cases (h y (.head _)) with rfl | rfl <;> rfl
theorem hgts_rdD : ∀ {rs : List V}, (∀ y ∈ rs, isReading y = true) → hgts (rs.map rdD) = 0
  | [], _ => rfl
  | y :: rs, h => by
    have e := hgts_rdD (rs := rs) fun z hz => h z (.tail _ hz)
    rcases reading_cases (h y (.head _)) with rfl | rfl <;> (show max 0 (hgts (rs.map rdD)) = 0; rw [e]; rfl)
theorem isi_list {K : PySem.W.Frag} {H : Hp} {l : Addr} {xs : List V} {Q : VK} (h : H l = some (.lst xs)) (q : Q (.bl true) H) : rBf K .isinstance [.ref l, .ty (Ty.t .list)] H Q := by
  refine isi (kn_lst h) .list ?_
  have e : subTy (tyName H (.ref l)) (Ty.t .list) = true := by show subTy (hoTy (H l)) "list" = true; rw [h]; rfl
  rw [e]; exact q
theorem isi_tup {K : PySem.W.Frag} {H : Hp} {l : Addr} {xs : List V} {Q : VK} (h : H l = some (.tup xs)) (q : Q (.bl true) H) : rBf K .isinstance [.ref l, .ty (Ty.t .tuple)] H Q := by
  refine isi (kn_tup h) .tuple ?_
  have e : subTy (tyName H (.ref l)) (Ty.t .tuple) = true := by show subTy (hoTy (H l)) "tuple" = true; rw [h]; rfl
  rw [e]; exact q
end K02
namespace K11
open PySem R
end K11
namespace K11
open PySem PySem.Spec PyProof.Rows L2 R Cp Lt Lm K02
noncomputable def code (v : V) : Nat := if v = .int 0 then 48 else 49
noncomputable def sgn (v : V) : Str := mkS [code v]
noncomputable def rdT (rs : List V) : Str := if rs = [] then "-" else mkS (rs.map code)
theorem fold_sgn : ∀ (rs : List V) (acc : List Nat), (rs.map sgn).foldl HAppend.hAppend (mkS acc) = mkS (acc ++ rs.map code)
  | [], acc => by simp
  | v :: rs, acc => by
    rw [List.map_cons, List.foldl_cons]
    unfold sgn
    rw [mk_app]
    show (rs.map sgn).foldl HAppend.hAppend (mkS (acc ++ [code v])) = _
    rw [fold_sgn rs, List.map_cons, List.append_assoc]
    rfl
theorem join_sgn (rs : List V) : Txt.join "" (rs.map sgn) = mkS (rs.map code) := by
  show Builtin.Str.glued _ _ = _
  rw [StrLaws.glued_eq_join, show (Str.ofString "" : Str) = ⟨#[]⟩ from by decide +kernel, ← fold_cat_join_nil]
  exact fold_sgn rs []
theorem rdT_len (rs : List V) (h : rs.length ≤ 60) : (rdT rs).length ≤ 60 := by
  unfold rdT
  split
  · decide +kernel
  · rw [mk_len, List.length_map]; exact h
theorem ones (rs : List V) : ((rs.map sgn).map (·.length)).sum = rs.length := by
  induction rs with
  | nil => rfl
  | cons v rs ih =>
    rw [List.map_cons, List.map_cons, List.sum_cons, ih, List.length_cons]
    show (mkS [code v]).length + _ = _
    rw [mk_len]
    simp [Nat.add_comm]
theorem lit01 (v : V) (h : isReading v = true) : ∃ i : Int, v = .int i ∧ atI (Str.cps "01").toList i = some (code v) := by
  rcases reading_cases h with rfl | rfl
  · exact ⟨0, rfl, by decide +kernel⟩
  · exact ⟨1, rfl, by decide +kernel⟩
end K11
namespace K12
open PySem PySem.Spec PyProof.Rows L2 R Cp Lt Lm K02 K11
theorem cat_list (x y : Str) : (x ++ y).cps.toList = x.cps.toList ++ y.cps.toList := by
  show (x.cps ++ y.cps).toList = _
  simp
theorem cut_eq {c : Nat} {x y : List Nat} : ∀ {p q : List Nat}, c ∉ p → c ∉ q → p ++ c :: x = q ++ c :: y → p = q ∧ x = y
  | [], [], _, _, h => by simpa using h
  | [], b :: q, _, hq, h => by
    have e := (List.cons.inj h).1
    exact absurd (by rw [e]; exact List.mem_cons_self) hq
  | a :: p, [], hp, _, h => by
    have e := (List.cons.inj h).1
    exact absurd (by rw [e]; exact List.mem_cons_self) hp
  | a :: p, b :: q, hp, hq, h => by
    obtain ⟨e1, e2⟩ := List.cons.inj h
    obtain ⟨e3, e4⟩ := cut_eq (fun z => hp (List.mem_cons_of_mem _ z)) (fun z => hq (List.mem_cons_of_mem _ z)) e2
    exact ⟨by rw [e1, e3], e4⟩
theorem join2 (c : Nat) (x y : Str) (r : List Str) : (Str.join ⟨#[c]⟩ (x :: y :: r)).cps.toList = x.cps.toList ++ c :: (Str.join ⟨#[c]⟩ (y :: r)).cps.toList := by
  show (x ++ ⟨#[c]⟩ ++ Str.join ⟨#[c]⟩ (y :: r)).cps.toList = _
  rw [cat_list, cat_list]
  simp
theorem str_eq {x y : Str} (h : x.cps.toList = y.cps.toList) : x = y := by
  cases x; cases y
  exact congrArg Str.mk (Array.toList_inj.mp h)
theorem join_inj {c : Nat} : ∀ {ps qs : List Str}, ps ≠ [] → qs ≠ [] → (∀ p ∈ ps, c ∉ p.cps.toList) → (∀ p ∈ qs, c ∉ p.cps.toList) → Str.join ⟨#[c]⟩ ps = Str.join ⟨#[c]⟩ qs → ps = qs
  | [], _, h, _, _, _, _ => absurd rfl h
  | _, [], _, h, _, _, _ => absurd rfl h
  | [p], [q], _, _, _, _, h => by
    have e : p = q := h
    rw [e]
  | [p], q :: q' :: r, _, _, hp, _, h => by
    have e : p.cps.toList = (Str.join ⟨#[c]⟩ (q :: q' :: r)).cps.toList := congrArg (fun z => z.cps.toList) (show p = _ from h)
    rw [join2] at e
    exact absurd (by rw [e]; simp) (hp p List.mem_cons_self)
  | p :: p' :: r, [q], _, _, _, hq, h => by
    have e : (Str.join ⟨#[c]⟩ (p :: p' :: r)).cps.toList = q.cps.toList := congrArg (fun z => z.cps.toList) (show _ = q from h)
    rw [join2] at e
    exact absurd (by rw [← e]; simp) (hq q List.mem_cons_self)
  | p :: p' :: r, q :: q' :: r', _, _, hp, hq, h => by
    have e := congrArg (fun z => z.cps.toList) h
    simp only [join2] at e
    obtain ⟨e1, e2⟩ := cut_eq (hp p List.mem_cons_self) (hq q List.mem_cons_self) e
    have e3 := join_inj (ps := p' :: r) (qs := q' :: r') (by simp) (by simp) (fun z hz => hp z (List.mem_cons_of_mem _ hz)) (fun z hz => hq z (List.mem_cons_of_mem _ hz)) (str_eq e2)
    rw [str_eq e1, e3]
theorem split_join {c : Nat} {ps : List Str} (h : ps ≠ []) (hp : ∀ p ∈ ps, c ∉ p.cps.toList) : Txt.split (Txt.join ⟨#[c]⟩ ps) ⟨#[c]⟩ = ps := by
  have e : Txt.join ⟨#[c]⟩ ps = Str.join ⟨#[c]⟩ ps := StrLaws.glued_eq_join _ _
  rw [e]
  refine join_inj (fun z => ?_) h (StrLaws.split_free _ c) hp (StrLaws.join_split _ _)
  have := split_pos (Str.join ⟨#[c]⟩ ps) ⟨#[c]⟩
  rw [z] at this
  exact absurd this (by decide)
theorem sp_is : (Str.ofString " " : Str) = ⟨#[32]⟩ := by decide +kernel
theorem code_cases (v : V) : K11.code v = 48 ∨ K11.code v = 49 := by
  unfold K11.code
  split
  · exact .inl rfl
  · exact .inr rfl
theorem rdT_free {c : Nat} (h1 : c ≠ 48) (h2 : c ≠ 49) (h3 : c ≠ 45) (rs : List V) : c ∉ (rdT rs).cps.toList := by
  unfold rdT
  split
  · rw [show (Str.cps (Str.ofString "-")).toList = [45] from by decide +kernel]
    simpa using h3
  · intro h
    have h' : c ∈ rs.map K11.code := by simpa using h
    obtain ⟨v, _, e⟩ := List.mem_map.mp h'
    rcases code_cases v with z | z
    · exact h1 (e.symm.trans z)
    · exact h2 (e.symm.trans z)
theorem name_free {c : Nat} {z : Str} (h : nameOk z = true) (hc : letter c = false) : c ∉ z.cps.toList := by
  unfold nameOk at h
  rw [Bool.and_eq_true] at h
  intro q
  have := List.all_eq_true.mp h.2 c q
  rw [hc] at this
  cases this
end K12
namespace K91
open PySem PySem.Spec PyProof.Rows L2 R Cp Lt Lm K02 K11 K12
inductive Th where
  | str (z : Str) | int (n : Int) | rds (rs : List V)
noncomputable def fig (c : Nat) : Bool := c == 48 || c == 49
noncomputable def figV (c : Nat) : V := if c = 48 then .int 0 else .int 1
noncomputable def rr (z : Str) : Option (List V) :=
  if z = "-" then some [] else if z.length = 0 then none else if z.cps.toList.all fig = true then (if z.length ≤ 60 then some (z.cps.toList.map figV) else none) else none
noncomputable def dig (c : Nat) : Bool := decide (48 ≤ c ∧ c ≤ 57)
noncomputable def placeL : List Nat → Option Int
  | [c] => if dig c then some ((c - 48 : Nat) : Int) else none
  | [c, d] => if (dig c && dig d && !(c == 48)) = true then some ((10 * (c - 48) + (d - 48) : Nat) : Int) else none
  | _ => none
noncomputable def placeOf (z : Str) : Option Int := placeL z.cps.toList
noncomputable def part (p w : Str) : Option Th :=
  if p = "NAME" then (if nameOk w = true then some (.str w) else none)
  else if p = "READINGS" then (rr w).map .rds
  else if p = "READING" then (if w = "0" then some (.int 0) else if w = "1" then some (.int 1) else none)
  else (placeOf w).map .int
noncomputable def PT : List (Str × List Str) := [("copy", ["NAME", "READINGS"]), ("drop", ["NAME"]), ("elder", ["PLACE", "READING"]), ("free", ["PLACE"]), ("table", []), ("clash", []), ("tree", []), ("first", []), ("stands", []), ("aside", []), ("mixers", []), ("mixed", ["NAME"])]
noncomputable def pts (w : Str) : Option (List Str) := PT.lookup w
noncomputable def parts2 : List Str → List Str → Option (List Th)
  | [], [] => some []
  | p :: ps, w :: ws => match part p w, parts2 ps ws with
    | some d, some ds => some (d :: ds)
    | _, _ => none
  | _, _ => none
noncomputable def dec : List Str → Option (List Th)
  | [] => none
  | w :: r => (pts w).bind fun ps => parts2 ps r
theorem parts2_len : ∀ {ps ws : List Str} {ds : List Th}, parts2 ps ws = some ds → ps.length = ws.length
  | [], [], _, _ => rfl
  | p :: ps, w :: ws, ds, h => by
    unfold parts2 at h
    split at h
    · rename_i e; rw [List.length_cons, List.length_cons, parts2_len e]
    · cases h
  | [], _ :: _, _, h => nomatch h
  | _ :: _, [], _, h => nomatch h
theorem parts2_none : ∀ {ps ws : List Str} {i : Nat} {p w : Str}, ps[i]? = some p → ws[i]? = some w → part p w = none → parts2 ps ws = none
  | [], _, i, _, _, h, _, _ => by simp at h
  | _ :: _, [], i, _, _, _, h, _ => by simp at h
  | p' :: ps, w' :: ws, 0, p, w, h1, h2, h3 => by
    simp at h1 h2
    subst h1 h2
    unfold parts2
    rw [h3]
  | p' :: ps, w' :: ws, i + 1, p, w, h1, h2, h3 => by
    have := parts2_none (ps := ps) (ws := ws) (i := i) (by simpa using h1) (by simpa using h2) h3
    unfold parts2
    rw [this]
    cases part p' w' <;> rfl
theorem dec_len {w : Str} {r : List Str} {ps : List Str} (h : pts w = some ps) (hl : r.length ≠ ps.length) : dec (w :: r) = none := by
  show (pts w).bind _ = none
  rw [h]
  show parts2 ps r = none
  cases e : parts2 ps r with
  | none => rfl
  | some ds => exact absurd (parts2_len e).symm hl
theorem dec_no {w : Str} {r : List Str} (h : pts w = none) : dec (w :: r) = none := by
  show (pts w).bind _ = none
  rw [h]; rfl
noncomputable def firstOk (z : Str) : Bool := match z.cps.toList with | c :: _ => letter c | [] => false
theorem pt_first : PT.all (fun x => firstOk x.1 && x.1.cps.toList.all letter) = true := by decide +kernel
theorem look_mem {β : Type} {w : Str} {b : β} : ∀ {l : List (Str × β)}, l.lookup w = some b → (w, b) ∈ l
  | [], h => nomatch h
  | (k, v) :: l, h => by
    rw [List.lookup_cons] at h
    cases q : (w == k) with
    | true => rw [q] at h; cases h; rw [beq_iff_eq.mp q]; exact List.mem_cons_self
    | false => rw [q] at h; exact List.mem_cons_of_mem _ (look_mem h)
theorem pts_first {w : Str} {ps : List Str} (h : pts w = some ps) : firstOk w = true ∧ w.cps.toList.all letter = true := by
  have := List.all_eq_true.mp pt_first _ (look_mem h)
  rwa [Bool.and_eq_true] at this
theorem pts_no {w : Str} (h : firstOk w = false) : pts w = none := by
  cases e : pts w with
  | none => rfl
  | some ps => rw [(pts_first e).1] at h; cases h
noncomputable abbrev J (ws : List Str) : Str := Str.join ⟨#[32]⟩ ws
noncomputable def Free (w : Str) : Prop := 32 ∉ w.cps.toList
theorem split_J {ws : List Str} (h : ws ≠ []) (hf : ∀ w ∈ ws, Free w) : Txt.split (J ws) " " = ws := by
  rw [show ((" " : String) : Str) = ⟨#[32]⟩ from sp_is, ← show Txt.join ⟨#[32]⟩ ws = J ws from StrLaws.glued_eq_join _ _]
  exact split_join h hf
theorem J_cons {w x : Str} {r : List Str} : (J (w :: x :: r)).cps.toList = w.cps.toList ++ 32 :: (J (x :: r)).cps.toList := join2 32 w x r
theorem J_last (x : Str) : ∀ {a : List Str} {l : Str}, J (a ++ [l]) ++ x = J (a ++ [l ++ x])
  | [], l => rfl
  | [b], l => str_eq (by rw [cat_list]; show (J [b, l]).cps.toList ++ _ = (J [b, l ++ x]).cps.toList; rw [J_cons, J_cons]; show (b.cps.toList ++ 32 :: l.cps.toList) ++ x.cps.toList = b.cps.toList ++ 32 :: (l ++ x).cps.toList; rw [cat_list]; simp)
  | b :: c :: a, l => str_eq (by
      have ih := congrArg (fun z => z.cps.toList) (J_last x (a := c :: a) (l := l))
      simp only [cat_list] at ih
      rw [cat_list]
      show (J (b :: c :: (a ++ [l]))).cps.toList ++ _ = (J (b :: c :: (a ++ [l ++ x]))).cps.toList
      rw [J_cons, J_cons, List.append_assoc, List.cons_append]
      exact congrArg (fun z => b.cps.toList ++ 32 :: z) ih)
theorem J_snoc (x : Str) : ∀ {a : List Str}, a ≠ [] → J a ++ " " ++ x = J (a ++ [x])
  | [], h => absurd rfl h
  | [b], _ => by rw [show ((" " : String) : Str) = ⟨#[32]⟩ from sp_is]; rfl
  | b :: c :: a, _ => str_eq (by
      have ih := congrArg (fun z => z.cps.toList) (J_snoc x (a := c :: a) (by simp))
      simp only [cat_list] at ih
      rw [cat_list, cat_list]
      show (J (b :: c :: a)).cps.toList ++ _ ++ _ = (J (b :: c :: (a ++ [x]))).cps.toList
      rw [J_cons, J_cons, List.append_assoc, List.append_assoc, List.cons_append, ← List.append_assoc]
      exact congrArg (fun z => b.cps.toList ++ 32 :: z) ih)
theorem J_ahead {a : List Str} (h : a ≠ []) : (" " : Str) ++ J a = J ((⟨#[]⟩ : Str) :: a) := by
  cases a with
  | nil => exact absurd rfl h
  | cons b a => exact str_eq (by rw [cat_list, J_cons, show (Str.cps ((" " : String) : Str)).toList = [32] from by decide +kernel]; rfl)
theorem J_len : ∀ ws : List Str, (J ws).length ≤ (ws.map (·.length)).sum + ws.length
  | [] => Nat.zero_le _
  | [w] => by show w.length ≤ _; simp
  | w :: x :: r => by
    have ih := J_len (x :: r)
    rw [R.str_len, J_cons, List.length_append, List.length_cons, ← R.str_len, ← R.str_len, List.map_cons, List.sum_cons, List.length_cons]
    omega
theorem cat_len (x y : Str) : (x ++ y).length = x.length + y.length := R.len_append x y
theorem free_cat {x y : Str} (h1 : Free x) (h2 : Free y) : Free (x ++ y) := by
  unfold Free
  rw [cat_list]
  intro h
  rcases List.mem_append.mp h with h | h
  · exact h1 h
  · exact h2 h
noncomputable def tS (p : Nat) : Str := ((toString (p : Int) : String) : Str)
noncomputable def sg (r : Nat) : Str := ⟨#[48 + r]⟩
noncomputable def seven : List Str := ["table", "clash", "tree", "first", "stands", "aside", "mixers"]
inductive Row : List Str → List Th → Prop
  | copy {n : Str} {rs : List V} (hn : nameOk n = true) (hr : ∀ y ∈ rs, isReading y = true) (hl : rs.length ≤ 60) : Row ["copy", n, rdT rs] [.str n, .rds rs]
  | name {w n : Str} (hw : w = "drop" ∨ w = "mixed") (hn : nameOk n = true) : Row [w, n] [.str n]
  | elder {p r : Nat} (hp : p < 100) (hr : r < 2) : Row ["elder", tS p, sg r] [.int p, .int r]
  | free {p : Nat} (hp : p < 100) : Row ["free", tS p] [.int p]
  | one {w : Str} (hw : w ∈ seven) : Row [w] []
noncomputable def nines : Str := "999999999"
theorem tS_fact : ∀ p : Fin 100, (placeOf (tS p) = some (p.val : Int) ∧ (tS p).length ≤ 2 ∧ (tS p).cps.toList.all dig = true) ∧ (placeOf (tS p ++ "\t") = none ∧ placeOf ("0" ++ tS p) = none ∧ placeOf (tS p ++ nines) = none) := by decide +kernel
theorem one_fact : seven.all (fun w => decide ((pts w = some []) ∧ pts (w ++ "\t") = none ∧ pts ("0" ++ w) = none ∧ pts (w ++ nines) = none ∧ w.length ≤ 60 ∧ w.cps.toList.all letter = true ∧ w ≠ "copy")) = true := by decide +kernel
theorem sg_fact : ∀ r : Fin 2, part "READING" (sg r) = some (.int (r.val : Int)) ∧ part "READING" (sg r ++ "\t") = none ∧ part "READING" ("0" ++ sg r) = none ∧ part "READING" (sg r ++ nines) = none ∧ (sg r).length = 1 := by
  intro r
  rcases (by omega : r.val = 0 ∨ r.val = 1) with h | h <;> rw [h] <;> refine ⟨?_, ?_, ?_, ?_, ?_⟩ <;> rfl
end K91
namespace K12
open PySem R
end K12
namespace K12
open PySem PySem.Spec PyProof.Rows L2 R Cp Lt Lm K02 K11
noncomputable def figs : List (Key × V) := [(.inr "0", .int 0), (.inr "1", .int 1)]
theorem not_dash {rs : List V} (h : rs ≠ []) : mkS (rs.map K11.code) ≠ "-" := fun z => by
  cases rs with
  | nil => exact h rfl
  | cons v r =>
    have e := congrArg (fun x => x.cps.toList) z
    rw [show (Str.ofString "-").cps.toList = [45] from by decide +kernel] at e
    have e' : K11.code v :: r.map K11.code = [45] := by simpa using e
    have := (List.cons.inj e').1
    rcases code_cases v with q | q <;> omega
end K12
namespace K91
open PySem PySem.Spec PyProof.Rows L2 R Cp Lt Lm K02 K11 K12
theorem part_nm (w : Str) : part "NAME" w = if nameOk w = true then some (.str w) else none := by unfold part; rw [if_pos rfl]
theorem part_rds (w : Str) : part "READINGS" w = (rr w).map .rds := by unfold part; rw [if_neg (by decide +kernel), if_pos rfl]
theorem part_pl (w : Str) : part "PLACE" w = (placeOf w).map .int := by unfold part; rw [if_neg (by decide +kernel), if_neg (by decide +kernel), if_neg (by decide +kernel)]
theorem fig_code (v : V) : fig (K11.code v) = true := by rcases code_cases v with h | h <;> rw [h] <;> rfl
theorem figV_code {v : V} (h : isReading v = true) : figV (K11.code v) = v := by rcases reading_cases h with rfl | rfl <;> rfl
theorem rdT_list {rs : List V} (h : rs ≠ []) : (rdT rs).cps.toList = rs.map K11.code := by unfold rdT; rw [if_neg h]
theorem rr_rdT {rs : List V} (hr : ∀ y ∈ rs, isReading y = true) (hl : rs.length ≤ 60) : rr (rdT rs) = some rs := by
  by_cases h0 : rs = []
  · subst h0
    unfold rr rdT
    rw [if_pos rfl, if_pos rfl]
  · have e : rdT rs = mkS (rs.map K11.code) := by unfold rdT; rw [if_neg h0]
    have el := rdT_list h0
    have len : (rdT rs).length = rs.length := by rw [R.str_len, el, List.length_map]
    have hn : ¬ rs.length = 0 := fun z => h0 (List.length_eq_zero_iff.mp z)
    unfold rr
    rw [if_neg (by rw [e]; exact not_dash h0), if_neg (by omega), if_pos (by rw [el, List.all_map, List.all_eq_true]; exact fun v _ => fig_code v), if_pos (by omega), el, List.map_map]
    congr 1
    conv => rhs; rw [← List.map_id rs]
    exact List.map_congr_left fun v hv => figV_code (hr v hv)
theorem rdT_pos (rs : List V) : 1 ≤ (rdT rs).length ∧ (rdT rs).length ≤ rs.length + 1 := by
  by_cases h0 : rs = []
  · subst h0; exact ⟨by decide +kernel, by decide +kernel⟩
  · have len : (rdT rs).length = rs.length := by rw [R.str_len, rdT_list h0, List.length_map]
    have hn : ¬ rs.length = 0 := fun z => h0 (List.length_eq_zero_iff.mp z)
    omega
theorem rr_bad {z x : Str} (h1 : 1 ≤ z.length) {c : Nat} (hc : c ∈ x.cps.toList) (hf : fig c = false) : rr (z ++ x) = none := by
  have hx : 1 ≤ x.length := by rw [R.str_len]; exact List.length_pos_of_mem hc
  unfold rr
  rw [if_neg, if_neg (by rw [cat_len]; omega), if_neg]
  · rw [cat_list, List.all_append, Bool.and_eq_true, not_and]
    intro _ h
    have := List.all_eq_true.mp h c hc
    rw [hf] at this; cases this
  · intro h
    have := congrArg Str.length h
    rw [cat_len, show Str.length (Str.ofString "-") = 1 from by decide +kernel] at this
    omega
theorem name_bad {x y : Str} {c : Nat} (hc : c ∈ (x ++ y).cps.toList) (hl : letter c = false) : nameOk (x ++ y) = false := by
  cases e : nameOk (x ++ y) with
  | false => rfl
  | true => exact absurd hc (name_free e hl)
theorem in_right {x y : Str} {c : Nat} (h : c ∈ y.cps.toList) : c ∈ (x ++ y).cps.toList := by rw [cat_list]; exact List.mem_append_right _ h
theorem in_left {x y : Str} {c : Nat} (h : c ∈ x.cps.toList) : c ∈ (x ++ y).cps.toList := by rw [cat_list]; exact List.mem_append_left _ h
theorem two_parts {p q v w : Str} {d e : Th} (h1 : part p v = some d) (h2 : part q w = some e) : parts2 [p, q] [v, w] = some [d, e] := by simp [parts2, h1, h2]
theorem one_part {p v : Str} {d : Th} (h1 : part p v = some d) : parts2 [p] [v] = some [d] := by simp [parts2, h1]
theorem dec_of {w : Str} {r ps : List Str} (h : pts w = some ps) : dec (w :: r) = parts2 ps r := by
  show (pts w).bind _ = _
  rw [h]; rfl
theorem dec_at {w : Str} {r ps : List Str} {i : Nat} {p v : Str} (h : pts w = some ps) (h1 : ps[i]? = some p) (h2 : r[i]? = some v) (h3 : part p v = none) : dec (w :: r) = none := (dec_of h).trans (parts2_none h1 h2 h3)
theorem pts_copy : pts "copy" = some (["NAME", "READINGS"] : List Str) := by decide +kernel
theorem pts_nm {w : Str} (h : w = "drop" ∨ w = "mixed") : pts w = some (["NAME"] : List Str) := by rcases h with rfl | rfl <;> decide +kernel
theorem pts_elder : pts "elder" = some (["PLACE", "READING"] : List Str) := by decide +kernel
theorem pts_free : pts "free" = some (["PLACE"] : List Str) := by decide +kernel
theorem of_seven {w : Str} (h : w ∈ seven) : pts w = some [] ∧ pts (w ++ "\t") = none ∧ pts ("0" ++ w) = none ∧ pts (w ++ nines) = none ∧ w.length ≤ 60 ∧ w.cps.toList.all letter = true ∧ w ≠ "copy" := of_decide_eq_true (List.all_eq_true.mp one_fact w h)
theorem free_all {z : Str} {f : Nat → Bool} (h : z.cps.toList.all f = true) (h0 : f 32 = false) : Free z := fun q => by
  have := List.all_eq_true.mp h 32 q
  rw [h0] at this; cases this
theorem nine_in : 57 ∈ nines.cps.toList := by decide +kernel
theorem tab_in : 9 ∈ (Str.cps ((("\t" : String)) : Str)).toList := by decide +kernel
theorem a_in : 97 ∈ (Str.cps ((("a" : String)) : Str)).toList := by decide +kernel
theorem zero_in : 48 ∈ (Str.cps ((("0" : String)) : Str)).toList := by decide +kernel
structure RowF (ws : List Str) (ds : List Th) : Prop where
  dc : dec ws = some ds
  fr : ∀ w ∈ ws, Free w
  sz : ∀ w ∈ ws, w.length ≤ 61
  ln : ws.length ≤ 3
  ls : ∃ a l, ws = a ++ [l] ∧ dec (a ++ [l ++ ("\t" : Str)]) = none ∧ dec (a ++ [l ++ nines]) = none ∧ (ws.head? = some "copy" → dec (a ++ [l ++ ("a" : Str)]) = none) ∧ (ws.head? ≠ some "copy" → dec (a ++ [("0" : Str) ++ l]) = none)
theorem name_len {n : Str} (h : nameOk n = true) : n.length ≤ 8 := by
  unfold nameOk at h
  rw [Bool.and_eq_true, decide_eq_true_eq] at h
  exact h.1.2
theorem Row.f {ws : List Str} {ds : List Th} (h : Row ws ds) : RowF ws ds := by
  cases h with
  | @copy n rs hn hr hl =>
    have hp := rdT_pos rs
    have bad : ∀ {x : Str} {c : Nat}, c ∈ x.cps.toList → fig c = false → dec ["copy", n, rdT rs ++ x] = none := fun hc hf => dec_at (i := 1) pts_copy rfl rfl (by rw [part_rds, rr_bad hp.1 hc hf]; rfl)
    refine ⟨?_, ?_, ?_, by show 3 ≤ 3; decide, ["copy", n], rdT rs, rfl, bad tab_in rfl, bad nine_in rfl, fun _ => bad a_in rfl, fun h => absurd rfl h⟩
    · rw [dec_of pts_copy]
      exact two_parts (by rw [part_nm, if_pos hn]) (by rw [part_rds, rr_rdT hr hl]; rfl)
    · intro w hw
      simp only [List.mem_cons, List.not_mem_nil, or_false] at hw
      rcases hw with rfl | rfl | rfl
      · exact (by decide +kernel : ¬ 32 ∈ (Str.cps ((("copy" : String)) : Str)).toList)
      · exact name_free hn rfl
      · exact rdT_free (by decide) (by decide) (by decide) rs
    · intro w hw
      simp only [List.mem_cons, List.not_mem_nil, or_false] at hw
      rcases hw with rfl | rfl | rfl
      · exact (by decide +kernel : Str.length ((("copy" : String)) : Str) ≤ 61)
      · have := name_len hn; omega
      · omega
  | @name w n hw hn =>
    have bad : ∀ {x : Str}, nameOk x = false → dec [w, x] = none := fun hx => dec_at (i := 0) (pts_nm hw) rfl rfl (by rw [part_nm, if_neg (by rw [hx]; decide)])
    refine ⟨?_, ?_, ?_, by show 2 ≤ 3; decide, [w], n, rfl, bad (name_bad (in_right tab_in) rfl), bad (name_bad (in_right nine_in) rfl), fun h => ?_, fun _ => bad (name_bad (in_left zero_in) rfl)⟩
    · rw [dec_of (pts_nm hw)]
      exact one_part (by rw [part_nm, if_pos hn])
    · intro v hv
      simp only [List.mem_cons, List.not_mem_nil, or_false] at hv
      rcases hv with rfl | rfl
      · rcases hw with rfl | rfl
        · exact (by decide +kernel : ¬ 32 ∈ (Str.cps ((("drop" : String)) : Str)).toList)
        · exact (by decide +kernel : ¬ 32 ∈ (Str.cps ((("mixed" : String)) : Str)).toList)
      · exact name_free hn rfl
    · intro v hv
      simp only [List.mem_cons, List.not_mem_nil, or_false] at hv
      rcases hv with rfl | rfl
      · rcases hw with rfl | rfl
        · exact (by decide +kernel : Str.length ((("drop" : String)) : Str) ≤ 61)
        · exact (by decide +kernel : Str.length ((("mixed" : String)) : Str) ≤ 61)
      · have := name_len hn; omega
    · have h' : some w = some ((("copy" : String)) : Str) := h
      rcases hw with rfl | rfl
      · exact absurd (Option.some.inj h') (by decide +kernel)
      · exact absurd (Option.some.inj h') (by decide +kernel)
  | @elder p r hp hr =>
    obtain ⟨⟨t1, t2, t3⟩, _⟩ := tS_fact ⟨p, hp⟩
    obtain ⟨s1, s2, s3, s4, s5⟩ := sg_fact ⟨r, hr⟩
    have bad : ∀ {x : Str}, part "READING" x = none → dec ["elder", tS p, x] = none := fun hx => dec_at (i := 1) pts_elder rfl rfl hx
    refine ⟨?_, ?_, ?_, by show 3 ≤ 3; decide, ["elder", tS p], sg r, rfl, bad s2, bad s4, fun h => ?_, fun _ => bad s3⟩
    · rw [dec_of pts_elder]
      exact two_parts (by rw [part_pl, t1]; rfl) s1
    · intro w hw
      simp only [List.mem_cons, List.not_mem_nil, or_false] at hw
      rcases hw with rfl | rfl | rfl
      · exact (by decide +kernel : ¬ 32 ∈ (Str.cps ((("elder" : String)) : Str)).toList)
      · exact free_all t3 rfl
      · intro q
        have q' : 32 ∈ [48 + r] := q
        simp at q'
        omega
    · intro w hw
      simp only [List.mem_cons, List.not_mem_nil, or_false] at hw
      rcases hw with rfl | rfl | rfl
      · exact (by decide +kernel : Str.length ((("elder" : String)) : Str) ≤ 61)
      · exact Nat.le_trans t2 (by decide)
      · exact Nat.le_trans (Nat.le_of_eq s5) (by decide)
    · exact absurd (Option.some.inj h) (by decide +kernel)
  | @free p hp =>
    obtain ⟨⟨t1, t2, t3⟩, u1, u2, u3⟩ := tS_fact ⟨p, hp⟩
    have bad : ∀ {x : Str}, placeOf x = none → dec ["free", x] = none := fun hx => dec_at (i := 0) pts_free rfl rfl (by rw [part_pl, hx]; rfl)
    refine ⟨?_, ?_, ?_, by show 2 ≤ 3; decide, ["free"], tS p, rfl, bad u1, bad u3, fun h => ?_, fun _ => bad u2⟩
    · rw [dec_of pts_free]
      exact one_part (by rw [part_pl, t1]; rfl)
    · intro w hw
      simp only [List.mem_cons, List.not_mem_nil, or_false] at hw
      rcases hw with rfl | rfl
      · exact (by decide +kernel : ¬ 32 ∈ (Str.cps ((("free" : String)) : Str)).toList)
      · exact free_all t3 rfl
    · intro w hw
      simp only [List.mem_cons, List.not_mem_nil, or_false] at hw
      rcases hw with rfl | rfl
      · exact (by decide +kernel : Str.length ((("free" : String)) : Str) ≤ 61)
      · exact Nat.le_trans t2 (by decide)
    · exact absurd (Option.some.inj h) (by decide +kernel)
  | @one w hw =>
    obtain ⟨o1, o2, o3, o4, o5, o6, o7⟩ := of_seven hw
    refine ⟨?_, ?_, ?_, by show 1 ≤ 3; decide, [], w, rfl, dec_no o2, dec_no o4, fun h => absurd (Option.some.inj h) o7, fun _ => dec_no o3⟩
    · rw [dec_of o1]; rfl
    · intro v hv
      rw [List.mem_singleton] at hv
      subst hv
      exact free_all o6 rfl
    · intro v hv
      rw [List.mem_singleton] at hv
      subst hv
      omega
noncomputable def Bad (z : Str) : Prop := z.length ≤ 400 ∧ dec (Txt.split z " ") = none
theorem RowF.ne {ws : List Str} {ds : List Th} (f : RowF ws ds) : ws ≠ [] := fun e => by
  have := f.dc; rw [e] at this; cases this
theorem RowF.len {ws : List Str} {ds : List Th} (f : RowF ws ds) : (J ws).length ≤ 200 := by
  have h := J_len ws
  have hs : ∀ l : List Str, (∀ w ∈ l, w.length ≤ 61) → (l.map (·.length)).sum ≤ 61 * l.length := by
    intro l
    induction l with
    | nil => intro _; simp
    | cons w l ih =>
      intro hw
      have h1 := hw w List.mem_cons_self
      have h2 := ih fun v hv => hw v (List.mem_cons_of_mem _ hv)
      simp only [List.map_cons, List.sum_cons, List.length_cons]
      omega
  have := hs ws f.sz
  have := f.ln
  omega
theorem RowF.pt {ws : List Str} {ds : List Th} (f : RowF ws ds) : ∃ w r ps, ws = w :: r ∧ pts w = some ps ∧ r.length = ps.length := by
  have h := f.dc
  cases ws with
  | nil => cases h
  | cons w r =>
    have h' : (pts w).bind (fun ps => parts2 ps r) = some ds := h
    cases e : pts w with
    | none => rw [e] at h'; cases h'
    | some ps => rw [e] at h'; exact ⟨w, r, ps, rfl, e, (parts2_len h').symm⟩
theorem free_nil : Free ⟨#[]⟩ := by unfold Free; simp
theorem bad_of {ws : List Str} {z : Str} (hz : z = J ws) (hl : z.length ≤ 400) (hn : ws ≠ []) (hf : ∀ w ∈ ws, Free w) (hd : dec ws = none) : Bad z := ⟨hl, by rw [hz, split_J hn hf]; exact hd⟩
theorem free_lit : Free "x" ∧ Free "\t" ∧ Free nines ∧ Free "a" ∧ Free "0" := by
  refine ⟨?_, ?_, ?_, ?_, ?_⟩
  · exact (by decide +kernel : ¬ 32 ∈ (Str.cps ((("x" : String)) : Str)).toList)
  · exact (by decide +kernel : ¬ 32 ∈ (Str.cps ((("\t" : String)) : Str)).toList)
  · exact (by decide +kernel : ¬ 32 ∈ nines.cps.toList)
  · exact (by decide +kernel : ¬ 32 ∈ (Str.cps ((("a" : String)) : Str)).toList)
  · exact (by decide +kernel : ¬ 32 ∈ (Str.cps ((("0" : String)) : Str)).toList)
section
variable {ws : List Str} {ds : List Th}
theorem bad0 (f : RowF ws ds) : Bad (J ws ++ " ") := by
  have hl := f.len
  obtain ⟨w, r, ps, e, e1, e2⟩ := f.pt
  refine bad_of (ws := ws ++ [⟨#[]⟩]) ?_ (by rw [cat_len, show Str.length ((" " : String) : Str) = 1 from by decide +kernel]; omega) (by simp) (fun v hv => ?_) ?_
  · rw [← J_snoc _ f.ne]
    exact str_eq (by rw [cat_list (J ws ++ " ")]; simp)
  · rcases List.mem_append.mp hv with h | h
    · exact f.fr v h
    · rw [List.mem_singleton.mp h]; exact free_nil
  · rw [e]
    exact dec_len e1 (by show (r ++ [_]).length ≠ _; rw [List.length_append, e2]; simp)
theorem bad1 (f : RowF ws ds) : Bad (" " ++ J ws) := by
  have hl := f.len
  refine bad_of (ws := (⟨#[]⟩ : Str) :: ws) (J_ahead f.ne) (by rw [cat_len, show Str.length ((" " : String) : Str) = 1 from by decide +kernel]; omega) (by simp) (fun v hv => ?_) (dec_no (pts_no rfl))
  rcases List.mem_cons.mp hv with rfl | h
  · exact free_nil
  · exact f.fr v h
theorem bad2 (f : RowF ws ds) : Bad (J ws ++ " x") := by
  have hl := f.len
  obtain ⟨w, r, ps, e, e1, e2⟩ := f.pt
  refine bad_of (ws := ws ++ [("x" : Str)]) ?_ (by rw [cat_len, show Str.length ((" x" : String) : Str) = 2 from by decide +kernel]; omega) (by simp) (fun v hv => ?_) ?_
  · rw [← J_snoc _ f.ne]
    exact str_eq (by rw [cat_list, cat_list, cat_list, List.append_assoc]; rw [show (Str.cps ((" x" : String) : Str)).toList = (Str.cps ((" " : String) : Str)).toList ++ (Str.cps (("x" : String) : Str)).toList from by decide +kernel])
  · rcases List.mem_append.mp hv with h | h
    · exact f.fr v h
    · rw [List.mem_singleton.mp h]; exact free_lit.1
  · rw [e]
    exact dec_len e1 (by show (r ++ [_]).length ≠ _; rw [List.length_append, e2]; simp)
theorem bad_last (f : RowF ws ds) {x : Str} (hx : Free x) (hl : x.length ≤ 100) (h : ∀ a l, ws = a ++ [l] → dec (a ++ [l ++ x]) = none) : Bad (J ws ++ x) := by
  have h0 := f.len
  obtain ⟨a, l, e, _⟩ := f.ls
  refine bad_of (ws := a ++ [l ++ x]) (by rw [e]; exact J_last x) (by rw [cat_len]; omega) (by simp) (fun v hv => ?_) (h a l e)
  rcases List.mem_append.mp hv with hv | hv
  · exact f.fr v (by rw [e]; exact List.mem_append_left _ hv)
  · rw [List.mem_singleton.mp hv]
    exact free_cat (f.fr l (by rw [e]; exact List.mem_append_right _ List.mem_cons_self)) hx
theorem snoc_inj {a b : List Str} {x y : Str} (h : a ++ [x] = b ++ [y]) : a = b ∧ x = y := by
  have := List.append_inj' h rfl
  exact ⟨this.1, by simpa using this.2⟩
theorem bad4 (f : RowF ws ds) : Bad (J ws ++ "\t") := bad_last f free_lit.2.1 (by decide +kernel) fun a l e => by
  obtain ⟨a', l', e', h, _⟩ := f.ls
  obtain ⟨rfl, rfl⟩ := snoc_inj (e.symm.trans e')
  exact h
theorem bad6 (f : RowF ws ds) : Bad (J ws ++ nines) := bad_last f free_lit.2.2.1 (by decide +kernel) fun a l e => by
  obtain ⟨a', l', e', _, h, _⟩ := f.ls
  obtain ⟨rfl, rfl⟩ := snoc_inj (e.symm.trans e')
  exact h
theorem bad5c (f : RowF ws ds) (hc : ws.head? = some "copy") : Bad (J ws ++ "a") := bad_last f free_lit.2.2.2.1 (by decide +kernel) fun a l e => by
  obtain ⟨a', l', e', _, _, h, _⟩ := f.ls
  obtain ⟨rfl, rfl⟩ := snoc_inj (e.symm.trans e')
  exact h hc
theorem tj (ws : List Str) : Txt.join " " ws = J ws := by
  rw [show ((" " : String) : Str) = ⟨#[32]⟩ from sp_is]
  exact StrLaws.glued_eq_join _ _
theorem len_words {l : List Str} {n : Nat} (h : ∀ w ∈ l, w.length ≤ 62) (hn : l.length ≤ n) : (l.map (·.length)).sum ≤ 62 * n := by
  induction l generalizing n with
  | nil => simp
  | cons w l ih =>
    cases n with
    | zero => simp at hn
    | succ n =>
      have h1 := h w List.mem_cons_self
      have h2 := ih (n := n) (fun v hv => h v (List.mem_cons_of_mem _ hv)) (by simpa using hn)
      simp only [List.map_cons, List.sum_cons]
      omega
theorem bad5 (f : RowF ws ds) (hc : ws.head? ≠ some "copy") {a : List Str} {l : Str} (e : ws = a ++ [l]) : Bad (Txt.join " " (a ++ [("0" : Str) ++ l])) := by
  obtain ⟨a', l', e', _, _, _, h⟩ := f.ls
  obtain ⟨rfl, rfl⟩ := snoc_inj (e.symm.trans e')
  have fl : ∀ v ∈ a ++ [("0" : Str) ++ l], Free v ∧ v.length ≤ 62 := fun v hv => by
    rcases List.mem_append.mp hv with hv | hv
    · have hm : v ∈ ws := by rw [e]; exact List.mem_append_left _ hv
      exact ⟨f.fr v hm, Nat.le_succ_of_le (f.sz v hm)⟩
    · rw [List.mem_singleton.mp hv]
      have hm : l ∈ ws := by rw [e]; exact List.mem_append_right _ List.mem_cons_self
      refine ⟨free_cat free_lit.2.2.2.2 (f.fr l hm), ?_⟩
      have := f.sz l hm
      rw [cat_len, show Str.length (("0" : String) : Str) = 1 from by decide +kernel]
      omega
  have h3 : (a ++ [("0" : Str) ++ l]).length ≤ 3 := by have := f.ln; rw [e] at this; simpa using this
  refine bad_of (tj _) ?_ (by simp) (fun v hv => (fl v hv).1) (h hc)
  rw [tj]
  have h1 := J_len (a ++ [("0" : Str) ++ l])
  have h2 := len_words (fun v hv => (fl v hv).2) h3
  omega
theorem bad7 (f : RowF ws ds) {w : Str} {r : List Str} (e : ws = w :: r) : Bad (Txt.join " " (w :: (⟨#[]⟩ : Str) :: r)) := by
  obtain ⟨w', r', ps, e', e1, e2⟩ := f.pt
  obtain ⟨rfl, rfl⟩ := List.cons.inj (e.symm.trans e')
  have fl : ∀ v ∈ w :: (⟨#[]⟩ : Str) :: r, Free v ∧ v.length ≤ 62 := fun v hv => by
    rcases List.mem_cons.mp hv with rfl | hv
    · exact ⟨f.fr _ (by rw [e]; exact List.mem_cons_self), Nat.le_succ_of_le (f.sz _ (by rw [e]; exact List.mem_cons_self))⟩
    · rcases List.mem_cons.mp hv with rfl | hv
      · exact ⟨free_nil, Nat.zero_le _⟩
      · exact ⟨f.fr _ (by rw [e]; exact List.mem_cons_of_mem _ hv), Nat.le_succ_of_le (f.sz _ (by rw [e]; exact List.mem_cons_of_mem _ hv))⟩
  have h3 : (w :: (⟨#[]⟩ : Str) :: r).length ≤ 4 := by have := f.ln; rw [e] at this; simp at this ⊢; omega
  refine bad_of (tj _) ?_ (by simp) (fun v hv => (fl v hv).1) (dec_len e1 (by simp; omega))
  rw [tj]
  have h1 := J_len (w :: (⟨#[]⟩ : Str) :: r)
  have h2 := len_words (fun v hv => (fl v hv).2) h3
  omega
theorem up_letter : ∀ k : Fin 26, upS ⟨#[97 + k.val]⟩ = ⟨#[65 + k.val]⟩ := by decide +kernel
theorem up_first {c : Nat} (h : letter c = true) : upS ⟨#[c]⟩ = ⟨#[c - 32]⟩ ∧ letter (c - 32) = false ∧ c - 32 ≠ 32 := by
  unfold letter at h
  rw [decide_eq_true_eq] at h
  have e : c = 97 + (c - 97) := by omega
  have := up_letter ⟨c - 97, by omega⟩
  refine ⟨?_, ?_, by omega⟩
  · rw [show 97 + (⟨c - 97, by omega⟩ : Fin 26).val = c from by show 97 + (c - 97) = c; omega] at this
    rw [this]
    show (⟨#[65 + (c - 97)]⟩ : Str) = _
    rw [show 65 + (c - 97) = c - 32 from by omega]
  · unfold letter
    exact decide_eq_false (by omega)
theorem first_sign (f : RowF ws ds) : ∃ c r, (J ws).cps.toList = c :: r ∧ letter c = true ∧ ∃ w tl, ws = w :: tl ∧ w.cps.toList = c :: w.cps.toList.tail ∧ r = (J (⟨w.cps.toList.tail.toArray⟩ :: tl)).cps.toList := by
  obtain ⟨w, tl, ps, e, e1, e2⟩ := f.pt
  have h := (pts_first e1).1
  cases hw : w.cps.toList with
  | nil => unfold firstOk at h; rw [hw] at h; cases h
  | cons c r =>
    have hc : letter c = true := by unfold firstOk at h; rw [hw] at h; exact h
    cases tl with
    | nil => exact ⟨c, r, by rw [e]; exact hw, hc, w, [], e, by rw [hw]; rfl, by rw [hw]; rfl⟩
    | cons x tl => exact ⟨c, r ++ 32 :: (J (x :: tl)).cps.toList, by rw [e, J_cons, hw]; rfl, hc, w, _, e, by rw [hw]; rfl, by rw [J_cons, hw]; rfl⟩
theorem bad3 (f : RowF ws ds) : Bad (upS (cutS (J ws) none (some 1)) ++ cutS (J ws) (some 1) none) := by
  have hl := f.len
  obtain ⟨c, r, e, hc, w, tl, e1, e2, e3⟩ := first_sign f
  obtain ⟨u1, u2, u3⟩ := up_first hc
  have ej : J ws = mkS (c :: r) := str_eq (by rw [e])
  have c1 : cutS (J ws) none (some 1) = ⟨#[c]⟩ := by rw [ej]; exact cut_take (c :: r) 1
  have c2 : cutS (J ws) (some 1) none = mkS r := by rw [ej]; exact cut_drop (c :: r) 1
  rw [c1, c2, u1]
  have hlr : r.length ≤ 200 := by rw [R.str_len, e] at hl; simp at hl; omega
  refine bad_of (ws := (⟨#[c - 32]⟩ ++ (⟨w.cps.toList.tail.toArray⟩ : Str)) :: tl) ?_ ?_ (by simp) (fun v hv => ?_) (dec_no (pts_no ?_))
  · apply str_eq
    rw [cat_list]
    show [c - 32] ++ r = _
    cases tl with
    | nil => rw [e3]; show _ = (⟨#[c - 32]⟩ ++ (⟨w.cps.toList.tail.toArray⟩ : Str)).cps.toList; rw [cat_list]; rfl
    | cons x tl => rw [e3, J_cons, J_cons, cat_list]; rfl
  · rw [cat_len, show Str.length (⟨#[c - 32]⟩ : Str) = 1 from rfl, mk_len]
    omega
  · rcases List.mem_cons.mp hv with rfl | hv
    · refine free_cat (fun q => u3 ?_) fun q => ?_
      · have q' : 32 ∈ [c - 32] := q
        have q'' : 32 = c - 32 := by simpa using q'
        exact q''.symm
      · have q' : 32 ∈ w.cps.toList.tail := by simpa using q
        exact f.fr w (by rw [e1]; exact List.mem_cons_self) (List.mem_of_mem_tail q')
    · exact f.fr v (by rw [e1]; exact List.mem_cons_of_mem _ hv)
  · unfold firstOk
    rw [cat_list]
    exact u2
end
noncomputable def fixed : List Str := ["", "copy a", "copy a 2", "copy 0 a", "copy a 01 1", "drop", "drop A", "drop 0", "mixed", "elder 1", "elder 1 2", "elder 01 1", "elder a 1", "free -1", "free 100", "tables", "copy a 0000000000000000000000000000000000000000000000000000000000000"]
theorem bad_fixed : ∀ z ∈ fixed, Bad z := by
  have h : fixed.all (fun z => decide (z.length ≤ 400) && (dec (Txt.split z " ")).isNone) = true := by decide +kernel
  intro z hz
  have := List.all_eq_true.mp h z hz
  rw [Bool.and_eq_true, decide_eq_true_eq, Option.isNone_iff_eq_none] at this
  exact this
end K91
namespace K91
open PySem R
noncomputable def p_read_readings : List Str := ["word"]
noncomputable def n_read_readings : List Str := ["word", "readings"]
noncomputable def c_read_readings_4 : CB :=
    (.cons (.ret (.ite (.call "are_readings" (.cons (.var 1) .nil)) (.var 1) (.con .none)))
    .nil)
noncomputable def c_read_readings_3 : CB :=
    (.cons (.asg (.name 1) (.bfn .tuple (.cons (.comp ["sign"] [] (.name 0) (.seq (.var 0)) .no (.idxG (.glo "FIGURES_reader") (.var 0))) .nil)))
    c_read_readings_4)
noncomputable def c_read_readings_2 : CB :=
    (.cons (.iff (.or (.cmp .Eq (.bfn .len (.cons (.var 0) .nil)) (.con (.int 0))) (.not (.bfn .all (.cons (.comp ["sign"] [] (.name 0) (.seq (.var 0)) .no (.inG (.var 0) (.glo "FIGURES_reader"))) .nil))))
    (.cons (.ret (.con .none))
    .nil)
    .nil)
    c_read_readings_3)
noncomputable def c_read_readings : CB :=
    (.cons (.iff (.cmp .Eq (.var 0) (.con (.str "-")))
    (.cons (.ret (.tup .nil))
    .nil)
    .nil)
    c_read_readings_2)
noncomputable def p_read_place : List Str := ["word"]
noncomputable def n_read_place : List Str := ["word"]
noncomputable def c_read_place_3 : CB :=
    (.cons (.ret (.bfn .intS (.cons (.var 0) .nil)))
    .nil)
noncomputable def c_read_place_2 : CB :=
    (.cons (.iff (.and (.cmp .Eq (.bfn .len (.cons (.var 0) .nil)) (.con (.int 2))) (.cmp .Eq (.idx (.var 0) (.con (.int 0))) (.con (.str "0"))))
    (.cons (.ret (.con .none))
    .nil)
    .nil)
    c_read_place_3)
noncomputable def c_read_place : CB :=
    (.cons (.iff (.or (.not (.chain .LtE .LtE (.con (.int 1)) (.bfn .len (.cons (.var 0) .nil)) (.con (.int 2)))) (.not (.bfn .all (.cons (.comp ["sign"] [] (.name 0) (.seq (.var 0)) .no (.cmp .In (.var 0) (.glo "FIGURES_rows"))) .nil))))
    (.cons (.ret (.con .none))
    .nil)
    .nil)
    c_read_place_2)
noncomputable def p_read_reading : List Str := ["word"]
noncomputable def n_read_reading : List Str := ["word"]
noncomputable def c_read_reading : CB :=
    (.cons (.ret (.ite (.cmp .In (.var 0) (.tup (.cons (.con (.str "0")) (.cons (.con (.str "1")) .nil)))) (.bfn .intS (.cons (.var 0) .nil)) (.con .none)))
    .nil)
noncomputable def p_read_part : List Str := ["part", "word"]
noncomputable def n_read_part : List Str := ["part", "word"]
noncomputable def c_read_part : CB :=
    (.cons (.iff (.cmp .Eq (.var 0) (.con (.str "NAME")))
    (.cons (.ret (.ite (.call "is_name" (.cons (.var 1) .nil)) (.var 1) (.con .none)))
    .nil)
    .nil)
    (.cons (.iff (.cmp .Eq (.var 0) (.con (.str "READINGS")))
    (.cons (.ret (.call "read_readings" (.cons (.var 1) .nil)))
    .nil)
    .nil)
    (.cons (.iff (.cmp .Eq (.var 0) (.con (.str "READING")))
    (.cons (.ret (.call "read_reading" (.cons (.var 1) .nil)))
    .nil)
    .nil)
    (.cons (.ret (.call "read_place" (.cons (.var 1) .nil)))
    .nil))))
noncomputable def p_row_of : List Str := ["row"]
noncomputable def n_row_of : List Str := ["row", "words", "found"]
noncomputable def c_row_of_6 : CB :=
    (.cons (.ret (.tup (.cons (.idx (.var 1) (.con (.int 0))) (.cons (.var 2) .nil))))
    .nil)
noncomputable def c_row_of_5 : CB :=
    (.cons (.iff (.bfn .any (.cons (.comp ["thing"] [] (.name 0) (.seq (.var 2)) .no (.cmp .Is (.var 0) (.con .none))) .nil))
    (.cons (.rais "NoRow" (.cons (.con (.str "what stands behind the first word of this row is not as it must be")) .nil))
    .nil)
    .nil)
    c_row_of_6)
noncomputable def c_row_of_4 : CB :=
    (.cons (.asgc 2 (.comp ["part", "word"] [] (.tup (.cons (.name 0) (.cons (.name 1) .nil))) (.zipt (.idxG (.glo "PARTS") (.idx (.var 1) (.con (.int 0)))) (.cut (.var 1) (.yes (.con (.int 1))) .no)) .no (.call "read_part" (.cons (.var 0) (.cons (.var 1) .nil)))))
    c_row_of_5)
noncomputable def c_row_of_3 : CB :=
    (.cons (.iff (.or (.ninG (.idx (.var 1) (.con (.int 0))) (.glo "PARTS")) (.cmp .NotEq (.bfn .len (.cons (.var 1) .nil)) (.bin .Add (.con (.int 1)) (.bfn .len (.cons (.idxG (.glo "PARTS") (.idx (.var 1) (.con (.int 0)))) .nil)))))
    (.cons (.rais "NoRow" (.cons (.con (.str "this is no row with so many words")) .nil))
    .nil)
    .nil)
    c_row_of_4)
noncomputable def c_row_of_2 : CB :=
    (.cons (.asg (.name 1) (.split (.var 0) (.con (.str " "))))
    c_row_of_3)
noncomputable def c_row_of : CB :=
    (.cons (.iff (.not (.bfn .isinstance (.cons (.var 0) (.cons (.ty .str) .nil))))
    (.cons (.rais "NoRow" (.cons (.con (.str "this is no text")) .nil))
    .nil)
    .nil)
    c_row_of_2)
end K91
namespace K91
open PySem PySem.Spec PyProof.Rows L2 R Cp Lt Lm K02 K11 K12
theorem fig_val (c : Nat) : valV figs (.inr ⟨#[c]⟩) = if c = 48 then some (.int 0) else if c = 49 then some (.int 1) else none := by
  have e0 : ((.inr "0" : Key) = .inr ⟨#[c]⟩) ↔ c = 48 := ⟨fun h => by
    have := congrArg (fun z : Str => z.cps.toList) (Sum.inr.inj h)
    rw [show (Str.cps (("0" : String) : Str)).toList = [48] from by decide +kernel] at this
    have h' : [48] = [c] := this
    simpa using h'.symm, fun h => by subst h; exact congrArg Sum.inr (by decide +kernel)⟩
  have e1 : ((.inr "1" : Key) = .inr ⟨#[c]⟩) ↔ c = 49 := ⟨fun h => by
    have := congrArg (fun z : Str => z.cps.toList) (Sum.inr.inj h)
    rw [show (Str.cps (("1" : String) : Str)).toList = [49] from by decide +kernel] at this
    have h' : [49] = [c] := this
    simpa using h'.symm, fun h => by subst h; exact congrArg Sum.inr (by decide +kernel)⟩
  unfold valV figs
  by_cases h0 : c = 48
  · rw [if_pos h0, List.find?_cons_of_pos (by rw [decide_eq_true_eq]; exact e0.mpr h0)]; rfl
  · rw [if_neg h0, List.find?_cons_of_neg (by rw [decide_eq_true_eq]; exact fun z => h0 (e0.mp z))]
    by_cases h1 : c = 49
    · rw [if_pos h1, List.find?_cons_of_pos (by rw [decide_eq_true_eq]; exact e1.mpr h1)]; rfl
    · rw [if_neg h1, List.find?_cons_of_neg (by rw [decide_eq_true_eq]; exact fun z => h1 (e1.mp z))]; rfl
theorem fig_some (c : Nat) : (valV figs (.inr ⟨#[c]⟩)).isSome = fig c := by
  rw [fig_val]
  unfold fig
  by_cases h0 : c = 48
  · rw [if_pos h0, h0]; rfl
  · rw [if_neg h0]
    by_cases h1 : c = 49
    · rw [if_pos h1, h1]; rfl
    · rw [if_neg h1]; simp [h0, h1]
theorem fig_is {c : Nat} (h : fig c = true) : valV figs (.inr ⟨#[c]⟩) = some (figV c) := by
  rw [fig_val]
  unfold fig at h
  unfold figV
  by_cases h0 : c = 48
  · rw [if_pos h0, if_pos h0]
  · rw [if_neg h0, if_neg h0]
    have h1 : c = 49 := by simpa [h0] using h
    rw [if_pos h1]
theorem figV_rd (c : Nat) : isReading (figV c) = true := by unfold figV; split <;> rfl
noncomputable def spRR : Sp := fun vs H Q _ => ∃ z, vs = [.str z] ∧ z.length ≤ 20000 ∧ (∀ rs, rr z = some rs → ∀ H' r, Same H H' → H' r = some (.tup rs) → Q (.ref r) H') ∧ (rr z = none → ∀ H', Same H H' → Q .non H')
theorem sign_at {z : Str} {i c : Nat} (h : z.cps[i]? = some c) : z.cps.toList[i]? = some c := by simpa using h
theorem wp_read_readings {G : Gam} {K : PySem.W.Frag} {F : Addr} (v1 : G.val "FIGURES_reader" = some (.ref F)) (d1 : G.dic F = some figs) (g1 : G.fn "are_readings" 1 = some (spR, [])) :
    ∀ vs H Q E, spRR vs H Q E → wpB G K (fun _ => E) c_read_readings { nx := fun _ H' => Q .non H', rt := Q } (L2.start n_read_readings vs) H := by
  rintro vs H Q E ⟨z, rfl, hz, q, qn⟩
  unfold c_read_readings
  change wpB G K _ _ _ [some (.str z), none] H
  walk_at "wp"
  have hzl : z.length ≤ sizeLine := Nat.le_trans hz line20
  by_cases h0 : z = "-"
  · rw [if_pos (by rw [decide_eq_true_eq]; exact h0)]
    refine ⟨Nat.zero_le _, fun p hp => q [] (by unfold rr; rw [if_pos h0]) _ p (same_upd hp) upd_same⟩
  · rw [if_neg (by rw [decide_eq_true_eq]; exact h0)]
    unfold c_read_readings_2
    walk_at "wp"
    refine ⟨hzl, ?_⟩
    by_cases hn : z.length = 0
    · rw [if_pos (by rw [decide_eq_true_eq]; omega), if_pos trivial]
      exact qn (by unfold rr; rw [if_neg h0, if_pos hn]) H (Same.refl _)
    rw [if_neg (by rw [decide_eq_true_eq]; omega)]
    refine comp_of (any_var_str rfl (comp_seq seq_str hzl (fun _ _ => trivial) (fun i v _ => v = .bl (fig (z.cps.toList.getD i 0))) (fun _ _ _ _ _ h => h) (fun τ => ∃ t, τ = [t]) ⟨none, rfl⟩ ?_ ?_))
    · rintro i x τ H3 R hi ⟨t, rfl⟩ s3 ⟨c, hc, rfl⟩ k
      refine ⟨_, rfl, _, v1, F, figs, .inr ⟨#[c]⟩, rfl, d1, rfl, ?_⟩
      rw [fig_some]
      exact k _ _ _ ⟨_, rfl⟩ (Same.refl _) (by rw [getD_some (sign_at hc)])
    · intro vs H2 l hvl hF s2 hl2
      have e1 := bool_list hvl hF
      subst e1
      refine ⟨l, _, rfl, SqL.of upd_same, _, rfl, ?_⟩
      have e2 : ((List.range z.length).map fun i => fig (z.cps.toList.getD i 0)).all id = z.cps.toList.all fig := by
        have := all_getD z.cps.toList 0 fig
        rw [show z.cps.toList.length = z.length by simp [Str.length]] at this
        exact this
      rw [e2]
      have s3 : Same H (upd H2 l (.lst (((List.range z.length).map fun i => fig (z.cps.toList.getD i 0)).map V.bl))) := s2.trans (same_upd hl2)
      generalize upd H2 l (.lst (((List.range z.length).map fun i => fig (z.cps.toList.getD i 0)).map V.bl)) = H3 at s3
      cases ha : z.cps.toList.all fig with
      | false =>
        rw [if_pos (by decide)]
        exact qn (by unfold rr; rw [if_neg h0, if_neg hn, if_neg (by rw [ha]; decide)]) H3 s3
      | true =>
        rw [if_neg (by decide)]
        unfold c_read_readings_3
        walk_at "wp"
        refine comp_of (any_var_str rfl (comp_seq seq_str hzl (fun _ _ => trivial) (fun i v _ => v = figV (z.cps.toList.getD i 0)) (fun _ _ _ _ _ h => h) (fun τ => ∃ t, τ = [t]) ⟨none, rfl⟩ ?_ ?_))
        · rintro i x τ H4 R hi ⟨t, rfl⟩ s4 ⟨c, hc, rfl⟩ k
          refine ⟨_, v1, _, rfl, F, figs, .inr ⟨#[c]⟩, figV c, rfl, d1, rfl, fig_is (List.all_eq_true.mp ha c (List.mem_of_getElem? (sign_at hc))), ?_⟩
          exact k _ _ _ ⟨_, rfl⟩ (Same.refl _) (by rw [getD_some (sign_at hc)])
        · intro ws H4 l4 hwl hF4 s4 hl4
          have ew : ws = z.cps.toList.map figV := by
            apply List.ext_getElem
            · rw [List.length_map, hwl, R.str_len]
            · intro i h1 h2
              have := hF4 i ws[i] (by simp [h1])
              rw [this, List.getElem_map]
              congr 1
              rw [List.length_map] at h2
              rw [List.getD_eq_getElem?_getD, List.getElem?_eq_getElem h2]; rfl
          subst ew
          generalize hws : z.cps.toList.map figV = ws at *
          have hwz : ws.length = z.length := hwl
          have hr : ∀ y ∈ ws, isReading y = true := fun y hy => by
            rw [← hws] at hy
            obtain ⟨c, _, rfl⟩ := List.mem_map.mp hy
            exact figV_rd c
          refine ⟨l4, _, rfl, .inl ⟨SqL.of upd_same, fun p hp => ?_⟩⟩
          have s5 : Same H (upd (upd H4 l4 (.lst ws)) p (.tup ws)) := ((s3.trans s4).trans (same_upd hl4)).trans (same_upd hp)
          have hp5 : upd (upd H4 l4 (.lst ws)) p (.tup ws) p = some (.tup ws) := upd_same
          generalize upd (upd H4 l4 (.lst ws)) p (.tup ws) = H5 at s5 hp5
          unfold c_read_readings_4
          walk_at "wp"
          have ar : areReadings H5 (.ref p) = decide (ws.length ≤ 60) := by
            show (match hoTup (H5 p) with | some xs => decide (xs.length ≤ 60) && xs.all isReading | none => false) = _
            rw [hp5]
            show (decide (ws.length ≤ 60) && ws.all isReading) = _
            rw [List.all_eq_true.mpr hr, Bool.and_true]
          refine ⟨_, _, g1, .ref p, rfl, kn_tup hp5, fun a xs ea ex => ?_, fun H6 s6 => ⟨_, rfl, ?_⟩⟩
          · cases ea
            rw [hp5] at ex
            cases ex
            refine ⟨by omega, fun y hy => ?_⟩
            rcases reading_cases (hr y hy) with rfl | rfl <;> exact kn_int
          · rw [ar]
            by_cases h60 : ws.length ≤ 60
            · rw [if_pos (by rw [decide_eq_true_eq]; exact h60)]
              refine q ws ?_ H6 p (s5.trans s6) (s6 _ _ hp5)
              unfold rr
              rw [if_neg h0, if_neg hn, if_pos ha, if_pos (by omega), hws]
            · rw [if_neg (by rw [decide_eq_true_eq]; exact h60)]
              refine qn ?_ H6 (s5.trans s6)
              unfold rr
              rw [if_neg h0, if_neg hn, if_pos ha, if_neg (by omega)]
noncomputable def FIG10 : Str := "0123456789"
theorem fig10_mem (c : Nat) : decide (c ∈ FIG10.cps.toList) = dig c := by
  unfold dig
  rw [show FIG10.cps.toList = List.range' 48 10 by decide +kernel, decide_eq_decide, List.mem_range'_1]
  exact ⟨fun h => ⟨h.1, Nat.le_of_lt_succ h.2⟩, fun h => ⟨h.1, Nat.lt_succ_of_le h.2⟩⟩
noncomputable def spPl : Sp := fun vs H Q _ => ∃ z, vs = [.str z] ∧ z.length ≤ 20000 ∧ (∀ n, placeOf z = some n → ∀ H', Same H H' → Q (.int n) H') ∧ (placeOf z = none → ∀ H', Same H H' → Q .non H')
theorem place_short {z : Str} (h : ¬ (1 ≤ z.length ∧ z.length ≤ 2)) : placeOf z = none := by
  rw [R.str_len] at h
  unfold placeOf
  match z.cps.toList, h with
  | [], _ => rfl
  | [a], h => exact absurd (by simp) h
  | [a, b], h => exact absurd (by simp) h
  | _ :: _ :: _ :: _, _ => rfl
theorem place_dig {z : Str} (h : z.cps.toList.all dig = false) : placeOf z = none := by
  unfold placeOf
  match z.cps.toList, h with
  | [], _ => rfl
  | [a], h =>
    have h' : dig a = false := by simpa using h
    show (if dig a = true then _ else none) = none
    rw [if_neg (by rw [h']; decide)]
  | [a, b], h =>
    have h' : (dig a && dig b) = false := by simpa using h
    show (if (dig a && dig b && !(a == 48)) = true then _ else none) = none
    rw [if_neg (by rw [h', Bool.false_and]; decide)]
  | _ :: _ :: _ :: _, _ => rfl
theorem dig_split {c : Nat} (h : dig c = true) : c = 48 + (c - 48) ∧ c - 48 < 10 := by
  unfold dig at h
  rw [decide_eq_true_eq] at h
  omega
theorem wp_read_place {G : Gam} {K : PySem.W.Frag} (v1 : G.val "FIGURES_rows" = some (.str FIG10)) :
    ∀ vs H Q E, spPl vs H Q E → wpB G K (fun _ => E) c_read_place { nx := fun _ H' => Q .non H', rt := Q } (L2.start n_read_place vs) H := by
  rintro vs H Q E ⟨z, rfl, hz, q, qn⟩
  unfold c_read_place
  change wpB G K _ _ _ [some (.str z)] H
  walk_at "wp"
  have hzl : z.length ≤ sizeLine := Nat.le_trans hz line20
  refine ⟨hzl, ?_⟩
  by_cases h1 : 1 ≤ z.length
  case neg =>
    rw [decide_eq_false (show ¬ (1 : Int) ≤ z.length from by omega)]
    simp only [Bool.false_eq_true, if_false, Bool.not_false, if_true]
    exact qn (place_short (by omega)) H (Same.refl _)
  rw [decide_eq_true (show (1 : Int) ≤ z.length from by omega)]
  simp only [if_true]
  by_cases h2 : z.length ≤ 2
  case neg =>
    rw [decide_eq_false (show ¬ (z.length : Int) ≤ 2 from by omega)]
    simp only [Bool.not_false, if_true]
    exact qn (place_short (by omega)) H (Same.refl _)
  rw [decide_eq_true (show (z.length : Int) ≤ 2 from by omega)]
  simp only [Bool.not_true, Bool.false_eq_true, if_false]
  refine comp_of (any_var_str rfl (comp_seq seq_str hzl (fun _ _ => trivial) (fun i v _ => v = .bl (dig (z.cps.toList.getD i 0))) (fun _ _ _ _ _ h => h) (fun τ => ∃ t, τ = [t]) ⟨none, rfl⟩ ?_ ?_))
  · rintro i x τ H3 R hi ⟨t, rfl⟩ s3 ⟨c, hc, rfl⟩ k
    refine ⟨_, rfl, _, v1, .inl (.inl ⟨_, _, rfl, rfl, ?_⟩)⟩
    rw [StrLaws.found_one, fig10_mem]
    exact k _ _ _ ⟨_, rfl⟩ (Same.refl _) (by rw [getD_some (sign_at hc)])
  · intro vs H2 l hvl hF s2 hl2
    have e1 := bool_list hvl hF
    subst e1
    refine ⟨l, _, rfl, SqL.of upd_same, _, rfl, ?_⟩
    have e2 : ((List.range z.length).map fun i => dig (z.cps.toList.getD i 0)).all id = z.cps.toList.all dig := by
      have := all_getD z.cps.toList 0 dig
      rw [show z.cps.toList.length = z.length by simp [Str.length]] at this
      exact this
    rw [e2]
    have s3 : Same H (upd H2 l (.lst (((List.range z.length).map fun i => dig (z.cps.toList.getD i 0)).map V.bl))) := s2.trans (same_upd hl2)
    generalize upd H2 l (.lst (((List.range z.length).map fun i => dig (z.cps.toList.getD i 0)).map V.bl)) = H3 at s3
    cases ha : z.cps.toList.all dig with
    | false =>
      rw [if_pos (by decide)]
      exact qn (place_dig ha) H3 s3
    | true =>
      rw [if_neg (by decide)]
      unfold c_read_place_2
      walk_at "wp"
      refine ⟨hzl, ?_⟩
      have ez : z = mkS z.cps.toList := str_eq (by simp)
      have el := R.str_len z
      unfold placeOf at q qn
      match hh : z.cps.toList, el with
      | [], el => simp at el; omega
      | [a], el =>
        rw [hh] at ha q qn
        have da : dig a = true := by simpa using ha
        rw [if_neg (by rw [decide_eq_true_eq]; simp at el; omega)]
        unfold c_read_place_3
        walk_at "wp"
        obtain ⟨d1, d2⟩ := dig_split da
        refine ⟨z, ((a - 48 : Nat) : Int), rfl, ?_, q _ (by show (if dig a = true then _ else none) = _; rw [if_pos da]) H3 s3⟩
        rw [ez, hh]
        have := Fig.one d2
        rw [← d1] at this
        exact this
      | [a, b], el =>
        rw [hh] at ha q qn
        have dd : dig a = true ∧ dig b = true := by simpa using ha
        rw [if_pos (by rw [decide_eq_true_eq]; simp at el; omega)]
        refine ⟨a, hzl, by first | rfl | (rw [hh]; rfl), ?_⟩
        by_cases h48 : a = 48
        · rw [if_pos (by rw [decide_eq_true_eq, h48]; decide +kernel)]
          refine qn ?_ H3 s3
          show (if (dig a && dig b && !(a == 48)) = true then _ else none) = none
          rw [if_neg (by rw [h48]; simp)]
        · rw [if_neg]
          · unfold c_read_place_3
            walk_at "wp"
            obtain ⟨d1, d2⟩ := dig_split dd.1
            obtain ⟨d3, d4⟩ := dig_split dd.2
            refine ⟨z, ((10 * (a - 48) + (b - 48) : Nat) : Int), rfl, ?_, q _ ?_ H3 s3⟩
            · rw [ez, hh]
              have := Fig.two d2 d4
              rw [← d1, ← d3] at this
              exact this
            · show (if (dig a && dig b && !(a == 48)) = true then _ else none) = _
              rw [if_pos (by rw [dd.1, dd.2]; simp [h48])]
          · rw [decide_eq_true_eq]
            intro e
            have := congrArg (fun z : Str => z.cps.toList) e
            rw [show (Str.cps (("0" : String) : Str)).toList = [48] from by decide +kernel] at this
            have h' : [a] = [48] := this
            exact h48 (by simpa using h')
      | _ :: _ :: _ :: _, el => simp at el; omega
noncomputable def spRd : Sp := fun vs H Q _ => ∃ z, vs = [.str z] ∧ (z = "0" → ∀ H', Same H H' → Q (.int 0) H') ∧ (z = "1" → ∀ H', Same H H' → Q (.int 1) H') ∧ (z ≠ "0" → z ≠ "1" → ∀ H', Same H H' → Q .non H')
theorem wp_read_reading {G : Gam} {K : PySem.W.Frag} :
    ∀ vs H Q E, spRd vs H Q E → wpB G K (fun _ => E) c_read_reading { nx := fun _ H' => Q .non H', rt := Q } (L2.start n_read_reading vs) H := by
  rintro vs H Q E ⟨z, rfl, q0, q1, qn⟩
  unfold c_read_reading
  change wpB G K _ _ _ [some (.str z)] H
  walk_at "wp"
  refine ⟨by decide, fun p hp => .inr ⟨p, _, rfl, .inr (SqT.of upd_same), rfl, rfl, _, rfl, ?_⟩⟩
  have s1 : Same H (upd H p (.tup [.str "0", .str "1"])) := same_upd hp
  generalize upd H p (.tup [.str "0", .str "1"]) = H1 at s1
  have ei : (if false = true then !inV (.str z) [.str "0", .str "1"] else inV (.str z) [.str "0", .str "1"]) = (decide (z = "0") || decide (z = "1")) := by
    rw [if_neg (by decide)]
    show (eqV (.str "0") (.str z) || (eqV (.str "1") (.str z) || false)) = _
    rw [Bool.or_false]
    congr 1
    · show (((("0" : String)) : Str) == z) = _
      rw [Bool.beq_eq_decide_eq]; exact decide_eq_decide.mpr ⟨Eq.symm, Eq.symm⟩
    · show (((("1" : String)) : Str) == z) = _
      rw [Bool.beq_eq_decide_eq]; exact decide_eq_decide.mpr ⟨Eq.symm, Eq.symm⟩
  rw [ei]
  by_cases h0 : z = "0"
  · rw [decide_eq_true h0, Bool.true_or, if_pos rfl]
    refine ⟨z, 0, rfl, ?_, q0 h0 H1 s1⟩
    rw [h0]
    have := Fig.one (a := 0) (by decide)
    rw [show ((("0" : String)) : Str) = ⟨#[48 + 0]⟩ from by decide +kernel]
    exact this
  · rw [decide_eq_false h0, Bool.false_or]
    by_cases h1 : z = "1"
    · rw [decide_eq_true h1, if_pos rfl]
      refine ⟨z, 1, rfl, ?_, q1 h1 H1 s1⟩
      rw [h1]
      have := Fig.one (a := 1) (by decide)
      rw [show ((("1" : String)) : Str) = ⟨#[48 + 1]⟩ from by decide +kernel]
      exact this
    · rw [decide_eq_false h1, if_neg (by decide)]
      exact qn h0 h1 H1 s1
noncomputable def IsTh (H : Hp) : Th → V → Prop
  | .str z, v => v = .str z
  | .int n, v => v = .int n
  | .rds rs, v => ∃ r, v = .ref r ∧ H r = some (.tup rs)
noncomputable def PV (H : Hp) : Option Th → V → Prop
  | none, v => v = .non
  | some d, v => IsTh H d v
theorem IsTh.same {H H' : Hp} {d : Th} {v : V} (h : IsTh H d v) (s : Same H H') : IsTh H' d v := by
  cases d with
  | str z => exact h
  | int n => exact h
  | rds rs => exact let ⟨r, e1, e2⟩ := h; ⟨r, e1, s _ _ e2⟩
theorem PV.same {H H' : Hp} {o : Option Th} {v : V} (h : PV H o v) (s : Same H H') : PV H' o v := by
  cases o with
  | none => exact h
  | some d => exact IsTh.same h s
noncomputable def spPart : Sp := fun vs H Q _ => ∃ p w, vs = [.str p, .str w] ∧ w.length ≤ 20000 ∧ ∀ H' v, Same H H' → PV H' (part p w) v → Q v H'
theorem wp_read_part {G : Gam} {K : PySem.W.Frag} (g1 : G.fn "is_name" 1 = some (spN, [])) (g2 : G.fn "read_readings" 1 = some (spRR, [])) (g3 : G.fn "read_reading" 1 = some (spRd, [])) (g4 : G.fn "read_place" 1 = some (spPl, [])) :
    ∀ vs H Q E, spPart vs H Q E → wpB G K (fun _ => E) c_read_part { nx := fun _ H' => Q .non H', rt := Q } (L2.start n_read_part vs) H := by
  rintro vs H Q E ⟨p, w, rfl, hw, q⟩
  unfold c_read_part
  change wpB G K _ _ _ [some (.str p), some (.str w)] H
  walk_at "wp"
  unfold part at q
  by_cases h1 : p = "NAME"
  · rw [if_pos (by rw [decide_eq_true_eq]; exact h1)]
    rw [if_pos h1] at q
    refine ⟨_, _, g1, .str w, rfl, kn_str, fun z e => by injection e with e; rw [← e]; exact hw, fun H2 s2 => ⟨_, rfl, ?_⟩⟩
    rw [show isName (.str w) = nameOk w from rfl]
    cases hn : nameOk w with
    | true => rw [if_pos rfl]; rw [hn] at q; exact q H2 _ s2 rfl
    | false => rw [if_neg (by decide)]; rw [hn] at q; exact q H2 _ s2 rfl
  · rw [if_neg (by rw [decide_eq_true_eq]; exact h1)]
    rw [if_neg h1] at q
    by_cases h2 : p = "READINGS"
    · rw [if_pos (by rw [decide_eq_true_eq]; exact h2)]
      rw [if_pos h2] at q
      refine ⟨_, _, g2, w, rfl, hw, fun rs e H2 r s2 hr => ?_, fun e H2 s2 => ?_⟩
      · rw [e] at q; exact q H2 _ s2 ⟨r, rfl, hr⟩
      · rw [e] at q; exact q H2 _ s2 rfl
    · rw [if_neg (by rw [decide_eq_true_eq]; exact h2)]
      rw [if_neg h2] at q
      by_cases h3 : p = "READING"
      · rw [if_pos (by rw [decide_eq_true_eq]; exact h3)]
        rw [if_pos h3] at q
        refine ⟨_, _, g3, w, rfl, fun e H2 s2 => ?_, fun e H2 s2 => ?_, fun e1 e2 H2 s2 => ?_⟩
        · rw [if_pos e] at q; exact q H2 _ s2 rfl
        · rw [if_neg (by rw [e]; decide +kernel), if_pos e] at q; exact q H2 _ s2 rfl
        · rw [if_neg e1, if_neg e2] at q; exact q H2 _ s2 rfl
      · rw [if_neg (by rw [decide_eq_true_eq]; exact h3)]
        rw [if_neg h3] at q
        refine ⟨_, _, g4, w, rfl, hw, fun n e H2 s2 => ?_, fun e H2 s2 => ?_⟩
        · rw [e] at q; exact q H2 _ s2 rfl
        · rw [e] at q; exact q H2 _ s2 rfl
end K91
namespace K91
open PySem PySem.Spec PyProof.Rows L2 R Cp Lt Lm K02 K11 K12
theorem at0 {x : V} {xs : List V} : atI (x :: xs) 0 = some x := atI_nat (j := 0) rfl
noncomputable def Ths (H : Hp) : List Th → List V → Prop
  | [], xs => xs = []
  | d :: ds, xs => ∃ x r, xs = x :: r ∧ IsTh H d x ∧ Ths H ds r
theorem Ths.same {H H' : Hp} (s : Same H H') : ∀ {ds : List Th} {xs : List V}, Ths H ds xs → Ths H' ds xs
  | [], _, h => h
  | d :: ds, _, ⟨x, r, e, h1, h2⟩ => ⟨x, r, e, h1.same s, Ths.same s h2⟩
structure Pk (G : Gam) (K : PySem.W.Frag) (PA : Addr) (kvs : List (Key × V)) : Prop where
  v : G.val "PARTS" = some (.ref PA)
  d : G.dic PA = some kvs
  no : ∀ w, pts w = none → valV kvs (.inr w) = none
  yes : ∀ w ps, pts w = some ps → ∃ a, valV kvs (.inr w) = some (.ref a) ∧ ∀ H, SqT K H a (ps.map V.str)
noncomputable def spRow (C : Addr) : Sp := fun vs H Q E => ∃ x, vs = [x] ∧ Known H x ∧ (∀ z, x = .str z → z.length ≤ 20000) ∧ ((∀ z, x = .str z → dec (Txt.split z " ") = none) → ∀ H', Same H H' → E (.ref C) none H') ∧
  (∀ z ds w r, x = .str z → Txt.split z " " = w :: r → dec (w :: r) = some ds → ∀ H' b l xs, Same H H' → H l = none → H' b = some (.tup [.str w, .ref l]) → H' l = some (.lst xs) → Ths H' ds xs → Q (.ref b) H')
theorem seq_zipt {K : PySem.W.Frag} {a b : Addr} {xs ys : List V} (he : xs.length = ys.length) : Seqs (Itzt K a b) xs.length (fun i x H => ∃ p v w, x = .ref p ∧ H p = some (.tup [v, w]) ∧ xs[i]? = some v ∧ ys[i]? = some w) (fun H => SqT K H a xs ∧ SqL K H b ys) where
  go := fun i H h hi => ⟨xs, ys, xs[i], ys[i]'(by omega), h.1, h.2, by simp [hi], by simp [show i < ys.length by omega]⟩
  stop := fun i H h hi => ⟨xs, h.1, hi⟩
  yld := fun i H x H' h hi y => by
    obtain ⟨p, v, w, hp, e, ex, y1, y2⟩ := y
    subst e ex
    exact ⟨⟨p, v, w, rfl, upd_same, y1 xs h.1, y2 ys h.2⟩, same_upd hp⟩
theorem J_mem {w : Str} : ∀ {ws : List Str}, w ∈ ws → w.length ≤ (J ws).length
  | [x], h => by rw [List.mem_singleton.mp h]; exact Nat.le_refl _
  | x :: y :: r, h => by
    rw [R.str_len (J (x :: y :: r)), J_cons, List.length_append, List.length_cons, ← R.str_len, ← R.str_len]
    rcases List.mem_cons.mp h with rfl | h
    · omega
    · have := J_mem h
      omega
theorem split_mem {z : Str} {w : Str} (h : w ∈ Txt.split z " ") : w.length ≤ z.length := by
  rw [show ((" " : String) : Str) = ⟨#[32]⟩ from sp_is] at h
  have e : J (Txt.split z ⟨#[32]⟩) = z := StrLaws.join_split _ _
  have := J_mem h
  rwa [e] at this
theorem ths_of {H : Hp} : ∀ {ps ws : List Str} {ds : List Th} {vs : List V}, parts2 ps ws = some ds → vs.length = ps.length → (∀ (i : Nat) v, vs[i]? = some v → ∃ p w, ps[i]? = some p ∧ ws[i]? = some w ∧ PV H (part p w) v) → Ths H ds vs
  | [], [], ds, vs, h, hl, _ => by
    cases h
    exact List.length_eq_zero_iff.mp hl
  | p :: ps, w :: ws, ds, vs, h, hl, hv => by
    unfold parts2 at h
    split at h
    · rename_i d ds' e1 e2
      cases h
      cases vs with
      | nil => simp at hl
      | cons v vs =>
        refine ⟨v, vs, rfl, ?_, ths_of e2 (by simpa using hl) fun i v' hi => ?_⟩
        · obtain ⟨p', w', h1, h2, h3⟩ := hv 0 v rfl
          simp at h1 h2
          subst h1 h2
          rw [e1] at h3
          exact h3
        · obtain ⟨p', w', h1, h2, h3⟩ := hv (i + 1) v' (by simpa using hi)
          exact ⟨p', w', by simpa using h1, by simpa using h2, h3⟩
    · cases h
  | [], _ :: _, _, _, h, _, _ => nomatch h
  | _ :: _, [], _, _, h, _, _ => nomatch h
theorem ths_non {H : Hp} : ∀ {ds : List Th} {xs : List V} {x : V}, Ths H ds xs → x ∈ xs → x ≠ .non
  | [], xs, x, h, hx => by rw [show xs = [] from h] at hx; cases hx
  | d :: ds, _, x, ⟨y, r, e, h1, h2⟩, hx => by
    subst e
    rcases List.mem_cons.mp hx with rfl | hx
    · cases d with
      | str z => rw [show x = .str z from h1]; exact fun z => nomatch z
      | int n => rw [show x = .int n from h1]; exact fun z => nomatch z
      | rds rs => obtain ⟨r, rfl, _⟩ := h1; exact fun z => nomatch z
    · exact ths_non h2 hx
theorem parts2_any : ∀ {ps ws : List Str}, ps.length = ws.length → parts2 ps ws = none → ∃ (i : Nat) (p w : Str), ps[i]? = some p ∧ ws[i]? = some w ∧ part p w = none
  | [], [], _, h => nomatch h
  | p :: ps, w :: ws, hl, h => by
    cases e : part p w with
    | none => exact ⟨0, p, w, rfl, rfl, e⟩
    | some d =>
      cases e2 : parts2 ps ws with
      | none =>
        obtain ⟨i, p', w', h1, h2, h3⟩ := parts2_any (by simpa using hl) e2
        exact ⟨i + 1, p', w', by simpa using h1, by simpa using h2, h3⟩
      | some ds =>
        unfold parts2 at h
        rw [e, e2] at h
        cases h
  | [], _ :: _, hl, _ => by simp at hl
  | _ :: _, [], hl, _ => by simp at hl
theorem wp_row_of {G : Gam} {K : PySem.W.Frag} {C PA : Addr} {kvs : List (Key × V)} (v2 : G.val "NoRow" = some (.ref C)) (k1 : PySem.W.keepIn K (.ref C) = true) (k2 : PySem.W.excIn K C bmV "ValueError.__new__" = true) (P : Pk G K PA kvs) (g1 : G.fn "read_part" 2 = some (spPart, [])) :
    ∀ vs H Q E, spRow C vs H Q E → wpB G K (fun _ => E) c_row_of { nx := fun _ H' => Q .non H', rt := Q } (L2.start n_row_of vs) H := by
  rintro vs H Q E ⟨x, rfl, hk, hz, qn, q⟩
  unfold c_row_of
  change wpB G K _ _ _ [some x, none, none] H
  walk_at "wp"
  refine isi hk .str ⟨_, rfl, ?_⟩
  rw [show Ty.t .str = "str" from rfl, sub_str hk]
  cases x with
  | str z =>
    have hz := hz z rfl
    have q := fun ds w r => q z ds w r rfl
    show if (!true) = true then _ else _
    rw [if_neg (by decide)]
    unfold c_row_of_2
    walk_at "wp"
    refine ⟨rfl, z, " ", rfl, rfl, by decide +kernel, Nat.le_trans (Nat.add_le_add_right hz 2) (by decide), fun p hp => ?_⟩
    have s1 : Same H (upd H p (.lst ((Txt.split z " ").map V.str))) := same_upd hp
    have hp1 : upd H p (.lst ((Txt.split z " ").map V.str)) p = some (.lst ((Txt.split z " ").map V.str)) := upd_same
    generalize upd H p (.lst ((Txt.split z " ").map V.str)) = H1 at s1 hp1
    have hpos := split_pos z " "
    have hmem := fun w => split_mem (z := z) (w := w)
    have qn : dec (Txt.split z " ") = none → ∀ H', Same H H' → E (.ref C) none H' := fun h => qn fun z' e => by cases e; exact h
    have hsl : (Txt.split z " ").length ≤ z.length + 2 := split_le z " "
    have q := fun ds w r => q ds w r
    generalize Txt.split z " " = ws at *
    cases ws with
    | nil => simp at hpos
    | cons w r =>
    have hp1 : H1 p = some (.lst (V.str w :: r.map V.str)) := hp1
    unfold c_row_of_3
    walk_at "wp"
    refine .inl ⟨p, _, 0, .str w, rfl, rfl, SqL.of hp1, at0, _, P.v, PA, kvs, .inr w, rfl, P.d, rfl, _, rfl, ?_⟩
    cases ep : pts w with
    | none =>
      rw [P.no w ep, if_pos (by rfl), if_pos trivial]
      exact ⟨C, v2, k1, k2, one_line, qn (dec_no ep) H1 s1⟩
    | some ps =>
      obtain ⟨a, ea, sa⟩ := P.yes w ps ep
      rw [ea, if_neg (by simp)]
      refine .inl ⟨p, _, rfl, .inl (SqL.of hp1), _, P.v, .inl ⟨p, _, 0, .str w, rfl, rfl, SqL.of hp1, at0, PA, kvs, .inr w, .ref a, rfl, P.d, rfl, ea, .inl ⟨a, _, rfl, .inr (sa H1), ?_⟩⟩⟩
      show rBin K .Add (.int 1) (.int (((ps.map V.str).length : Nat) : Int)) H1 _
      rw [add_ii]
      show rCmp K .NotEq (.int (((V.str w :: r.map V.str).length : Nat) : Int)) (.int (1 + (((ps.map V.str).length : Nat) : Int))) H1 _
      rw [ne_ii]
      refine ⟨_, rfl, ?_⟩
      rw [List.length_cons, List.length_map, List.length_map]
      by_cases hl : r.length = ps.length
      case neg =>
        rw [if_pos (by simp; omega)]
        exact ⟨C, v2, k1, k2, one_line, qn (dec_len ep hl) H1 s1⟩
      rw [if_neg (by simp; omega)]
      unfold c_row_of_4
      walk_at "wp"
      refine comp_of ?_
      unfold iZipT
      walk_at "wp"
      refine ⟨_, P.v, .inl ⟨p, _, 0, .str w, rfl, rfl, SqL.of hp1, at0, PA, kvs, .inr w, .ref a, rfl, P.d, rfl, ea, .inl ⟨p, _, rfl, SqL.of hp1, fun p2 hp2 => ?_⟩⟩⟩
      have ec : cutV (V.str w :: r.map V.str) (some 1) none = r.map V.str := by
        unfold cutV
        rw [HT.sIx_none, show (1 : Int) = ((1 : Nat) : Int) from rfl, HT.sIx_nat]
        simp
        exact List.take_of_length_le (by simp)
      rw [ec]
      have s2 := s1.trans (same_upd (o := .lst (r.map V.str)) hp2)
      have hp1' := (same_upd (o := .lst (r.map V.str)) hp2) _ _ hp1
      have h2 : upd H1 p2 (.lst (r.map V.str)) p2 = some (.lst (r.map V.str)) := upd_same
      generalize upd H1 p2 (.lst (r.map V.str)) = H2 at s2 hp1' h2
      refine ⟨a, p2, rfl, ⟨_, sa H2⟩, ⟨_, SqL.of h2⟩, ?_⟩
      have hll : (ps.map V.str).length = (r.map V.str).length := by rw [List.length_map, List.length_map, hl]
      have hpl : (ps.map V.str).length ≤ sizeLine := by
        rw [hll, List.length_map]
        rw [List.length_cons] at hsl
        exact Nat.le_trans (by omega : r.length ≤ 20002) (by decide)
      refine comp_seq (seq_zipt hll) hpl (fun H3 s3 => ⟨sa H3, SqL.of (s3 _ _ h2)⟩) (fun i v H' => ∃ p' w', ps[i]? = some p' ∧ r[i]? = some w' ∧ PV H' (part p' w') v) (fun i v H3 H4 s h => let ⟨p', w', h1, h2, h3⟩ := h; ⟨p', w', h1, h2, h3.same s⟩) (fun τ => ∃ t u, τ = [t, u]) ⟨none, none, rfl⟩ ?_ ?_
      · rintro i x τ H3 R hi ⟨t, u, rfl⟩ s3 ⟨p3, v3, w3, rfl, hp3, e3, e4⟩ k
        rw [List.getElem?_map] at e3 e4
        obtain ⟨p', e5, rfl⟩ := Option.map_eq_some_iff.mp e3
        obtain ⟨w', e6, rfl⟩ := Option.map_eq_some_iff.mp e4
        refine ⟨p3, _, rfl, SqT.of hp3, rfl, _, _, rfl, _, _, rfl, rfl, ?_⟩
        walk_at "wp"
        refine ⟨_, _, g1, p', w', rfl, Nat.le_trans (hmem w' (List.mem_cons_of_mem _ (List.mem_of_getElem? e6))) hz, fun H4 v s4 pv => k _ _ _ ⟨_, _, rfl⟩ s4 ⟨p', w', e5, e6, pv⟩⟩
      · intro vs H3 l hvl hF s3 hl3
        have hlH : H l = none := (s2.trans s3).free hl3
        have s4 := s2.trans (s3.trans (same_upd (o := .lst vs) hl3))
        have hF4 : ∀ (i : Nat) v, vs[i]? = some v → ∃ p' w', ps[i]? = some p' ∧ r[i]? = some w' ∧ PV (upd H3 l (.lst vs)) (part p' w') v := fun i v h => let ⟨p', w', h1, h2, h3⟩ := hF i v h; ⟨p', w', h1, h2, h3.same (same_upd hl3)⟩
        have h4 : upd H3 l (.lst vs) l = some (.lst vs) := upd_same
        have hp4 := (s3.trans (same_upd (o := .lst vs) hl3)) _ _ hp1'
        generalize upd H3 l (.lst vs) = H4 at s4 hF4 h4 hp4
        unfold c_row_of_5
        walk_at "wp"
        have hvl2 : vs.length = ps.length := by rw [hvl, List.length_map]
        have hvz : vs.length ≤ sizeLine := by rw [hvl]; exact hpl
        refine comp_of (any_var_list rfl (SqL.of h4) (comp_seq seq_list hvz (fun H5 s5 => SqL.of (s5 _ _ h4)) (fun i v _ => v = .bl (decide (vs.getD i .non = .non))) (fun _ _ _ _ _ h => h) (fun τ => ∃ t, τ = [t]) ⟨none, rfl⟩ ?_ ?_))
        · rintro i x τ H5 R hi ⟨t, rfl⟩ s5 hx k
          walk_at "wp"
          exact k _ _ _ ⟨_, rfl⟩ (Same.refl _) (by rw [getD_some hx])
        · intro bs H5 m hbl hbF s5 hm5
          have e1 := bool_list hbl hbF
          subst e1
          refine ⟨m, _, rfl, SqL.of upd_same, _, rfl, ?_⟩
          have s6 := s5.trans (same_upd (o := .lst (((List.range vs.length).map fun i => decide (vs.getD i .non = .non)).map V.bl)) hm5)
          generalize upd H5 m (.lst (((List.range vs.length).map fun i => decide (vs.getD i .non = .non)).map V.bl)) = H6 at s6
          cases hd : parts2 ps r with
          | none =>
            obtain ⟨i, p', w', i1, i2, i3⟩ := parts2_any hl.symm hd
            have hi : i < vs.length := by rw [hvl2]; exact (List.getElem?_eq_some_iff.mp i1).1
            obtain ⟨p'', w'', j1, j2, j3⟩ := hF4 i vs[i] (List.getElem?_eq_getElem hi)
            obtain rfl : p' = p'' := Option.some.inj (i1.symm.trans j1)
            obtain rfl : w' = w'' := Option.some.inj (i2.symm.trans j2)
            rw [i3] at j3
            have j3 : vs[i] = .non := j3
            rw [if_pos]
            · exact ⟨C, v2, k1, k2, one_line, qn ((dec_of ep).trans hd) H6 (s4.trans s6)⟩
            · rw [List.any_eq_true]
              refine ⟨true, List.mem_map.mpr ⟨i, List.mem_range.mpr hi, ?_⟩, rfl⟩
              rw [decide_eq_true_eq, List.getD_eq_getElem?_getD, List.getElem?_eq_getElem hi]
              exact j3
          | some ds =>
            have th := ths_of hd hvl2 hF4
            rw [if_neg]
            · unfold c_row_of_6
              walk_at "wp"
              refine .inl ⟨p, _, 0, .str w, rfl, rfl, SqL.of (s6 _ _ hp4), at0, by show 2 ≤ sizeLine; decide, fun b hb => ?_⟩
              have s7 := s6.trans (same_upd (o := .tup [V.str w, .ref l]) hb)
              exact q ds w r rfl ((dec_of ep).trans hd) _ b l vs (s4.trans s7) hlH upd_same (s7 _ _ h4) (th.same s7)
            · rw [Bool.not_eq_true, List.any_eq_false]
              intro b hb
              obtain ⟨i, hi, rfl⟩ := List.mem_map.mp hb
              have hi := List.mem_range.mp hi
              intro z
              have z : vs.getD i .non = .non := of_decide_eq_true z
              rw [List.getD_eq_getElem?_getD, List.getElem?_eq_getElem hi] at z
              have z : vs[i] = .non := z
              exact ths_non th (List.getElem_mem hi) z
  | _ => exact ⟨C, v2, k1, k2, one_line, qn (fun z e => nomatch e) H (Same.refl _)⟩
end K91
namespace K91
open PySem R
noncomputable def p_law_name : List Str := ["_law_drawn_here"]
noncomputable def n_law_name : List Str := ["_law_drawn_here", "_law_letters", "_law_name_here", "_law_k"]
noncomputable def c_law_name_4 : CB :=
    (.cons (.ret (.var 2))
    .nil)
noncomputable def c_law_name_3 : CB :=
    (.cons (.forr (.name 3) (.range1 (.bin .Add (.con (.int 1)) (.bin .Mod (.var 0) (.con (.int 8)))))
    (.cons (.asg (.name 2) (.bin .Add (.var 2) (.idx (.var 1) (.bin .Mod (.bin .Add (.bin .FloorDiv (.bin .FloorDiv (.var 0) (.con (.int 8))) (.bin .Add (.var 3) (.con (.int 1)))) (.bin .Mult (.var 3) (.var 3))) (.con (.int 26))))))
    .nil))
    c_law_name_4)
noncomputable def c_law_name_2 : CB :=
    (.cons (.asg (.name 2) (.con (.str "")))
    c_law_name_3)
noncomputable def c_law_name : CB :=
    (.cons (.asg (.name 1) (.con (.str "abcdefghijklmnopqrstuvwxyz")))
    c_law_name_2)
noncomputable def p_law_readings : List Str := ["_law_drawn_here"]
noncomputable def n_law_readings : List Str := ["_law_drawn_here", "_law_many"]
noncomputable def c_law_readings_2 : CB :=
    (.cons (.ret (.bfn .tuple (.cons (.comp ["_law_j"] [0] (.name 0) (.range1 (.var 1)) .no (.bin .Mod (.bin .FloorDiv (.bin .Mod (.bin .Mult (.var 1) (.bin .Add (.con (.int 48271)) (.bin .Mult (.con (.int 69621)) (.var 0)))) (.con (.int 2147483647))) (.con (.int 7))) (.con (.int 2)))) .nil)))
    .nil)
noncomputable def c_law_readings : CB :=
    (.cons (.asg (.name 1) (.idx (.lst (.cons (.bin .Mod (.bin .FloorDiv (.var 0) (.con (.int 4))) (.con (.int 61))) (.cons (.con (.int 60)) (.cons (.bin .Mod (.bin .FloorDiv (.var 0) (.con (.int 4))) (.con (.int 7))) (.cons (.con (.int 0)) .nil))))) (.bin .Mod (.var 0) (.con (.int 4)))))
    c_law_readings_2)
noncomputable def p_law_row : List Str := ["_law_drawn_here"]
noncomputable def n_law_row : List Str := ["_law_drawn_here", "_law_way", "_law_rest", "_law_name_here", "_law_place", "_law_readings_here", "_law_word"]
noncomputable def c_law_row_10 : CB :=
    (.cons (.ret (.tup (.cons (.var 6) (.cons (.var 6) (.cons (.lst .nil) .nil)))))
    .nil)
noncomputable def c_law_row_9 : CB :=
    (.cons (.asg (.name 6) (.idx (.lst (.cons (.con (.str "table")) (.cons (.con (.str "clash")) (.cons (.con (.str "tree")) (.cons (.con (.str "first")) (.cons (.con (.str "stands")) (.cons (.con (.str "aside")) (.cons (.con (.str "mixers")) .nil)))))))) (.bin .Mod (.var 2) (.con (.int 7)))))
    c_law_row_10)
noncomputable def c_law_row_8 : CB :=
    (.cons (.iff (.cmp .Eq (.var 1) (.con (.int 6)))
    (.cons (.ret (.tup (.cons (.bin .Add (.con (.str "free ")) (.bfn .strI (.cons (.var 4) .nil))) (.cons (.con (.str "free")) (.cons (.lst (.cons (.var 4) .nil)) .nil)))))
    .nil)
    .nil)
    c_law_row_9)
noncomputable def c_law_row_7 : CB :=
    (.cons (.iff (.cmp .Eq (.var 1) (.con (.int 5)))
    (.cons (.ret (.tup (.cons (.bin .Add (.bin .Add (.bin .Add (.con (.str "elder ")) (.bfn .strI (.cons (.var 4) .nil))) (.con (.str " "))) (.idx (.con (.str "01")) (.bin .Mod (.bin .FloorDiv (.var 2) (.con (.int 7))) (.con (.int 2))))) (.cons (.con (.str "elder")) (.cons (.lst (.cons (.var 4) (.cons (.bin .Mod (.bin .FloorDiv (.var 2) (.con (.int 7))) (.con (.int 2))) .nil))) .nil)))))
    .nil)
    .nil)
    c_law_row_8)
noncomputable def c_law_row_6b2 : CB :=
    (.cons (.ret (.tup (.cons (.bin .Add (.bin .Add (.var 6) (.con (.str " "))) (.var 3)) (.cons (.var 6) (.cons (.lst (.cons (.var 3) .nil)) .nil)))))
    .nil)
noncomputable def c_law_row_6 : CB :=
    (.cons (.iff (.cmp .Lt (.var 1) (.con (.int 5)))
    (.cons (.asg (.name 6) (.idx (.lst (.cons (.con (.str "drop")) (.cons (.con (.str "mixed")) .nil))) (.bin .Sub (.var 1) (.con (.int 3)))))
    c_law_row_6b2)
    .nil)
    c_law_row_7)
noncomputable def c_law_row_5b4 : CB :=
    (.cons (.ret (.tup (.cons (.bin .Add (.bin .Add (.bin .Add (.con (.str "copy ")) (.var 3)) (.con (.str " "))) (.var 6)) (.cons (.con (.str "copy")) (.cons (.lst (.cons (.var 3) (.cons (.var 5) .nil))) .nil)))))
    .nil)
noncomputable def c_law_row_5b3 : CB :=
    (.cons (.iff (.cmp .Eq (.var 6) (.con (.str "")))
    (.cons (.asg (.name 6) (.con (.str "-")))
    .nil)
    .nil)
    c_law_row_5b4)
noncomputable def c_law_row_5b2 : CB :=
    (.cons (.asg (.name 6) (.join "" (.comp ["_law_one"] [] (.name 0) (.seq (.var 5)) .no (.idx (.con (.str "01")) (.var 0)))))
    c_law_row_5b3)
noncomputable def c_law_row_5 : CB :=
    (.cons (.iff (.cmp .Lt (.var 1) (.con (.int 3)))
    (.cons (.asg (.name 5) (.call "_law_readings" (.cons (.var 2) .nil)))
    c_law_row_5b2)
    .nil)
    c_law_row_6)
noncomputable def c_law_row_4 : CB :=
    (.cons (.asg (.name 4) (.idx (.lst (.cons (.bin .Mod (.bin .FloorDiv (.var 2) (.con (.int 5))) (.con (.int 10))) (.cons (.bin .Mod (.bin .FloorDiv (.var 2) (.con (.int 5))) (.con (.int 100))) .nil))) (.bin .Mod (.var 2) (.con (.int 2)))))
    c_law_row_5)
noncomputable def c_law_row_3 : CB :=
    (.cons (.asg (.name 3) (.call "_law_name" (.cons (.var 2) .nil)))
    c_law_row_4)
noncomputable def c_law_row_2 : CB :=
    (.cons (.asg (.name 2) (.bin .FloorDiv (.var 0) (.con (.int 9))))
    c_law_row_3)
noncomputable def c_law_row : CB :=
    (.cons (.asg (.name 1) (.bin .Mod (.var 0) (.con (.int 9))))
    c_law_row_2)
end K91
namespace K91
open PySem PySem.Spec PyProof.Rows L2 R Cp Lt Lm K02 K11 K12
theorem sl {n : Nat} (h : n ≤ 20000) : n ≤ sizeLine := Nat.le_trans h line20
noncomputable def spNm : Sp := fun vs H Q _ => ∃ d : Int, vs = [.int d] ∧ ∀ H' n, Same H H' → nameOk n = true → Q (.str n) H'
theorem wp_nm {G : Gam} {K : PySem.W.Frag} :
    ∀ vs H Q E, spNm vs H Q E → wpB G K (fun _ => E) c_law_name { nx := fun _ H' => Q .non H', rt := Q } (L2.start n_law_name vs) H := by
  rintro vs H Q E ⟨d, rfl, q⟩
  unfold c_law_name c_law_name_2 c_law_name_3
  change wpB G K _ _ _ [some (.int d), none, none, none] H
  walk_at "wp"
  refine for_of ?_
  walk_at "wp"
  have h0 : 0 ≤ d % 8 := Int.emod_nonneg _ (by decide)
  have h1 : d % 8 < 8 := Int.emod_lt_of_pos _ (by decide)
  refine ⟨by decide, 1 + d % 8, rfl, by omega, by omega, ?_⟩
  refine for_seq seq_range (fun i σ H' => Same H H' ∧ ∃ l x, σ = [some (.int d), some (.str LETTERS), some (.str (mkS l)), x] ∧ l.length = i ∧ l.all letter = true) ⟨Same.refl _, [], none, rfl, rfl, rfl⟩ (fun _ _ _ _ _ => trivial) ?_ ?_
  · rintro i x σ H1 H2 hi ⟨s1, l, y, rfl, hl, ha⟩ rfl s2
    walk_at "wp"
    simp only [Int.zero_add]
    have hi' : (i : Int) < 8 := by omega
    refine ⟨⟨by decide, by decide⟩, ⟨by omega, by omega⟩, cmulL (by omega) (by omega), by decide, _, letters_line, at_letters _, ?_, s1.trans s2, l ++ [lett (d / 8 / ((i : Int) + 1) + (i : Int) * (i : Int))], some (.int i), ?_, ?_, ?_⟩
    · rw [mk1, mk_len, mk_len]
      exact short (by simp; omega)
    · rw [mk1, mk_app]
    · simp [hl]
    · simp [ha, lett_ok]
  · rintro σ H1 ⟨s1, l, y, rfl, hl, ha⟩
    unfold c_law_name_4
    walk_at "wp"
    refine q H1 _ s1 ?_
    unfold nameOk
    rw [mk_len, Bool.and_eq_true]
    refine ⟨decide_eq_true (by omega), ?_⟩
    show l.toArray.toList.all letter = true
    rw [List.toList_toArray]
    exact ha
theorem at4 {a b c e : V} {i : Int} (h0 : 0 ≤ i) (h1 : i < 4) {P : V → Prop} (pa : P a) (pb : P b) (pc : P c) (pe : P e) : ∃ v, atI [a, b, c, e] i = some v ∧ P v := by
  rcases (by omega : i = 0 ∨ i = 1 ∨ i = 2 ∨ i = 3) with rfl | rfl | rfl | rfl
  · exact ⟨a, rfl, pa⟩
  · exact ⟨b, rfl, pb⟩
  · exact ⟨c, rfl, pc⟩
  · exact ⟨e, rfl, pe⟩
noncomputable def spRds1 : Sp := fun vs H Q _ => ∃ d : Int, vs = [.int d] ∧ ∀ H' b ys, Same H H' → H' b = some (.tup ys) → ys.length ≤ 60 → (∀ y ∈ ys, isReading y = true) → Q (.ref b) H'
theorem wp_rds1 {G : Gam} {K : PySem.W.Frag} :
    ∀ vs H Q E, spRds1 vs H Q E → wpB G K (fun _ => E) c_law_readings { nx := fun _ H' => Q .non H', rt := Q } (L2.start n_law_readings vs) H := by
  rintro vs H Q E ⟨d, rfl, q⟩
  unfold c_law_readings
  change wpB G K _ _ _ [some (.int d), none] H
  walk_at "wp"
  have b61 : 0 ≤ d / 4 % 61 ∧ d / 4 % 61 < 61 := ⟨Int.emod_nonneg _ (by decide), Int.emod_lt_of_pos _ (by decide)⟩
  have b7 : 0 ≤ d / 4 % 7 ∧ d / 4 % 7 < 7 := ⟨Int.emod_nonneg _ (by decide), Int.emod_lt_of_pos _ (by decide)⟩
  obtain ⟨v, ev, m, rfl, hm0, hm1⟩ := at4 (a := V.int (d / 4 % 61)) (b := .int 60) (c := .int (d / 4 % 7)) (e := .int 0) (i := d % 4) (Int.emod_nonneg _ (by decide)) (Int.emod_lt_of_pos _ (by decide)) (P := fun v => ∃ m : Int, v = .int m ∧ 0 ≤ m ∧ m ≤ 60) ⟨_, rfl, by omega, by omega⟩ ⟨_, rfl, by omega, by omega⟩ ⟨_, rfl, by omega, by omega⟩ ⟨_, rfl, by omega, by omega⟩
  refine ⟨⟨by decide, by decide⟩, by decide, ⟨by decide, by decide⟩, by decide, sl (by simp), fun p hp => ⟨by decide, .inl ⟨p, _, d % 4, .int m, rfl, rfl, SqL.of upd_same, ev, ?_⟩⟩⟩
  have s1 := same_upd (o := .lst [V.int (d / 4 % 61), .int 60, .int (d / 4 % 7), .int 0]) hp
  generalize upd H p (.lst [V.int (d / 4 % 61), .int 60, .int (d / 4 % 7), .int 0]) = H1 at s1
  unfold c_law_readings_2
  walk_at "wp"
  refine comp_of ?_
  walk_at "wp"
  refine ⟨m, rfl, by omega, by omega, ?_⟩
  have line : m.toNat ≤ sizeLine := Nat.le_trans (by omega : m.toNat ≤ 60) (by decide)
  refine comp_seq seq_range line (fun _ _ => trivial) (fun i v _ => isReading v = true) (fun _ _ _ _ _ h => h) (fun τ => ∃ t, τ = [t, some (.int d)]) ⟨none, rfl⟩ ?_ ?_
  · rintro i x τ H3 R hi ⟨t, rfl⟩ s3 rfl k
    walk_at "wp"
    have hi60 : (i : Int) < 60 := by omega
    exact ⟨cmulL (by decide) (by decide), cmulR (by omega) (by omega), by decide, ⟨by decide, by decide⟩, by decide, k _ _ _ ⟨_, rfl⟩ (Same.refl _) (mod2 _)⟩
  · intro vs H2 l hvl hF s2 hl2
    refine ⟨l, vs, rfl, .inl ⟨SqL.of upd_same, fun b hb => q _ b vs ((s1.trans s2).trans ((same_upd hl2).trans (same_upd hb))) upd_same (by omega) fun y hy => ?_⟩⟩
    obtain ⟨i, hi⟩ := List.mem_iff_getElem?.mp hy
    exact hF i y hi
end K91
namespace K91
open PySem PySem.Spec PyProof.Rows L2 R Cp Lt Lm K02 K11 K12
theorem sp_list : (Str.cps ((" " : String) : Str)).toList = [32] := by decide +kernel
theorem e_three {a b n w : Str} (h : b.cps.toList = a.cps.toList ++ [32]) : b ++ n ++ " " ++ w = J [a, n, w] := str_eq (by
  rw [cat_list, cat_list, cat_list, J_cons, J_cons, h, sp_list]
  show _ = a.cps.toList ++ 32 :: (n.cps.toList ++ 32 :: w.cps.toList)
  simp)
theorem e_two {w n : Str} : w ++ " " ++ n = J [w, n] := str_eq (by
  rw [cat_list, cat_list, J_cons, sp_list]
  show _ = w.cps.toList ++ 32 :: n.cps.toList
  simp)
theorem e_free {n : Str} : ("free " : Str) ++ n = J ["free", n] := str_eq (by
  rw [cat_list, J_cons, show (Str.cps (("free " : String) : Str)).toList = (Str.cps (("free" : String) : Str)).toList ++ [32] from by decide +kernel]
  show _ = (Str.cps (("free" : String) : Str)).toList ++ 32 :: n.cps.toList
  simp)
theorem at2 {a b : V} {i : Int} (h0 : 0 ≤ i) (h1 : i < 2) {P : V → Prop} (pa : P a) (pb : P b) : ∃ v, atI [a, b] i = some v ∧ P v := by
  rcases (by omega : i = 0 ∨ i = 1) with rfl | rfl
  · exact ⟨a, rfl, pa⟩
  · exact ⟨b, rfl, pb⟩
theorem at7 {l : List Str} {i : Int} (hl : l.length = 7) (h0 : 0 ≤ i) (h1 : i < 7) : ∃ w, atI (l.map V.str) i = some (.str w) ∧ w ∈ l := by
  obtain ⟨k, rfl⟩ := Int.eq_ofNat_of_zero_le h0
  have hk : k < l.length := by omega
  exact ⟨l[k], atI_nat (by rw [List.getElem?_map, List.getElem?_eq_getElem hk]; rfl), List.getElem_mem _⟩
theorem log_small : ∀ k : Fin 100, ((k.val : Int).natAbs).log2 < 1920 := by decide +kernel
noncomputable def RowK (H : Hp) (Q : VK) : Prop := ∀ H' a l xs w r ds, Row (w :: r) ds → Same H H' → H l = none → H' a = some (.tup [.str (J (w :: r)), .str w, .ref l]) → H' l = some (.lst xs) → Ths H' ds xs → Q (.ref a) H'
noncomputable def spDr : Sp := fun vs H Q _ => ∃ d : Int, vs = [.int d] ∧ RowK H Q
theorem fin_row {Q : VK} {H0 H : Hp} (q : RowK H0 Q) {w : Str} {r : List Str} {ds : List Th} {xs : List V} (hR : Row (w :: r) ds) (s : Same H0 H) {l a : Addr} (hl : H l = none) (ha : (upd H l (.lst xs)) a = none) (ht : Ths H ds xs) :
    Q (.ref a) (upd (upd H l (.lst xs)) a (.tup [.str (J (w :: r)), .str w, .ref l])) := by
  have s2 : Same H (upd (upd H l (.lst xs)) a (.tup [.str (J (w :: r)), .str w, .ref l])) := (same_upd hl).trans (same_upd ha)
  exact q _ a l xs w r ds hR (s.trans s2) (s.free hl) upd_same ((same_upd ha) _ _ upd_same) (ht.same s2)
section
variable {G : Gam} {K : PySem.W.Frag} {E : XS} {Q : VK} {D : Ends} {H0 H : Hp} {d way rest p : Int} {n : Str} {x5 x6 : Option V}
noncomputable abbrev sig (d way rest : Int) (n : Str) (p : Int) (x5 x6 : Option V) : L2.St := [some (.int d), some (.int way), some (.int rest), some (.str n), some (.int p), x5, x6]
theorem wp_row_9 (hr : D.rt = Q) (q : RowK H0 Q) (s : Same H0 H) : wpB G K E c_law_row_9 D (sig d way rest n p x5 x6) H := by
  unfold c_law_row_9
  walk_at "wp"
  obtain ⟨w, ew, hw⟩ := at7 (l := seven) (i := rest % 7) (by decide) (Int.emod_nonneg _ (by decide)) (Int.emod_lt_of_pos _ (by decide))
  refine ⟨sl (by simp), fun p1 hp1 => ⟨by decide, .inl ⟨p1, _, rest % 7, .str w, rfl, rfl, SqL.of upd_same, ew, ?_⟩⟩⟩
  have s1 := s.trans (same_upd (o := .lst (seven.map V.str)) hp1)
  change wpB G K E c_law_row_10 D (sig d way rest n p x5 (some (.str w))) (upd H p1 (.lst (seven.map V.str)))
  generalize upd H p1 (.lst (seven.map V.str)) = H1 at s1
  unfold c_law_row_10
  walk_at "wp"
  refine ⟨Nat.zero_le _, fun l hl => ⟨sl (by simp), fun a ha => ?_⟩⟩
  rw [hr]
  exact fin_row q (Row.one hw) s1 hl ha rfl
theorem wp_row_8 (hr : D.rt = Q) (q : RowK H0 Q) (s : Same H0 H) (p0 : 0 ≤ p) (p1 : p < 100) : wpB G K E c_law_row_8 D (sig d way rest n p x5 x6) H := by
  unfold c_law_row_8
  walk_at "wp"
  by_cases h : way = 6
  case neg =>
    rw [if_neg (by rw [decide_eq_true_eq]; exact h)]
    exact wp_row_9 hr q s
  rw [if_pos (by rw [decide_eq_true_eq]; exact h)]
  obtain ⟨k, rfl⟩ := Int.eq_ofNat_of_zero_le p0
  have hk : k < 100 := by omega
  obtain ⟨⟨_, t2, _⟩, _⟩ := tS_fact ⟨k, hk⟩
  refine ⟨(k : Int), rfl, log_small ⟨k, hk⟩, ?_⟩
  refine add_ss.mpr ?_
  refine ⟨?_, sl (by simp), fun l hl => ⟨sl (by simp), fun a ha => ?_⟩⟩
  · show Str.length (("free " : String) : Str) + (tS k).length ≤ _
    have t2 : (tS k).length ≤ 2 := t2
    rw [show Str.length (("free " : String) : Str) = 5 from by decide +kernel]
    exact sl (by omega)
  · rw [hr, show (("free " : String) : Str) ++ ((toString (k : Int) : String) : Str) = J ["free", tS k] from e_free]
    exact fin_row q (Row.free hk) s hl ha ⟨_, _, rfl, rfl, rfl⟩
theorem wp_row_7 (hr : D.rt = Q) (q : RowK H0 Q) (s : Same H0 H) (p0 : 0 ≤ p) (p1 : p < 100) : wpB G K E c_law_row_7 D (sig d way rest n p x5 x6) H := by
  unfold c_law_row_7
  walk_at "wp"
  by_cases h : way = 5
  case neg =>
    rw [if_neg (by rw [decide_eq_true_eq]; exact h)]
    exact wp_row_8 hr q s p0 p1
  rw [if_pos (by rw [decide_eq_true_eq]; exact h)]
  obtain ⟨k, rfl⟩ := Int.eq_ofNat_of_zero_le p0
  have hk : k < 100 := by omega
  obtain ⟨⟨_, t2, _⟩, _⟩ := tS_fact ⟨k, hk⟩
  have t2 : (tS k).length ≤ 2 := t2
  have r0 : 0 ≤ rest / 7 % 2 := Int.emod_nonneg _ (by decide)
  have r1 : rest / 7 % 2 < 2 := Int.emod_lt_of_pos _ (by decide)
  generalize rest / 7 % 2 = ri at r0 r1
  obtain ⟨r, rfl⟩ := Int.eq_ofNat_of_zero_le r0
  have hr2 : r < 2 := by omega
  have er : atI (Str.cps (("01" : String) : Str)).toList (r : Int) = some (48 + r) := by
    rcases (by omega : r = 0 ∨ r = 1) with rfl | rfl <;> decide +kernel
  have l6 : Str.length (("elder " : String) : Str) = 6 := by decide +kernel
  have l1 : Str.length ((" " : String) : Str) = 1 := by decide +kernel
  refine ⟨(k : Int), rfl, log_small ⟨k, hk⟩, ?_⟩
  refine add_ss.mpr ?_
  refine ⟨?_, ?_⟩
  · show Str.length (("elder " : String) : Str) + (tS k).length ≤ _
    exact sl (by omega)
  refine add_ss.mpr ?_
  refine ⟨?_, ⟨by decide, by decide⟩, by decide, 48 + r, by decide +kernel, er, ?_⟩
  · show ((("elder " : String) : Str) ++ tS k).length + Str.length ((" " : String) : Str) ≤ _
    rw [cat_len]
    exact sl (by omega)
  refine add_ss.mpr ?_
  refine ⟨?_, ⟨by decide, by decide⟩, by decide, sl (by simp), fun l hl => ⟨sl (by simp), fun a ha => ?_⟩⟩
  · show ((("elder " : String) : Str) ++ tS k ++ ((" " : String) : Str)).length + 1 ≤ _
    rw [cat_len, cat_len]
    exact sl (by omega)
  · rw [hr, show (("elder " : String) : Str) ++ ((toString (k : Int) : String) : Str) ++ ((" " : String) : Str) ++ (⟨#[48 + r]⟩ : Str) = J ["elder", tS k, sg r] from e_three (by decide +kernel)]
    exact fin_row q (Row.elder hk hr2) s hl ha ⟨_, _, rfl, rfl, _, _, rfl, rfl, rfl⟩
theorem wp_row_6 (hr : D.rt = Q) (q : RowK H0 Q) (s : Same H0 H) (p0 : 0 ≤ p) (p1 : p < 100) (hn : nameOk n = true) (w3 : 3 ≤ way) : wpB G K E c_law_row_6 D (sig d way rest n p x5 x6) H := by
  unfold c_law_row_6
  walk_at "wp"
  by_cases h : way < 5
  case neg =>
    rw [if_neg (by rw [decide_eq_true_eq]; exact h)]
    exact wp_row_7 hr q s p0 p1
  rw [if_pos (by rw [decide_eq_true_eq]; exact h)]
  obtain ⟨v, ev, w, rfl, hw⟩ := at2 (a := V.str "drop") (b := .str "mixed") (i := way - 3) (by omega) (by omega) (P := fun v => ∃ w : Str, v = .str w ∧ (w = "drop" ∨ w = "mixed")) ⟨_, rfl, .inl rfl⟩ ⟨_, rfl, .inr rfl⟩
  refine ⟨sl (by simp), fun p1 hp1 => .inl ⟨p1, _, way - 3, .str w, rfl, rfl, SqL.of upd_same, ev, ?_⟩⟩
  have s1 := s.trans (same_upd (o := .lst [V.str "drop", .str "mixed"]) hp1)
  generalize upd H p1 (.lst [V.str "drop", .str "mixed"]) = H1 at s1
  unfold c_law_row_6b2
  walk_at "wp"
  have hl8 := name_len hn
  have lw : w.length ≤ 5 := by rcases hw with rfl | rfl <;> decide +kernel
  have l1 : Str.length ((" " : String) : Str) = 1 := by decide +kernel
  refine ⟨sl (by omega), ?_, sl (by simp), fun l hl => ⟨sl (by simp), fun a ha => ?_⟩⟩
  · rw [cat_len]
    exact sl (by omega)
  · rw [hr, show w ++ ((" " : String) : Str) ++ n = J [w, n] from e_two]
    exact fin_row q (Row.name hw hn) s1 hl ha ⟨_, _, rfl, rfl, rfl⟩
theorem wp_row_5 (g2 : G.fn "_law_readings" 1 = some (spRds1, [])) (hr : D.rt = Q) (q : RowK H0 Q) (s : Same H0 H) (p0 : 0 ≤ p) (p1 : p < 100) (hn : nameOk n = true) (w0 : 0 ≤ way) : wpB G K E c_law_row_5 D (sig d way rest n p x5 x6) H := by
  unfold c_law_row_5
  walk_at "wp"
  by_cases h : way < 3
  case neg =>
    rw [if_neg (by rw [decide_eq_true_eq]; exact h)]
    exact wp_row_6 hr q s p0 p1 hn (by omega)
  rw [if_pos (by rw [decide_eq_true_eq]; exact h)]
  refine ⟨_, _, g2, rest, rfl, fun H1 b rs s1 hb hl60 hrd => ?_⟩
  have s1 := s.trans s1
  unfold c_law_row_5b2
  walk_at "wp"
  refine ⟨rfl, comp_of (any_var_tup rfl (SqT.of hb) (comp_seq seq_tup (Nat.le_trans hl60 (by decide)) (fun H2 s2 => SqT.of (s2 _ _ hb)) (fun i v _ => v = .str (sgn (rs.getD i .non))) (fun _ _ _ _ _ h => h) (fun τ => ∃ t, τ = [t]) ⟨none, rfl⟩ ?_ ?_))⟩
  · rintro i y τ H3 R hi ⟨t, rfl⟩ s3 hy k
    obtain ⟨j, rfl, hj⟩ := lit01 y (hrd y (List.mem_of_getElem? hy))
    walk_at "wp"
    exact ⟨_, by decide +kernel, hj, k _ _ _ ⟨_, rfl⟩ (Same.refl _) (by rw [getD_some hy]; rfl)⟩
  · intro vs H2 l hvl hF s2 hl2
    have e : vs = rs.map fun y => V.str (sgn y) := map_list hvl hF
    subst e
    refine ⟨"", l, rs.map sgn, rfl, rfl, ?_, by decide +kernel, by rw [ones, List.length_map]; omega, ?_⟩
    · rw [List.map_map]; exact SqL.of upd_same
    · rw [join_sgn]
      have s3 := s1.trans (s2.trans (same_upd (o := .lst (rs.map fun y => V.str (sgn y))) hl2))
      have hb3 := (same_upd (o := .lst (rs.map fun y => V.str (sgn y))) hl2) _ _ (s2 _ _ hb)
      generalize upd H2 l (.lst (rs.map fun y => V.str (sgn y))) = H3 at s3 hb3
      have last : wpB G K E c_law_row_5b4 D [some (.int d), some (.int way), some (.int rest), some (.str n), some (.int p), some (.ref b), some (.str (rdT rs))] H3 := by
        unfold c_law_row_5b4
        walk_at "wp"
        have hl8 := name_len hn
        have h60 := rdT_len rs hl60
        have l5 : Str.length (("copy " : String) : Str) = 5 := by decide +kernel
        have l1 : Str.length ((" " : String) : Str) = 1 := by decide +kernel
        refine ⟨sl (by omega), ?_, ?_, sl (by simp), fun l hl => ⟨sl (by simp), fun a ha => ?_⟩⟩
        · rw [cat_len]; exact sl (by omega)
        · rw [cat_len, cat_len]; exact sl (by omega)
        · rw [hr, show (("copy " : String) : Str) ++ n ++ ((" " : String) : Str) ++ rdT rs = J ["copy", n, rdT rs] from e_three (by decide +kernel)]
          exact fin_row q (Row.copy hn hrd hl60) s3 hl ha ⟨_, _, rfl, rfl, _, _, rfl, ⟨b, rfl, hb3⟩, rfl⟩
      unfold c_law_row_5b3
      walk_at "wp"
      unfold rdT at last
      by_cases h0 : rs = []
      · rw [if_pos h0] at last
        subst h0
        rw [if_pos (by decide +kernel)]
        exact last
      · rw [if_neg h0] at last
        rw [if_neg ?_]
        · exact last
        · rw [decide_eq_true_eq]
          intro z
          have := congrArg Str.length z
          rw [mk_len, List.length_map] at this
          exact h0 (List.length_eq_zero_iff.mp (this.trans (by decide +kernel)))
end
theorem wp_dr {G : Gam} {K : PySem.W.Frag} (g1 : G.fn "_law_name" 1 = some (spNm, [])) (g2 : G.fn "_law_readings" 1 = some (spRds1, [])) :
    ∀ vs H Q E, spDr vs H Q E → wpB G K (fun _ => E) c_law_row { nx := fun _ H' => Q .non H', rt := Q } (L2.start n_law_row vs) H := by
  rintro vs H Q E ⟨d, rfl, q⟩
  unfold c_law_row c_law_row_2 c_law_row_3
  change wpB G K _ _ _ [some (.int d), none, none, none, none, none, none] H
  walk_at "wp"
  refine ⟨by decide, ⟨by decide, by decide⟩, _, _, g1, d / 9, rfl, fun H1 n s1 hn => ?_⟩
  unfold c_law_row_4
  walk_at "wp"
  generalize d / 9 = rest
  obtain ⟨v, ev, p, rfl, p0, p1⟩ := at2 (a := V.int (rest / 5 % 10)) (b := .int (rest / 5 % 100)) (i := rest % 2) (Int.emod_nonneg _ (by decide)) (Int.emod_lt_of_pos _ (by decide)) (P := fun v => ∃ p : Int, v = .int p ∧ 0 ≤ p ∧ p < 100)
    ⟨_, rfl, Int.emod_nonneg _ (by decide), Int.lt_trans (Int.emod_lt_of_pos _ (by decide)) (by decide)⟩ ⟨_, rfl, Int.emod_nonneg _ (by decide), Int.emod_lt_of_pos _ (by decide)⟩
  refine ⟨⟨by decide, by decide⟩, by decide, ⟨by decide, by decide⟩, by decide, sl (by simp), fun a ha => ⟨by decide, .inl ⟨a, _, rest % 2, .int p, rfl, rfl, SqL.of upd_same, ev, ?_⟩⟩⟩
  exact wp_row_5 g2 rfl q (s1.trans (same_upd ha)) p0 p1 hn (Int.emod_nonneg _ (by decide))
end K91
namespace K91
open PySem R
noncomputable def p_law_same : List Str := ["_law_found", "_law_word", "_law_things"]
noncomputable def n_law_same : List Str := ["_law_found", "_law_word", "_law_things"]
noncomputable def c_law_same_3 : CB :=
    (.cons (.ret (.or (.cmp .NotEq (.var 1) (.con (.str "copy"))) (.bfn .isinstance (.cons (.idx (.idx (.var 0) (.con (.int 1))) (.con (.int 1))) (.cons (.ty .tuple) .nil)))))
    .nil)
noncomputable def c_law_same_2 : CB :=
    (.cons (.iff (.or (.cmp .NotEq (.idx (.var 0) (.con (.int 1))) (.var 2)) (.cmp .NotEq (.comp ["_law_thing"] [] (.name 0) (.seq (.idx (.var 0) (.con (.int 1)))) (.yes (.bfn .isinstance (.cons (.var 0) (.cons (.ty .bool) .nil)))) (.var 0)) (.lst .nil)))
    (.cons (.ret (.con (.bool false)))
    .nil)
    .nil)
    c_law_same_3)
noncomputable def c_law_same : CB :=
    (.cons (.iff (.or (.not (.bfn .isinstance (.cons (.var 0) (.cons (.ty .tuple) .nil)))) (.or (.cmp .NotEq (.bfn .len (.cons (.var 0) .nil)) (.con (.int 2))) (.or (.cmp .NotEq (.idx (.var 0) (.con (.int 0))) (.var 1)) (.not (.bfn .isinstance (.cons (.idx (.var 0) (.con (.int 1))) (.cons (.ty .list) .nil)))))))
    (.cons (.ret (.con (.bool false)))
    .nil)
    .nil)
    c_law_same_2)
noncomputable def p_law_refused : List Str := ["_law_thing"]
noncomputable def n_law_refused : List Str := ["_law_thing", "_law_caught", "e"]
noncomputable def c_law_refused_5 : CB :=
    (.cons (.ret (.and (.not (.bfn .isinstance (.cons (.var 1) (.cons (.glo "NoReading") .nil)))) (.not (.bfn .isinstance (.cons (.var 1) (.cons (.glo "NoTable") .nil))))))
    .nil)
noncomputable def c_law_refused_4 : CB :=
    (.cons (.iff (.or (.bfn .isinstance (.cons (.var 1) (.cons (.glo "NoText") .nil))) (.or (.bfn .isinstance (.cons (.var 1) (.cons (.glo "NoName") .nil))) (.bfn .isinstance (.cons (.var 1) (.cons (.glo "NoPlace") .nil)))))
    (.cons (.ret (.con (.bool false)))
    .nil)
    .nil)
    c_law_refused_5)
noncomputable def c_law_refused_3 : CB :=
    (.cons (.iff (.or (.not (.bfn .isinstance (.cons (.var 1) (.cons (.glo "NoRow") .nil)))) (.not (.bfn .isinstance (.cons (.var 1) (.cons (.ty .valueError) .nil)))))
    (.cons (.ret (.con (.bool false)))
    .nil)
    .nil)
    c_law_refused_4)
noncomputable def c_law_refused_2 : CB :=
    (.cons (.tryc "KinError" 2
    (.cons (.expr (.call "row_of" (.cons (.var 0) .nil)))
    .nil)
    (.cons (.asg (.name 1) (.var 2))
    .nil))
    c_law_refused_3)
noncomputable def c_law_refused : CB :=
    (.cons (.asg (.name 1) (.con .none))
    c_law_refused_2)
end K91
namespace K91
open PySem PySem.Spec PyProof.Rows L2 R Cp Lt Lm K02 K11 K12
noncomputable def thD : Th → D
  | .str z => .str z
  | .int n => .int n
  | .rds rs => .tup (rs.map rdD)
noncomputable def ThOk : Th → Prop
  | .rds rs => ∀ y ∈ rs, isReading y = true
  | _ => True
theorem Row.ok {ws : List Str} {ds : List Th} (h : Row ws ds) : ∀ d ∈ ds, ThOk d := by
  intro d hd
  cases h with
  | copy hn hr hl =>
    simp only [List.mem_cons, List.not_mem_nil, or_false] at hd
    rcases hd with rfl | rfl
    · trivial
    · exact hr
  | name hw hn => rw [List.mem_singleton.mp hd]; trivial
  | elder hp hr =>
    simp only [List.mem_cons, List.not_mem_nil, or_false] at hd
    rcases hd with rfl | rfl <;> trivial
  | free hp => rw [List.mem_singleton.mp hd]; trivial
  | one hw => cases hd
theorem Row.cp {w : Str} {r : List Str} {ds : List Th} (h : Row (w :: r) ds) (e : w = "copy") : ∃ n rs, ds = [.str n, .rds rs] := by
  subst e
  cases h with
  | copy hn hr hl => exact ⟨_, _, rfl⟩
  | name hw hn => rcases hw with e | e <;> exact absurd e (by decide +kernel)
  | one hw => exact absurd rfl (of_seven hw).2.2.2.2.2.2
theorem rep_th {K : PySem.W.Frag} {H : Hp} {d : Th} {v : V} (h : IsTh H d v) (o : ThOk d) : Rep K H (thD d) v := by
  cases d with
  | str z => exact h
  | int n => exact h
  | rds rs =>
    obtain ⟨r, rfl, e⟩ := h
    exact ⟨r, rs, rfl, SqT.of e, reps_rdD o⟩
theorem reps_th {K : PySem.W.Frag} {H : Hp} : ∀ {ds : List Th} {xs : List V}, Ths H ds xs → (∀ d ∈ ds, ThOk d) → Reps K H (ds.map thD) xs
  | [], _, h, _ => h
  | d :: ds, _, ⟨x, r, e, h1, h2⟩, o => ⟨x, r, e, rep_th h1 (o d List.mem_cons_self), reps_th h2 fun d' h => o d' (List.mem_cons_of_mem _ h)⟩
theorem hgt_th {d : Th} (o : ThOk d) : hgt (thD d) ≤ 1 := by
  cases d with
  | str z => exact Nat.zero_le _
  | int n => exact Nat.zero_le _
  | rds rs =>
    show hgts (rs.map rdD) + 1 ≤ 1
    rw [hgts_rdD o]
    exact Nat.le_refl _
theorem hgts_th : ∀ {ds : List Th}, (∀ d ∈ ds, ThOk d) → hgts (ds.map thD) ≤ 1
  | [], _ => Nat.zero_le _
  | d :: ds, o => by
    rw [List.map_cons, hgts]
    have h1 := hgt_th (o d List.mem_cons_self)
    have h2 := hgts_th (ds := ds) fun d' h => o d' (List.mem_cons_of_mem _ h)
    omega
theorem ths_mem {H : Hp} : ∀ {ds : List Th} {xs : List V} {x : V}, Ths H ds xs → x ∈ xs → ∃ d, IsTh H d x
  | [], xs, x, h, hx => by rw [show xs = [] from h] at hx; cases hx
  | d :: ds, _, x, ⟨y, r, e, h1, h2⟩, hx => by
    subst e
    rcases List.mem_cons.mp hx with rfl | hx
    · exact ⟨d, h1⟩
    · exact ths_mem h2 hx
theorem ths_len {H : Hp} : ∀ {ds : List Th} {xs : List V}, Ths H ds xs → xs.length = ds.length
  | [], xs, h => by rw [show xs = [] from h]; rfl
  | d :: ds, _, ⟨y, r, e, h1, h2⟩ => by subst e; rw [List.length_cons, List.length_cons, ths_len h2]
theorem th_kn {H : Hp} {d : Th} {x : V} (h : IsTh H d x) : Known H x ∧ subTy (tyName H x) (Ty.t .bool) = false := by
  cases d with
  | str z => rw [show x = .str z from h]; exact ⟨kn_str, rfl⟩
  | int n => rw [show x = .int n from h]; exact ⟨kn_int, rfl⟩
  | rds rs =>
    obtain ⟨r, rfl, e⟩ := h
    refine ⟨kn_tup e, ?_⟩
    show subTy (hoTy (H r)) "bool" = false
    rw [e]; rfl
noncomputable def spSm : Sp := fun vs H Q _ => ∃ b l t w r xs ys ds, vs = [.ref b, .str w, .ref t] ∧ Row (w :: r) ds ∧ H b = some (.tup [.str w, .ref l]) ∧ H l = some (.lst xs) ∧ H t = some (.lst ys) ∧ Ths H ds xs ∧ Ths H ds ys ∧ ∀ H', Same H H' → Q (.bl true) H'
theorem row_few {ws : List Str} {ds : List Th} (h : Row ws ds) : ds.length ≤ 2 := by cases h <;> simp
theorem wp_sm {G : Gam} {K : PySem.W.Frag} :
    ∀ vs H Q E, spSm vs H Q E → wpB G K (fun _ => E) c_law_same { nx := fun _ H' => Q .non H', rt := Q } (L2.start n_law_same vs) H := by
  rintro vs H Q E ⟨b, l, t, w, r, xs, ys, ds, rfl, R0, hb, hl, ht, tx, ty, q⟩
  unfold c_law_same
  change wpB G K _ _ _ [some (.ref b), some (.str w), some (.ref t)] H
  walk_at "wp"
  refine isi_tup hb ⟨_, rfl, ?_⟩
  rw [if_neg (by decide)]
  refine .inl ⟨b, _, rfl, .inr (SqT.of hb), ?_⟩
  show rCmp K .NotEq (.int ((2 : Nat) : Int)) (.int 2) H _
  rw [ne_ii]
  refine ⟨_, rfl, ?_⟩
  rw [if_neg (by decide)]
  refine .inr (.inl ⟨b, _, 0, .str w, rfl, rfl, SqT.of hb, rfl, ?_⟩)
  refine ne_ss.mpr ⟨_, rfl, ?_⟩
  rw [if_neg (by simp)]
  refine .inr (.inl ⟨b, _, 1, .ref l, rfl, rfl, SqT.of hb, rfl, isi_list hl ⟨_, rfl, ?_⟩⟩)
  rw [if_neg (by decide)]
  unfold c_law_same_2
  walk_at "wp"
  have hg : hgt (.lst (ds.map thD)) ≤ 30 := by
    show hgts (ds.map thD) + 1 ≤ 30
    have := hgts_th R0.ok
    omega
  refine .inr (.inl ⟨b, _, 1, .ref l, rfl, rfl, SqT.of hb, rfl, .lst (ds.map thD), .lst (ds.map thD), ⟨l, xs, rfl, SqL.of hl, reps_th tx R0.ok⟩, ⟨t, ys, rfl, SqL.of ht, reps_th ty R0.ok⟩, hg, _, rfl, ?_⟩)
  rw [eqD_self, if_neg (by decide)]
  refine comp_of ⟨_, rfl, .inr (.inl ⟨b, _, 1, .ref l, rfl, rfl, SqT.of hb, rfl, ?_⟩)⟩
  refine .inl ⟨l, rfl, ⟨_, SqL.of hl⟩, ?_⟩
  have hxl : xs.length ≤ sizeLine := by rw [ths_len tx]; exact Nat.le_trans (row_few R0) (by decide)
  refine comp_filt (xs := xs) seq_list hxl (fun H1 s1 => SqL.of (s1 _ _ hl)) (fun _ => false) id (fun τ => ∃ t, τ = [t]) ⟨none, rfl⟩ ?_ ?_
  · rintro x τ H3 Rt Rf hx ⟨t, rfl⟩ s3 _ kf
    obtain ⟨d, hd⟩ := ths_mem tx hx
    obtain ⟨k1, k2⟩ := th_kn (hd.same s3)
    walk_at "wp"
    refine isi k1 .bool ⟨_, rfl, ?_⟩
    rw [k2]
    exact kf _ _ ⟨_, rfl⟩ (Same.refl _) rfl
  · intro H2 m s2 hm
    have em : (xs.filter fun _ => false).map id = ([] : List V) := by simp
    rw [em]
    refine ⟨Nat.zero_le _, fun p hp => ?_⟩
    refine ⟨.lst [], .lst [], ⟨m, [], rfl, SqL.of ((same_upd hp) _ _ upd_same), rfl⟩, ⟨p, [], rfl, SqL.of upd_same, rfl⟩, by decide, _, rfl, ?_⟩
    rw [if_neg (by decide)]
    have s5 := (s2.trans (same_upd (o := .lst []) hm)).trans (same_upd (o := .lst []) hp)
    generalize upd (upd H2 m (.lst [])) p (.lst []) = H5 at s5
    unfold c_law_same_3
    walk_at "wp"
    by_cases hc : w = "copy"
    · obtain ⟨n, rs, e⟩ := R0.cp hc
      subst e
      obtain ⟨x1, r1, rfl, h1, x2, r2, rfl, ⟨c, rfl, hc2⟩, e3⟩ := tx
      rw [decide_eq_true hc]
      refine .inr (.inl ⟨b, _, 1, .ref l, rfl, rfl, SqT.of (s5 _ _ hb), rfl, .inl ⟨l, _, 1, .ref c, rfl, rfl, SqL.of (s5 _ _ hl), atI_nat (j := 1) rfl, ?_⟩⟩)
      exact isi_tup (s5 _ _ hc2) (q _ s5)
    · rw [decide_eq_false hc]
      exact q _ s5
noncomputable def others : List Str := ["NoText", "NoName", "NoPlace", "NoReading", "NoTable"]
structure Xr (G : Gam) (K : PySem.W.Frag) (CE C : Addr) : Prop where
  v0 : G.val "KinError" = some (.ref CE)
  v1 : G.val "NoRow" = some (.ref C)
  m : PySem.W.exmOne K (.ref C) (.ref CE) = some true
  o : excOk K C = true
  k1 : PySem.W.kitOne K (.ref C) (.ref C) = some true
  kv : PySem.W.kitOne K (.ref C) (.type "ValueError") = some true
  oth : ∀ x ∈ others, ∃ D, G.val x = some (.ref D) ∧ PySem.W.kitOne K (.ref C) (.ref D) = some false
noncomputable def NoRow (H : Hp) (x : V) : Prop := Known H x ∧ (∀ z, x = .str z → Bad z)
noncomputable def spRf : Sp := fun vs H Q _ => ∃ x, vs = [x] ∧ NoRow H x ∧ ∀ H', Same H H' → Q (.bl true) H'
theorem wp_rf {G : Gam} {K : PySem.W.Frag} {CE C : Addr} (X : Xr G K CE C) (g1 : G.fn "row_of" 1 = some (spRow C, [])) :
    ∀ vs H Q E, spRf vs H Q E → wpB G K (fun _ => E) c_law_refused { nx := fun _ H' => Q .non H', rt := Q } (L2.start n_law_refused vs) H := by
  rintro vs H Q E ⟨x, rfl, ⟨hk, hb⟩, q⟩
  unfold c_law_refused c_law_refused_2
  change wpB G K _ _ _ [some x, none, none] H
  walk_at "wp"
  refine ⟨CE, X.v0, _, _, g1, x, rfl, hk, fun z e => Nat.le_trans (hb z e).1 (by decide), fun _ H' s' => ⟨rfl, X.m, fun a ha => ?_⟩, fun z ds w r e e2 e3 => ?_⟩
  · walk_at "wp"
    have s2 := s'.trans (same_upd (o := excO a (.ref C)) ha)
    have ha : upd H' a (excO a (.ref C)) a = some (excO a (.ref C)) := upd_same
    change wpB G K _ c_law_refused_3 _ [some x, some (.ref a), none] (upd H' a (excO a (.ref C)))
    generalize upd H' a (excO a (.ref C)) = H1 at s2 ha
    have mem : ∀ i : Fin 5, others[i.val] ∈ others := fun i => List.getElem_mem _
    obtain ⟨d0, v0, k0⟩ := X.oth "NoText" (mem 0)
    obtain ⟨d1, v1, k1⟩ := X.oth "NoName" (mem 1)
    obtain ⟨d2, v2, k2⟩ := X.oth "NoPlace" (mem 2)
    obtain ⟨d3, v3, k3⟩ := X.oth "NoReading" (mem 3)
    obtain ⟨d4, v4, k4⟩ := X.oth "NoTable" (mem 4)
    unfold c_law_refused_3
    walk_at "wp"
    refine ⟨_, X.v1, isiX ha X.o X.k1 ⟨_, rfl, ?_⟩⟩
    rw [if_neg (by simp)]
    refine isiV ha X.o X.kv ⟨_, rfl, ?_⟩
    rw [if_neg (by simp)]
    unfold c_law_refused_4
    walk_at "wp"
    refine ⟨_, v0, isiX ha X.o k0 ⟨_, rfl, ?_⟩⟩
    rw [if_neg (by simp)]
    refine ⟨_, v1, isiX ha X.o k1 ⟨_, rfl, ?_⟩⟩
    rw [if_neg (by simp)]
    refine ⟨_, v2, isiX ha X.o k2 ⟨_, rfl, ?_⟩⟩
    rw [if_neg (by simp)]
    unfold c_law_refused_5
    walk_at "wp"
    refine ⟨_, v3, isiX ha X.o k3 ⟨_, rfl, ?_⟩⟩
    rw [if_pos (by decide)]
    refine ⟨_, v4, isiX ha X.o k4 ⟨_, rfl, ?_⟩⟩
    exact q _ s2
  · have := (hb z e).2
    rw [e2, e3] at this
    cases this
end K91
namespace K91
open PySem R
noncomputable def p_law_spoilt : List Str := ["_law_text", "_law_way"]
noncomputable def n_law_spoilt : List Str := ["_law_text", "_law_way", "_law_words", "_law_last", "_law_some"]
noncomputable def c_law_spoilt_8 : CB :=
    (.cons (.ret (.idx (.var 4) (.bin .Mod (.var 1) (.con (.int 25)))))
    .nil)
noncomputable def c_law_spoilt_7 : CB :=
    (.cons (.asg (.name 4) (.bin .Add (.var 4) (.lst (.cons (.con (.str "free -1")) (.cons (.con (.str "free 100")) (.cons (.con (.str "tables")) (.cons (.bin .Add (.con (.str "copy a ")) (.bin .Mult (.con (.str "0")) (.con (.int 61)))) .nil)))))))
    c_law_spoilt_8)
noncomputable def c_law_spoilt_6 : CB :=
    (.cons (.asg (.name 4) (.bin .Add (.var 4) (.lst (.cons (.con (.str "drop")) (.cons (.con (.str "drop A")) (.cons (.con (.str "drop 0")) (.cons (.con (.str "mixed")) (.cons (.con (.str "elder 1")) (.cons (.con (.str "elder 1 2")) (.cons (.con (.str "elder 01 1")) (.cons (.con (.str "elder a 1")) .nil)))))))))))
    c_law_spoilt_7)
noncomputable def c_law_spoilt_5 : CB :=
    (.cons (.asg (.name 4) (.bin .Add (.var 4) (.lst (.cons (.join " " (.bin .Add (.bin .Add (.cut (.var 2) .no (.yes (.con (.int 1)))) (.lst (.cons (.con (.str "")) .nil))) (.cut (.var 2) (.yes (.con (.int 1))) .no))) (.cons (.con (.str "")) (.cons (.con (.str "copy a")) (.cons (.con (.str "copy a 2")) (.cons (.con (.str "copy 0 a")) (.cons (.con (.str "copy a 01 1")) .nil)))))))))
    c_law_spoilt_6)
noncomputable def c_law_spoilt_4 : CB :=
    (.cons (.asg (.name 4) (.lst (.cons (.bin .Add (.var 0) (.con (.str " "))) (.cons (.bin .Add (.con (.str " ")) (.var 0)) (.cons (.bin .Add (.var 0) (.con (.str " x"))) (.cons (.bin .Add (.upper (.cut (.var 0) .no (.yes (.con (.int 1))))) (.cut (.var 0) (.yes (.con (.int 1))) .no)) (.cons (.bin .Add (.var 0) (.con (.str "\t"))) (.cons (.var 3) (.cons (.bin .Add (.var 0) (.bin .Mult (.con (.str "9")) (.con (.int 9)))) .nil)))))))))
    c_law_spoilt_5)
noncomputable def c_law_spoilt_3 : CB :=
    (.cons (.iff (.cmp .Eq (.idx (.var 2) (.con (.int 0))) (.con (.str "copy")))
    (.cons (.asg (.name 3) (.bin .Add (.var 0) (.con (.str "a"))))
    .nil)
    .nil)
    c_law_spoilt_4)
noncomputable def c_law_spoilt_2 : CB :=
    (.cons (.asg (.name 3) (.join " " (.bin .Add (.cut (.var 2) .no (.yes (.un .USub (.con (.int 1))))) (.lst (.cons (.bin .Add (.con (.str "0")) (.idx (.var 2) (.un .USub (.con (.int 1))))) .nil)))))
    c_law_spoilt_3)
noncomputable def c_law_spoilt : CB :=
    (.cons (.asg (.name 2) (.split (.var 0) (.con (.str " "))))
    c_law_spoilt_2)
noncomputable def p_law : List Str := ["_law_script"]
noncomputable def n_law : List Str := ["_law_script", "_law_k", "_law_cell", "_law_drawn_here", "_law_text", "_law_word", "_law_things", "_law_found"]
noncomputable def c_law_3 : CB :=
    (.cons (.ret (.con (.bool true)))
    .nil)
noncomputable def c_law_2b3e4 : CB :=
    (.cons (.iff (.not (.call "_law_same" (.cons (.call "row_of" (.cons (.var 4) .nil)) (.cons (.var 5) (.cons (.var 6) .nil)))))
    (.cons (.ret (.con (.bool false)))
    .nil)
    .nil)
    .nil)
noncomputable def c_law_2b3e3 : CB :=
    (.cons (.expr (.meth1 .append (.idx (.var 7) (.con (.int 1))) (.con (.int 0))))
    c_law_2b3e4)
noncomputable def c_law_2b3e2 : CB :=
    (.cons (.iff (.not (.call "_law_same" (.cons (.var 7) (.cons (.var 5) (.cons (.var 6) .nil)))))
    (.cons (.ret (.con (.bool false)))
    .nil)
    .nil)
    c_law_2b3e3)
noncomputable def c_law_2b3 : CB :=
    (.cons (.iff (.cmp .Eq (.bin .Mod (.bin .FloorDiv (.var 3) (.con (.int 9))) (.con (.int 4))) (.con (.int 1)))
    (.cons (.iff (.not (.call "_law_refused" (.cons (.call "_law_spoilt" (.cons (.var 4) (.cons (.bin .FloorDiv (.var 3) (.con (.int 36))) .nil))) .nil)))
    (.cons (.ret (.con (.bool false)))
    .nil)
    .nil)
    .nil)
    (.cons (.asg (.name 7) (.call "row_of" (.cons (.var 4) .nil)))
    c_law_2b3e2))
    .nil)
noncomputable def c_law_2b2 : CB :=
    (.cons (.asg (.tup (.cons (.name 4) (.cons (.name 5) (.cons (.name 6) .nil)))) (.call "_law_row" (.cons (.var 3) .nil)))
    c_law_2b3)
noncomputable def c_law_2 : CB :=
    (.cons (.forr (.tup (.cons (.name 1) (.cons (.name 2) .nil))) (.enum (.cut (.var 0) (.yes (.con (.int 1))) (.yes (.con (.int 64)))))
    (.cons (.asg (.name 3) (.call "_law_drawn" (.cons (.var 2) (.cons (.var 1) .nil))))
    c_law_2b2))
    c_law_3)
noncomputable def c_law : CB :=
    (.cons (.iff (.not (.call "_law_refused" (.cons (.idx (.lst (.cons (.con .none) (.cons (.con (.int 5)) (.cons (.lst .nil) (.cons (.con (.bool true)) (.cons (.tup (.cons (.con (.str "table")) .nil)) (.cons (.lst (.cons (.con (.str "table")) .nil)) (.cons (.dic .nil) .nil)))))))) (.bin .Mod (.call "_law_cell_at" (.cons (.var 0) (.cons (.con (.int 0)) .nil))) (.con (.int 7)))) .nil)))
    (.cons (.ret (.con (.bool false)))
    .nil)
    .nil)
    c_law_2)
end K91
namespace K91
open PySem PySem.Spec PyProof.Rows L2 R Cp Lt Lm K02 K11 K12
theorem cut_last (a : List V) (x : V) : cutV (a ++ [x]) none (some (-1)) = a := by
  unfold cutV
  rw [HT.sIx_none]
  have e : HT.sIx (a ++ [x]).length (a ++ [x]).length (some (-1)) = a.length := by
    simp [HT.sIx]
    omega
  rw [e]
  simp
theorem cutV_from (xs : List V) : cutV xs (some 1) none = xs.drop 1 := by
  unfold cutV
  rw [HT.sIx_none, show (1 : Int) = ((1 : Nat) : Int) from rfl, HT.sIx_nat]
  rw [List.take_of_length_le (by rw [List.length_drop]; exact Nat.le_refl _)]
  by_cases h : 1 ≤ xs.length
  · rw [Nat.min_eq_left h]
  · have : xs = [] := List.length_eq_zero_iff.mp (by omega)
    subst this; rfl
theorem cutV_to (x : V) (xs : List V) : cutV (x :: xs) none (some 1) = [x] := by
  unfold cutV
  rw [HT.sIx_none, show (1 : Int) = ((1 : Nat) : Int) from rfl, HT.sIx_nat]
  simp
theorem nines_is : (⟨(List.replicate (Int.toNat 9) (Str.cps (("9" : String) : Str))).foldl (· ++ ·) #[]⟩ : Str) = nines := by decide +kernel
theorem zeros_is : (("copy a " : String) : Str) ++ (⟨(List.replicate (Int.toNat 61) (Str.cps (("0" : String) : Str))).foldl (· ++ ·) #[]⟩ : Str) = (("copy a 0000000000000000000000000000000000000000000000000000000000000" : String) : Str) := by decide +kernel
noncomputable def l8 : List Str := ["drop", "drop A", "drop 0", "mixed", "elder 1", "elder 1 2", "elder 01 1", "elder a 1"]
noncomputable def l4 : List Str := ["free -1", "free 100", "tables", "copy a 0000000000000000000000000000000000000000000000000000000000000"]
noncomputable def spSp : Sp := fun vs H Q _ => ∃ ws ds, ∃ way : Int, vs = [.str (J ws), .int way] ∧ RowF ws ds ∧ ∀ H' z, Same H H' → Bad z → Q (.str z) H'
section
variable {G : Gam} {K : PySem.W.Frag} {E : XS} {Q : VK} {D : Ends} {H0 H : Hp} {way : Int} {ws : List Str} {ds : List Th} {p : Addr}
noncomputable def BadK (H : Hp) (Q : VK) : Prop := ∀ H' z, Same H H' → Bad z → Q (.str z) H'
theorem wp_sp_8 {x2 x3 : Option V} {L : List Str} (hr : D.rt = Q) (q : BadK H0 Q) (s : Same H0 H) (hp : H p = some (.lst (L.map V.str))) (hl : L.length = 25) (hb : ∀ z ∈ L, Bad z) {x0 : Option V} :
    wpB G K E c_law_spoilt_8 D [x0, some (.int way), x2, x3, some (.ref p)] H := by
  unfold c_law_spoilt_8
  walk_at "wp"
  have h0 : 0 ≤ way % 25 := Int.emod_nonneg _ (by decide)
  have h1 : way % 25 < 25 := Int.emod_lt_of_pos _ (by decide)
  obtain ⟨k, hk⟩ := Int.eq_ofNat_of_zero_le h0
  have hkl : k < L.length := by omega
  refine ⟨by decide, .inl ⟨p, _, way % 25, .str L[k], rfl, rfl, SqL.of hp, ?_, ?_⟩⟩
  · rw [hk]
    exact atI_nat (by rw [List.getElem?_map, List.getElem?_eq_getElem hkl]; rfl)
  · rw [hr]
    exact q H _ s (hb _ (List.getElem_mem _))
theorem cat_list2 {x0 x1 x2 x3 : Option V} {A B : List Str} {c : CB} (s : Same H0 H) {a b : Addr} (ha : H a = some (.lst (A.map V.str))) (hb : H b = some (.lst (B.map V.str))) (hl : A.length + B.length ≤ 100)
    (k : ∀ H1 p1, Same H0 H1 → H1 p1 = some (.lst ((A ++ B).map V.str)) → wpB G K E c D [x0, x1, x2, x3, some (.ref p1)] H1) :
    rBin K .Add (.ref a) (.ref b) H fun v H1 => wpB G K E c D [x0, x1, x2, x3, some v] H1 := by
  refine .inr (.inr (.inl ⟨a, b, _, _, rfl, rfl, ha, hb, by rw [List.length_map, List.length_map]; exact Nat.le_trans hl (by decide), fun p1 hp1 => ?_⟩))
  exact k _ p1 (s.trans (same_upd hp1)) (by rw [List.map_append]; exact upd_same)
theorem wp_sp_5 {last : Str} {A : List Str} {p4 : Addr} (hr : D.rt = Q) (q : BadK H0 Q) (s : Same H0 H) (f : RowF ws ds) (hp : H p = some (.lst (ws.map V.str))) (h4 : H p4 = some (.lst (A.map V.str))) (hA : A.length = 7) (hb : ∀ z ∈ A, Bad z) :
    wpB G K E c_law_spoilt_5 D [some (.str (J ws)), some (.int way), some (.ref p), some (.str last), some (.ref p4)] H := by
  obtain ⟨w, r, ps, e', e1, e2⟩ := f.pt
  have hpw : H p = some (.lst (.str w :: r.map V.str)) := by rw [hp, e']; rfl
  unfold c_law_spoilt_5
  walk_at "wp"
  refine ⟨rfl, .inl ⟨p, _, rfl, SqL.of hpw, fun p5 hp5 => ?_⟩⟩
  rw [cutV_to]
  have s5 := same_upd (o := .lst [V.str w]) hp5
  have h5 : upd H p5 (.lst [V.str w]) p5 = some (.lst [V.str w]) := upd_same
  generalize upd H p5 (.lst [V.str w]) = H5 at s5 h5
  refine ⟨sl (by simp), fun p6 hp6 => ?_⟩
  have s6 := same_upd (o := .lst [V.str ""]) hp6
  have h6 : upd H5 p6 (.lst [V.str ""]) p6 = some (.lst [V.str ""]) := upd_same
  generalize upd H5 p6 (.lst [V.str ""]) = H6 at s6 h6
  refine .inr (.inr (.inl ⟨p5, p6, _, _, rfl, rfl, s6 _ _ h5, h6, sl (by simp), fun p7 hp7 => ?_⟩))
  have s7 := same_upd (o := .lst ([V.str w] ++ [V.str ""])) hp7
  have h7 : upd H6 p7 (.lst ([V.str w] ++ [V.str ""])) p7 = some (.lst ([V.str w] ++ [V.str ""])) := upd_same
  generalize upd H6 p7 (.lst ([V.str w] ++ [V.str ""])) = H7 at s7 h7
  have t7 := (s5.trans s6).trans s7
  refine .inl ⟨p, _, rfl, SqL.of (t7 _ _ hpw), fun p8 hp8 => ?_⟩
  rw [cutV_from]
  have s8 := same_upd (o := .lst (r.map V.str)) hp8
  have h8 : upd H7 p8 (.lst (r.map V.str)) p8 = some (.lst (r.map V.str)) := upd_same
  change rBin K .Add (.ref p7) (.ref p8) (upd H7 p8 (.lst (r.map V.str))) _
  generalize upd H7 p8 (.lst (r.map V.str)) = H8 at s8 h8
  have hr3 : r.length ≤ 2 := by have := f.ln; rw [e'] at this; simpa using this
  refine .inr (.inr (.inl ⟨p7, p8, _, _, rfl, rfl, s8 _ _ h7, h8, ?_, fun p9 hp9 => ?_⟩))
  · rw [List.length_append, List.length_map]
    exact sl (by simp; omega)
  have s9 := same_upd (o := .lst ([V.str w] ++ [V.str ""] ++ r.map V.str)) hp9
  have h9 : upd H8 p9 (.lst ([V.str w] ++ [V.str ""] ++ r.map V.str)) p9 = some (.lst ([V.str w] ++ [V.str ""] ++ r.map V.str)) := upd_same
  generalize upd H8 p9 (.lst ([V.str w] ++ [V.str ""] ++ r.map V.str)) = H9 at s9 h9
  have es : (("" : String) : Str) = ⟨#[]⟩ := by decide +kernel
  refine ⟨" ", p9, w :: (⟨#[]⟩ : Str) :: r, rfl, rfl, SqL.of (by rw [h9, es]; rfl), by decide +kernel, ?_, ?_⟩
  · have hm : ∀ v ∈ w :: (⟨#[]⟩ : Str) :: r, v.length ≤ 62 := fun v hv => by
      rcases List.mem_cons.mp hv with rfl | hv
      · exact Nat.le_succ_of_le (f.sz _ (by rw [e']; exact List.mem_cons_self))
      · rcases List.mem_cons.mp hv with rfl | hv
        · exact Nat.zero_le _
        · exact Nat.le_succ_of_le (f.sz _ (by rw [e']; exact List.mem_cons_of_mem _ hv))
    have h3 : (w :: (⟨#[]⟩ : Str) :: r).length ≤ 4 := by simp; omega
    have := len_words hm h3
    omega
  have t9 := (t7.trans s8).trans s9
  refine ⟨sl (by simp), fun p10 hp10 => ?_⟩
  have s10 := t9.trans (same_upd (o := .lst ([Txt.join " " (w :: (⟨#[]⟩ : Str) :: r), "", "copy a", "copy a 2", "copy 0 a", "copy a 01 1"].map V.str)) hp10)
  have h10 : upd H9 p10 (.lst ([Txt.join " " (w :: (⟨#[]⟩ : Str) :: r), "", "copy a", "copy a 2", "copy 0 a", "copy a 01 1"].map V.str)) p10 = _ := upd_same
  change rBin K .Add (.ref p4) (.ref p10) (upd H9 p10 (.lst ([Txt.join " " (w :: (⟨#[]⟩ : Str) :: r), "", "copy a", "copy a 2", "copy 0 a", "copy a 01 1"].map V.str))) fun v H1 => wpB G K E c_law_spoilt_6 D [some (.str (J ws)), some (.int way), some (.ref p), some (.str last), some v] H1
  generalize upd H9 p10 (.lst ([Txt.join " " (w :: (⟨#[]⟩ : Str) :: r), "", "copy a", "copy a 2", "copy 0 a", "copy a 01 1"].map V.str)) = H10 at s10 h10
  refine cat_list2 (s.trans s10) (s10 _ _ h4) h10 (by rw [hA]; simp) fun H11 p11 s11 h11 => ?_
  unfold c_law_spoilt_6
  walk_at "wp"
  refine ⟨sl (by simp), fun p12 hp12 => ?_⟩
  have s12 := same_upd (o := .lst (l8.map V.str)) hp12
  have h12 : upd H11 p12 (.lst (l8.map V.str)) p12 = _ := upd_same
  change rBin K .Add (.ref p11) (.ref p12) (upd H11 p12 (.lst (l8.map V.str))) fun v H1 => wpB G K E c_law_spoilt_7 D [some (.str (J ws)), some (.int way), some (.ref p), some (.str last), some v] H1
  generalize upd H11 p12 (.lst (l8.map V.str)) = H12 at s12 h12
  refine cat_list2 (s11.trans s12) (s12 _ _ h11) h12 (by rw [List.length_append, hA]; simp [l8]) fun H13 p13 s13 h13 => ?_
  unfold c_law_spoilt_7
  walk_at "wp"
  refine .inr (.inr ⟨"0", 61, rfl, rfl, by decide, by decide, by decide +kernel, by decide +kernel, ?_⟩)
  refine add_ss.mpr ?_
  rw [zeros_is]
  refine ⟨by decide +kernel, sl (by simp), fun p14 hp14 => ?_⟩
  have s14 := same_upd (o := .lst (l4.map V.str)) hp14
  have h14 : upd H13 p14 (.lst (l4.map V.str)) p14 = _ := upd_same
  change rBin K .Add (.ref p13) (.ref p14) (upd H13 p14 (.lst (l4.map V.str))) fun v H1 => wpB G K E c_law_spoilt_8 D [some (.str (J ws)), some (.int way), some (.ref p), some (.str last), some v] H1
  generalize upd H13 p14 (.lst (l4.map V.str)) = H14 at s14 h14
  refine cat_list2 (s13.trans s14) (s14 _ _ h13) h14 (by rw [List.length_append, List.length_append, hA]; simp [l8, l4]) fun H15 p15 s15 h15 => ?_
  refine wp_sp_8 hr q s15 h15 (by simp [hA, l8, l4]) fun z hz => ?_
  have fx : ∀ z, z ∈ fixed → Bad z := bad_fixed
  rcases List.mem_append.mp hz with hz | hz
  · rcases List.mem_append.mp hz with hz | hz
    · rcases List.mem_append.mp hz with hz | hz
      · exact hb z hz
      · rcases List.mem_cons.mp hz with rfl | hz
        · exact bad7 f e'
        · refine fx z ?_
          simp only [List.mem_cons, List.not_mem_nil, or_false] at hz
          unfold fixed
          simp only [List.mem_cons, List.not_mem_nil, or_false]
          rcases hz with h | h | h | h | h <;> simp [h]
    · refine fx z ?_
      simp only [l8, List.mem_cons, List.not_mem_nil, or_false] at hz
      unfold fixed
      simp only [List.mem_cons, List.not_mem_nil, or_false]
      rcases hz with h | h | h | h | h | h | h | h <;> simp [h]
  · refine fx z ?_
    simp only [l4, List.mem_cons, List.not_mem_nil, or_false] at hz
    unfold fixed
    simp only [List.mem_cons, List.not_mem_nil, or_false]
    rcases hz with h | h | h | h <;> simp [h]
theorem up_len (f : RowF ws ds) : (upS (cutS (J ws) none (some 1))).length ≤ 1 := by
  obtain ⟨c, r, e, hc, w, tl, e1, e2, e3⟩ := first_sign f
  obtain ⟨u1, u2, u3⟩ := up_first hc
  have ej : J ws = mkS (c :: r) := str_eq (by rw [e])
  have c1 : cutS (J ws) none (some 1) = ⟨#[c]⟩ := by rw [ej]; exact cut_take (c :: r) 1
  rw [c1, u1]
  exact Nat.le_refl _
theorem wp_sp_4 {last : Str} {x4 : Option V} (hr : D.rt = Q) (q : BadK H0 Q) (s : Same H0 H) (f : RowF ws ds) (hp : H p = some (.lst (ws.map V.str))) (hb : Bad last) :
    wpB G K E c_law_spoilt_4 D [some (.str (J ws)), some (.int way), some (.ref p), some (.str last), x4] H := by
  have hl := f.len
  have hz : (J ws).length ≤ sizeLine := sl (by omega)
  have l1 : Str.length ((" " : String) : Str) = 1 := by decide +kernel
  have l2 : Str.length ((" x" : String) : Str) = 2 := by decide +kernel
  have l3 : Str.length (("\t" : String) : Str) = 1 := by decide +kernel
  have l9 : Str.length nines = 9 := by decide +kernel
  have hu := up_len f
  have hc := cutS_length (J ws) (some 1) none
  unfold c_law_spoilt_4
  walk_at "wp"
  refine ⟨sl (by omega), sl (by omega), sl (by omega), hz, rfl, cutS (J ws) none (some 1), rfl, rfl, by omega, hz, ?_⟩
  refine add_ss.mpr ?_
  refine ⟨sl (by omega), sl (by omega), .inr (.inr ⟨"9", 9, rfl, rfl, by decide, by decide, by decide +kernel, by decide +kernel, ?_⟩)⟩
  refine add_ss.mpr ?_
  rw [nines_is]
  refine ⟨sl (by omega), sl (by simp), fun p4 hp4 => ?_⟩
  have s4 := same_upd (o := .lst ([J ws ++ " ", " " ++ J ws, J ws ++ " x", upS (cutS (J ws) none (some 1)) ++ cutS (J ws) (some 1) none, J ws ++ "\t", last, J ws ++ nines].map V.str)) hp4
  refine wp_sp_5 (A := [J ws ++ " ", " " ++ J ws, J ws ++ " x", upS (cutS (J ws) none (some 1)) ++ cutS (J ws) (some 1) none, J ws ++ "\t", last, J ws ++ nines]) hr q (s.trans s4) f (s4 _ _ hp) upd_same rfl fun z hz => ?_
  simp only [List.mem_cons, List.not_mem_nil, or_false] at hz
  rcases hz with rfl | rfl | rfl | rfl | rfl | rfl | rfl
  · exact bad0 f
  · exact bad1 f
  · exact bad2 f
  · exact bad3 f
  · exact bad4 f
  · exact hb
  · exact bad6 f
end
theorem wp_sp {G : Gam} {K : PySem.W.Frag} :
    ∀ vs H Q E, spSp vs H Q E → wpB G K (fun _ => E) c_law_spoilt { nx := fun _ H' => Q .non H', rt := Q } (L2.start n_law_spoilt vs) H := by
  rintro vs H Q E ⟨ws, ds, way, rfl, f, q⟩
  have hl := f.len
  unfold c_law_spoilt
  change wpB G K _ _ _ [some (.str (J ws)), some (.int way), none, none, none] H
  walk_at "wp"
  refine ⟨rfl, J ws, " ", rfl, rfl, by decide +kernel, sl (by omega), fun p hp => ?_⟩
  rw [split_J f.ne f.fr]
  have s1 := same_upd (o := .lst (ws.map V.str)) hp
  have hp1 : upd H p (.lst (ws.map V.str)) p = some (.lst (ws.map V.str)) := upd_same
  generalize upd H p (.lst (ws.map V.str)) = H1 at s1 hp1
  obtain ⟨a, l, e, _⟩ := f.ls
  obtain ⟨w, r, ps, e', e1, e2⟩ := f.pt
  have hm : l ∈ ws := by rw [e]; exact List.mem_append_right _ List.mem_cons_self
  have ll := f.sz l hm
  have la : a.length ≤ 2 := by have := f.ln; rw [e] at this; simpa using this
  have l0 : Str.length (("0" : String) : Str) = 1 := by decide +kernel
  unfold c_law_spoilt_2
  walk_at "wp"
  refine ⟨rfl, .inl ⟨p, _, rfl, SqL.of hp1, fun p2 hp2 => ?_⟩⟩
  rw [show cutV (ws.map V.str) none (some (-1)) = a.map V.str from by rw [e, List.map_append]; exact cut_last _ _]
  have s2 := same_upd (o := .lst (a.map V.str)) hp2
  have h2 : upd H1 p2 (.lst (a.map V.str)) p2 = some (.lst (a.map V.str)) := upd_same
  generalize upd H1 p2 (.lst (a.map V.str)) = H2 at s2 h2
  refine .inl ⟨p, _, -1, .str l, rfl, rfl, SqL.of (s2 _ _ hp1), by rw [e, List.map_append]; exact atI_last _ _, ?_⟩
  refine add_ss.mpr ?_
  refine ⟨sl (by omega), sl (by simp), fun p3 hp3 => ?_⟩
  have s3 := same_upd (o := .lst [V.str ("0" ++ l)]) hp3
  have h3 : upd H2 p3 (.lst [V.str ("0" ++ l)]) p3 = some (.lst [V.str ("0" ++ l)]) := upd_same
  generalize upd H2 p3 (.lst [V.str ("0" ++ l)]) = H3 at s3 h3
  refine .inr (.inr (.inl ⟨p2, p3, _, _, rfl, rfl, s3 _ _ h2, h3, by rw [List.length_map]; exact sl (by simp; omega), fun p4 hp4 => ?_⟩))
  have s4 := same_upd (o := .lst (a.map V.str ++ [V.str ("0" ++ l)])) hp4
  have h4 : upd H3 p4 (.lst (a.map V.str ++ [V.str ("0" ++ l)])) p4 = some (.lst (a.map V.str ++ [V.str ("0" ++ l)])) := upd_same
  generalize upd H3 p4 (.lst (a.map V.str ++ [V.str ("0" ++ l)])) = H4 at s4 h4
  refine ⟨" ", p4, a ++ ["0" ++ l], rfl, rfl, SqL.of (by rw [h4, List.map_append]; rfl), by decide +kernel, ?_, ?_⟩
  · have hm : ∀ v ∈ a ++ ["0" ++ l], v.length ≤ 62 := fun v hv => by
      rcases List.mem_append.mp hv with hv | hv
      · exact Nat.le_succ_of_le (f.sz v (by rw [e]; exact List.mem_append_left _ hv))
      · rw [List.mem_singleton.mp hv, cat_len]; omega
    have h3 : (a ++ ["0" ++ l]).length ≤ 3 := by simp; omega
    have := len_words hm h3
    omega
  have t4 := (s2.trans s3).trans s4
  have hp4' := t4 _ _ hp1
  have hpw : H4 p = some (.lst (.str w :: r.map V.str)) := by rw [hp4', e']; rfl
  unfold c_law_spoilt_3
  walk_at "wp"
  refine .inl ⟨p, _, 0, .str w, rfl, rfl, SqL.of hpw, at0, ?_⟩
  refine eq_ss.mpr ⟨_, rfl, ?_⟩
  have la1 : Str.length (("a" : String) : Str) = 1 := by decide +kernel
  by_cases hc : w = "copy"
  · rw [if_pos (by rw [decide_eq_true_eq]; exact hc)]
    refine ⟨sl (by omega), ?_⟩
    exact wp_sp_4 rfl q (s1.trans t4) f hp4' (bad5c f (by rw [e', hc]; rfl))
  · rw [if_neg (by rw [decide_eq_true_eq]; exact hc)]
    exact wp_sp_4 rfl q (s1.trans t4) f hp4' (bad5 f (by rw [e']; intro z; exact hc (Option.some.inj z)) e)
end K91
namespace L2
open PySem PySem.Spec PyProof.Rows
section
variable {κ α : Type} [DecidableEq κ] (kf : α → κ) (vf : α → V)
end
end L2
namespace Kc
open PySem R
end Kc
namespace Kc
open PySem PySem.Spec PyProof.Rows L2 R Cp Lt
theorem one_of {us : List Value} (h : us.length = 1) : ∃ a, us = [a] := by
  cases us with
  | nil => exact nomatch h
  | cons a r => exact ⟨a, by rw [List.length_eq_zero_iff.mp (Nat.succ.inj h)]⟩
theorem two_of {us : List Value} (h : us.length = 2) : ∃ a b, us = [a, b] := by
  cases us with
  | nil => exact nomatch h
  | cons a r =>
    obtain ⟨b, e⟩ := one_of (Nat.succ.inj h)
    exact ⟨a, b, by rw [e]⟩
theorem three_of {us : List Value} (h : us.length = 3) : ∃ a b c, us = [a, b, c] := by
  cases us with
  | nil => exact nomatch h
  | cons a r =>
    obtain ⟨b, c, e⟩ := two_of (Nat.succ.inj h)
    exact ⟨a, b, c, by rw [e]⟩
theorem lenE {α : Type} {F : α → Prop} {vs : List V} {n : Nat} (h : ∃ a, F a) (k : ∀ a, F a → vs.length = n) : vs.length = n := let ⟨a, f⟩ := h; k a f
theorem lenA {P : Prop} {l vs : List V} {n : Nat} (h : vs = l ∧ P) (e : l.length = n) : vs.length = n := by rw [h.1]; exact e
end Kc
namespace K21
open PySem R
end K21
namespace K21
open PySem PySem.Spec PyProof.Rows L2 R Cp Lt Kc
section
variable {G : Gam} {K : PySem.W.Frag} {E : XS} {D2 : Ends} {H H2 : Hp} {a b t : Addr} {ns : List Int} {nf : Nat → Str} {m n i : Nat} {ys : List V} {d1 d2 : Int}
end
section
variable {G : Gam} {K : PySem.W.Frag} {C CP : Addr}
end
end K21
namespace K91
open PySem PySem.Spec PySem.Calls PyProof.Rows L2 R Cp Lt Lm K12
theorem hash_is (w : World) (x : Str) : PyData.keyHash w.params x = hashStr w x := rfl
theorem figs_mk {P : Program} {w : World} {K : PySem.W.Frag} {F : Addr} {t0 t1 t2 t3 : Tok} {n : Nat} (h0 : (F == sysModules) = false)
    (l : K.lookup F = some ⟨.type "dict", none, .dict #[⟨PyData.keyHash w.params "0", .str "0" t0, .int 0 t1⟩, ⟨PyData.keyHash w.params "1", .str "1" t2, .int 1 t3⟩] n, #[]⟩) : DkIn P w K F figs := by
  refine ⟨h0, [(.inr "0", .int 0 t1), (.inr "1", .int 1 t3)], .cons ⟨rfl, t1, rfl⟩ (.cons ⟨rfl, t3, rfl⟩ .nil), fun h X => ⟨_, _, _, X _ _ l, ⟨rfl, rfl, rfl⟩, rfl, ?_, ?_, ?_⟩⟩
  · intro e he
    simp only [List.mem_toArray, List.mem_cons, List.not_mem_nil, or_false] at he
    rcases he with rfl | rfl
    · exact ⟨.inr "0", rfl, show PyData.keyHash w.params "0" = hashStr w "0" from hash_is w _⟩
    · exact ⟨.inr "1", rfl, show PyData.keyHash w.params "1" = hashStr w "1" from hash_is w _⟩
  · exact .cons rfl rfl (.cons rfl rfl .nil)
  · show ([(.inr "0"), (.inr "1")] : List Key).Nodup
    decide +kernel
noncomputable def l3 : List (Str × List Str × Addr) := [("copy", ["NAME", "READINGS"], 139), ("drop", ["NAME"], 140), ("elder", ["PLACE", "READING"], 141), ("free", ["PLACE"], 142), ("table", [], 143), ("clash", [], 144), ("tree", [], 145), ("first", [], 146), ("stands", [], 147), ("aside", [], 148), ("mixers", [], 149), ("mixed", ["NAME"], 150)]
noncomputable def kvP : List (Key × V) := l3.map fun x => (.inr x.1, .ref x.2.2)
theorem val_none {w : Str} : ∀ l : List (Str × List Str × Addr), (l.map fun x => (x.1, x.2.1)).lookup w = none → valV (l.map fun x => ((.inr x.1 : Key), V.ref x.2.2)) (.inr w) = none
  | [], _ => rfl
  | x :: l, h => by
    rw [List.map_cons, List.lookup_cons] at h
    cases q : (w == x.1) with
    | true => rw [q] at h; cases h
    | false =>
      rw [q] at h
      have ih := val_none l h
      unfold valV at ih ⊢
      rw [List.map_cons, List.find?_cons_of_neg]
      · exact ih
      · rw [decide_eq_true_eq]
        intro e
        rw [show x.1 = w from Sum.inr.inj e, beq_self_eq_true] at q
        cases q
theorem val_some {w : Str} {ps : List Str} : ∀ l : List (Str × List Str × Addr), (l.map fun x => (x.1, x.2.1)).lookup w = some ps → ∃ x ∈ l, x.2.1 = ps ∧ valV (l.map fun x => ((.inr x.1 : Key), V.ref x.2.2)) (.inr w) = some (.ref x.2.2)
  | [], h => nomatch h
  | x :: l, h => by
    rw [List.map_cons, List.lookup_cons] at h
    cases q : (w == x.1) with
    | true =>
      rw [q] at h
      refine ⟨x, List.mem_cons_self, Option.some.inj h, ?_⟩
      unfold valV
      rw [List.map_cons, List.find?_cons_of_pos]
      · rfl
      · rw [decide_eq_true_eq, beq_iff_eq.mp q]
    | false =>
      rw [q] at h
      obtain ⟨y, hy, e1, e2⟩ := val_some l h
      refine ⟨y, List.mem_cons_of_mem _ hy, e1, ?_⟩
      unfold valV at e2 ⊢
      rw [List.map_cons, List.find?_cons_of_neg]
      · exact e2
      · rw [decide_eq_true_eq]
        intro e
        rw [show x.1 = w from Sum.inr.inj e, beq_self_eq_true] at q
        cases q
noncomputable def TupsIn (K : PySem.W.Frag) : Prop := ∀ x ∈ l3, ∃ (o : Obj) (its : Array Value) (n : Nat), K.lookup x.2.2 = some o ∧ o.cls = .type "tuple" ∧ o.data = .seq its n ∧ its.size ≤ sizeLine ∧ Vals (x.2.1.map V.str) its.toList
theorem pk_mk {G : Gam} {K : PySem.W.Frag} {PA : Addr} (v : G.val "PARTS" = some (.ref PA)) (d : G.dic PA = some kvP) (t : TupsIn K) : Pk G K PA kvP where
  v := v
  d := d
  no := fun w h => val_none l3 h
  yes := fun w ps h => by
    obtain ⟨x, hx, e1, e2⟩ := val_some l3 h
    refine ⟨x.2.2, e2, fun H => .inr ?_⟩
    rw [← e1]
    exact t x hx
theorem parts_mk {P : Program} {w : World} {K : PySem.W.Frag} {F : Addr} {t : Nat → Tok} {n : Nat} (h0 : (F == sysModules) = false)
    (l : K.lookup F = some ⟨.type "dict", none, .dict #[⟨PyData.keyHash w.params "copy", .str "copy" (t 0), .ref 139⟩, ⟨PyData.keyHash w.params "drop", .str "drop" (t 1), .ref 140⟩, ⟨PyData.keyHash w.params "elder", .str "elder" (t 2), .ref 141⟩, ⟨PyData.keyHash w.params "free", .str "free" (t 3), .ref 142⟩, ⟨PyData.keyHash w.params "table", .str "table" (t 4), .ref 143⟩, ⟨PyData.keyHash w.params "clash", .str "clash" (t 5), .ref 144⟩, ⟨PyData.keyHash w.params "tree", .str "tree" (t 6), .ref 145⟩, ⟨PyData.keyHash w.params "first", .str "first" (t 7), .ref 146⟩, ⟨PyData.keyHash w.params "stands", .str "stands" (t 8), .ref 147⟩, ⟨PyData.keyHash w.params "aside", .str "aside" (t 9), .ref 148⟩, ⟨PyData.keyHash w.params "mixers", .str "mixers" (t 10), .ref 149⟩, ⟨PyData.keyHash w.params "mixed", .str "mixed" (t 11), .ref 150⟩] n, #[]⟩) : DkIn P w K F kvP := by
  refine ⟨h0, l3.map fun x => (.inr x.1, .ref x.2.2), ?_, fun h X => ⟨_, _, _, X _ _ l, ⟨rfl, rfl, rfl⟩, rfl, ?_, ?_, ?_⟩⟩
  · exact .cons ⟨rfl, rfl⟩ (.cons ⟨rfl, rfl⟩ (.cons ⟨rfl, rfl⟩ (.cons ⟨rfl, rfl⟩ (.cons ⟨rfl, rfl⟩ (.cons ⟨rfl, rfl⟩ (.cons ⟨rfl, rfl⟩ (.cons ⟨rfl, rfl⟩ (.cons ⟨rfl, rfl⟩ (.cons ⟨rfl, rfl⟩ (.cons ⟨rfl, rfl⟩ (.cons ⟨rfl, rfl⟩ .nil)))))))))))
  · intro e he
    simp only [List.mem_toArray, List.mem_cons, List.not_mem_nil, or_false] at he
    rcases he with rfl | rfl | rfl | rfl | rfl | rfl | rfl | rfl | rfl | rfl | rfl | rfl
    · exact ⟨.inr "copy", rfl, show PyData.keyHash w.params "copy" = hashStr w "copy" from hash_is w _⟩
    · exact ⟨.inr "drop", rfl, show PyData.keyHash w.params "drop" = hashStr w "drop" from hash_is w _⟩
    · exact ⟨.inr "elder", rfl, show PyData.keyHash w.params "elder" = hashStr w "elder" from hash_is w _⟩
    · exact ⟨.inr "free", rfl, show PyData.keyHash w.params "free" = hashStr w "free" from hash_is w _⟩
    · exact ⟨.inr "table", rfl, show PyData.keyHash w.params "table" = hashStr w "table" from hash_is w _⟩
    · exact ⟨.inr "clash", rfl, show PyData.keyHash w.params "clash" = hashStr w "clash" from hash_is w _⟩
    · exact ⟨.inr "tree", rfl, show PyData.keyHash w.params "tree" = hashStr w "tree" from hash_is w _⟩
    · exact ⟨.inr "first", rfl, show PyData.keyHash w.params "first" = hashStr w "first" from hash_is w _⟩
    · exact ⟨.inr "stands", rfl, show PyData.keyHash w.params "stands" = hashStr w "stands" from hash_is w _⟩
    · exact ⟨.inr "aside", rfl, show PyData.keyHash w.params "aside" = hashStr w "aside" from hash_is w _⟩
    · exact ⟨.inr "mixers", rfl, show PyData.keyHash w.params "mixers" = hashStr w "mixers" from hash_is w _⟩
    · exact ⟨.inr "mixed", rfl, show PyData.keyHash w.params "mixed" = hashStr w "mixed" from hash_is w _⟩
  · exact .cons rfl rfl (.cons rfl rfl (.cons rfl rfl (.cons rfl rfl (.cons rfl rfl (.cons rfl rfl (.cons rfl rfl (.cons rfl rfl (.cons rfl rfl (.cons rfl rfl (.cons rfl rfl (.cons rfl rfl .nil)))))))))))
  · show (l3.map fun x => (.inr x.1 : Key)).Nodup
    decide +kernel
end K91
namespace K91
open PySem PySem.Spec PyProof.Rows L2 R Cp Lt Lm K02 K11 K12
noncomputable def spLaw91 (K : PySem.W.Frag) : Sp := fun vs H Q _ => ∃ (a : Addr) (ns : List Int), vs = [.ref a] ∧ SqL K H a (ns.map V.int) ∧ ns.length ≤ 63 ∧ ∀ H', Q (.bl true) H'
section
variable {G : Gam} {K : PySem.W.Frag} {C : Addr} {E : XS} {Q : VK} {D : Ends} {H0 H : Hp} {a : Addr} {k d : Int} {c : V} {x7 : Option V}
noncomputable def Mid (a : Addr) (H0 : Hp) (N : L2.St → Hp → Prop) : Prop := ∀ H' x1 x2 x3 x4 x5 x6 x7, Same H0 H' → N [some (.ref a), x1, x2, x3, x4, x5, x6, x7] H'
theorem wp_good {w : Str} {r : List Str} {ds : List Th} {t : Addr} {ys : List V} (g1 : G.fn "row_of" 1 = some (spRow C, [])) (g2 : G.fn "_law_same" 3 = some (spSm, [])) (hN : Mid a H0 D.nx) (s : Same H0 H) (R0 : Row (w :: r) ds) (ht : H t = some (.lst ys)) (ty : Ths H ds ys) {x1 x2 x3 : Option V} :
    ∃ sp dvs, G.fn "row_of" (0 + 1) = some (sp, dvs) ∧ sp (V.str (J (w :: r)) :: dvs) H (fun x H1 => wpB G K E c_law_2b3e2 D [some (.ref a), x1, x2, x3, some (.str (J (w :: r))), some (.str w), some (.ref t), some x] H1) (E [some (.ref a), x1, x2, x3, some (.str (J (w :: r))), some (.str w), some (.ref t), x7]) := by
  have f := R0.f
  have hsp : Txt.split (J (w :: r)) " " = w :: r := split_J f.ne f.fr
  have hlen : (J (w :: r)).length ≤ 20000 := Nat.le_trans f.len (by decide)
  refine ⟨_, _, g1, .str (J (w :: r)), rfl, kn_str, fun z e => by injection e with e; rw [← e]; exact hlen, fun h => ?_, fun z ds' w' r' e e1 e2 H5 b l xs s5 hl hb hlx tx => ?_⟩
  · have := h _ rfl
    rw [hsp, f.dc] at this
    cases this
  injection e with e
  subst e
  rw [hsp] at e1
  obtain ⟨rfl, rfl⟩ := List.cons.inj e1
  obtain rfl : ds = ds' := Option.some.inj (f.dc.symm.trans e2)
  unfold c_law_2b3e2
  walk_at "wp"
  refine ⟨_, _, g2, b, l, t, w, r, xs, ys, ds, rfl, R0, hb, hlx, s5 _ _ ht, tx, ty.same s5, fun H6 s6 => ⟨_, rfl, ?_⟩⟩
  rw [if_neg (by decide)]
  unfold c_law_2b3e3
  walk_at "wp"
  refine .inr (.inl ⟨b, _, 1, .ref l, rfl, rfl, SqT.of (s6 _ _ hb), rfl, .inl ⟨rfl, _, SqL.of (s6 _ _ hlx)⟩, l, xs, .int 0, rfl, rfl, s6 _ _ hlx, ?_, ?_⟩)
  · rw [ths_len tx]; exact Nat.lt_of_le_of_lt (row_few R0) (by decide)
  have s7 : Same H (upd H6 l (.lst (xs ++ [.int 0]))) := same_new (s5.trans s6) hl
  generalize upd H6 l (.lst (xs ++ [.int 0])) = H7 at s7
  unfold c_law_2b3e4
  walk_at "wp"
  refine ⟨_, _, g2, _, _, g1, .str (J (w :: r)), rfl, kn_str, fun z e => by injection e with e; rw [← e]; exact hlen, fun h => ?_, fun z ds' w' r' e e1 e2 H8 b2 l2 xs2 s8 hl2 hb2 hlx2 tx2 => ?_⟩
  · have := h _ rfl
    rw [hsp, f.dc] at this
    cases this
  injection e with e
  subst e
  rw [hsp] at e1
  obtain ⟨rfl, rfl⟩ := List.cons.inj e1
  obtain rfl : ds = ds' := Option.some.inj (f.dc.symm.trans e2)
  have s78 := s7.trans s8
  refine ⟨b2, l2, t, w, r, xs2, ys, ds, rfl, R0, hb2, hlx2, s78 _ _ ht, tx2, ty.same s78, fun H9 s9 => ⟨_, rfl, ?_⟩⟩
  rw [if_neg (by decide)]
  exact hN _ _ _ _ _ _ _ _ (s.trans (s78.trans s9))
theorem wp_turn (g0 : G.fn "_law_drawn" 2 = some (spMixed, [])) (g1 : G.fn "row_of" 1 = some (spRow C, [])) (g2 : G.fn "_law_same" 3 = some (spSm, [])) (g3 : G.fn "_law_row" 1 = some (spDr, [])) (g4 : G.fn "_law_spoilt" 2 = some (spSp, [])) (g5 : G.fn "_law_refused" 1 = some (spRf, []))
    (hN : Mid a H0 D.nx) (s : Same H0 H) (k0 : 0 ≤ k) (k1 : k ≤ 100) {cl : Int} {x3 x4 x5 x6 : Option V} :
    wpB G K E (.cons (.asg (.name 3) (.call "_law_drawn" (.cons (.var 2) (.cons (.var 1) .nil)))) c_law_2b2) D [some (.ref a), some (.int k), some (.int cl), x3, x4, x5, x6, x7] H := by
  walk_at "wp"
  refine ⟨_, _, g0, cl, k, rfl, k0, k1, fun d hd => ?_⟩
  unfold c_law_2b2
  walk_at "wp"
  refine ⟨_, _, g3, d, rfl, fun H1 b l xs w r ds R0 s1 hl hb hlx tx => ?_⟩
  refine ⟨b, _, rfl, SqT.of hb, rfl, _, _, rfl, _, _, rfl, _, _, rfl, rfl, ?_⟩
  unfold c_law_2b3
  walk_at "wp"
  refine ⟨⟨by decide, by decide⟩, by decide, ?_⟩
  by_cases h : d / 9 % 4 = 1
  · rw [if_pos (by rw [decide_eq_true_eq]; exact h)]
    refine ⟨_, _, g5, _, _, g4, ⟨by decide, by decide⟩, w :: r, ds, d / 36, rfl, R0.f, fun H2 z s2 hz => ?_⟩
    refine ⟨.str z, rfl, ⟨kn_str, fun z' e => by injection e with e; rw [← e]; exact hz⟩, fun H3 s3 => ⟨_, rfl, ?_⟩⟩
    rw [if_neg (by decide)]
    exact hN _ _ _ _ _ _ _ _ (s.trans (s1.trans (s2.trans s3)))
  · rw [if_neg (by rw [decide_eq_true_eq]; exact h)]
    exact wp_good (D := { nx := tNext D, rt := D.rt, bk := D.bk, ct := D.ct }) g1 g2 hN (s.trans s1) R0 hlx tx
end
theorem wp_law {G : Gam} {K : PySem.W.Frag} {C : Addr} (gc : G.fn "_law_cell_at" 2 = some (spCell K, [])) (g0 : G.fn "_law_drawn" 2 = some (spMixed, [])) (g1 : G.fn "row_of" 1 = some (spRow C, [])) (g2 : G.fn "_law_same" 3 = some (spSm, [])) (g3 : G.fn "_law_row" 1 = some (spDr, [])) (g4 : G.fn "_law_spoilt" 2 = some (spSp, [])) (g5 : G.fn "_law_refused" 1 = some (spRf, [])) :
    ∀ vs H Q E, spLaw91 K vs H Q E → wpB G K (fun _ => E) c_law { nx := fun _ H' => Q .non H', rt := Q } (L2.start n_law vs) H := by
  rintro vs H Q E ⟨a, ns, rfl, hS, hn, q⟩
  have rest : ∀ H1, Same H H1 → wpB G K (fun _ => E) c_law_2 { nx := fun _ H' => Q .non H', rt := Q } [some (.ref a), none, none, none, none, none, none, none] H1 := by
    intro H1 s1
    unfold c_law_2
    walk_at "wp"
    refine for_of ?_
    walk_at "wp"
    refine .inl ⟨a, _, rfl, s1.seq hS, fun l hl => ⟨l, rfl, ⟨_, SqL.of upd_same⟩, ?_⟩⟩
    have hx : ∀ (i : Nat) v, (cutV (ns.map V.int) (some 1) (some 64))[i]? = some v → ∃ m : Int, v = .int m := fun i v e => by
      have hm := List.mem_of_getElem? e
      unfold cutV at hm
      obtain ⟨m, _, rfl⟩ := List.mem_map.mp (List.mem_of_mem_drop (List.mem_of_mem_take hm))
      exact ⟨m, rfl⟩
    have hxl : (cutV (ns.map V.int) (some 1) (some 64)).length ≤ 63 := Nat.le_trans (cutV_length _ _ _) (by rw [List.length_map]; exact hn)
    generalize cutV (ns.map V.int) (some 1) (some 64) = xs at hx hxl
    have h2 : upd H1 l (.lst xs) l = some (.lst xs) := upd_same
    generalize upd H1 l (.lst xs) = H2 at h2
    refine for_seq seq_enum (fun i σ H' => Same H2 H' ∧ ∃ x1 x2 x3 x4 x5 x6 x7, σ = [some (.ref a), x1, x2, x3, x4, x5, x6, x7]) ⟨Same.refl _, none, none, none, none, none, none, none, rfl⟩ (fun i σ H' _ p => SqL.of (p.1 _ _ h2)) ?_ ?_
    · rintro i x σ H3 H4 hi ⟨s3, x1, x2, x3, x4, x5, x6, x7, rfl⟩ ⟨p, v, rfl, hp, hv⟩ s4
      obtain ⟨m, rfl⟩ := hx i v hv
      refine ⟨p, _, rfl, SqT.of hp, rfl, _, _, rfl, _, _, rfl, rfl, ?_⟩
      refine wp_turn (C := C) (H0 := H2) g0 g1 g2 g3 g4 g5 ?_ (s3.trans s4) (by omega) (by omega)
      exact fun H' y1 y2 y3 y4 y5 y6 y7 s' => ⟨s', y1, y2, y3, y4, y5, y6, y7, rfl⟩
    · rintro σ H3 ⟨s3, x1, x2, x3, x4, x5, x6, x7, rfl⟩
      unfold c_law_3
      walk_at "wp"
      exact q H3
  unfold c_law
  change wpB G K _ _ _ [some (.ref a), none, none, none, none, none, none, none] H
  walk_at "wp"
  refine ⟨_, _, g5, Nat.zero_le _, fun p1 hp1 => ⟨sl (by simp), fun p2 hp2 => ⟨sl (by simp), fun p3 hp3 => .inl ⟨trivial, fun p4 hp4 => ⟨sl (by simp), fun p5 hp5 => ?_⟩⟩⟩⟩⟩
  have t1 := same_upd (o := .lst []) hp1
  have e1 : upd H p1 (.lst []) p1 = some (.lst []) := upd_same
  generalize upd H p1 (.lst []) = H1 at *
  have t2 := same_upd (o := .tup [V.str "table"]) hp2
  have e2 : upd H1 p2 (.tup [V.str "table"]) p2 = some (.tup [V.str "table"]) := upd_same
  generalize upd H1 p2 (.tup [V.str "table"]) = H2 at *
  have t3 := same_upd (o := .lst [V.str "table"]) hp3
  have e3 : upd H2 p3 (.lst [V.str "table"]) p3 = some (.lst [V.str "table"]) := upd_same
  generalize upd H2 p3 (.lst [V.str "table"]) = H3 at *
  have t4 := same_upd (o := .dK []) hp4
  have e4 : upd H3 p4 (.dK []) p4 = some (.dK []) := upd_same
  generalize upd H3 p4 (.dK []) = H4 at *
  have t5 := same_upd (o := .lst [V.non, .int 5, .ref p1, .bl true, .ref p2, .ref p3, .ref p4]) hp5
  have e5 : upd H4 p5 (.lst [V.non, .int 5, .ref p1, .bl true, .ref p2, .ref p3, .ref p4]) p5 = some (.lst [V.non, .int 5, .ref p1, .bl true, .ref p2, .ref p3, .ref p4]) := upd_same
  generalize upd H4 p5 (.lst [V.non, .int 5, .ref p1, .bl true, .ref p2, .ref p3, .ref p4]) = H5 at *
  have tt := (((t1.trans t2).trans t3).trans t4).trans t5
  refine ⟨_, _, gc, a, ns, 0, rfl, tt.seq hS, ?_⟩
  refine mod_ii.mpr ⟨by decide, ?_⟩
  generalize ns.getD 0 0 = c0
  have hm0 : 0 ≤ c0 % 7 := Int.emod_nonneg _ (by decide)
  have hm1 : c0 % 7 < 7 := Int.emod_lt_of_pos _ (by decide)
  obtain ⟨v, hv, hm⟩ : ∃ v, atI [V.non, .int 5, .ref p1, .bl true, .ref p2, .ref p3, .ref p4] (c0 % 7) = some v ∧ v ∈ [V.non, .int 5, .ref p1, .bl true, .ref p2, .ref p3, .ref p4] := by
    obtain ⟨j, hj⟩ := Int.eq_ofNat_of_zero_le hm0
    have hjl : j < [V.non, .int 5, .ref p1, .bl true, .ref p2, .ref p3, .ref p4].length := by show j < 7; omega
    exact ⟨_, by rw [hj]; exact atI_nat (List.getElem?_eq_getElem hjl), List.getElem_mem _⟩
  refine .inl ⟨p5, _, _, v, rfl, rfl, SqL.of e5, hv, v, rfl, ?_, fun H6 s6 => ⟨_, rfl, ?_⟩⟩
  · simp only [List.mem_cons, List.not_mem_nil, or_false] at hm
    rcases hm with rfl | rfl | rfl | rfl | rfl | rfl | rfl
    · exact ⟨kn_non, fun z e => nomatch e⟩
    · exact ⟨kn_int, fun z e => nomatch e⟩
    · exact ⟨kn_lst (t5 _ _ (t4 _ _ (t3 _ _ (t2 _ _ e1)))), fun z e => nomatch e⟩
    · exact ⟨kn_bl, fun z e => nomatch e⟩
    · exact ⟨kn_tup (t5 _ _ (t4 _ _ (t3 _ _ e2))), fun z e => nomatch e⟩
    · exact ⟨kn_lst (t5 _ _ (t4 _ _ e3)), fun z e => nomatch e⟩
    · exact ⟨kn_dK (t5 _ _ e4), fun z e => nomatch e⟩
  · rw [if_neg (by decide)]
    exact rest H6 (tt.trans s6)
end K91
set_option maxHeartbeats 0
namespace K91
open PySem PySem.Spec PySem.Calls PyProof.Rows L2 R Cp Lt Lm K12
noncomputable def heapK (P : PySem.Params) : PySem.W.Frag :=
  (nat_lit 2, ⟨.none, none, (.dict #[] 0), #[]⟩) ::
  (nat_lit 3, ⟨(.type "dict"), none, (.dict #[⟨PyData.keyHash P "__name__", .str "__name__" 165, (.str "law_copykin_k91_rows_of_a_desk" 426)⟩, ⟨PyData.keyHash P "__doc__", .str "__doc__" 166, .none⟩, ⟨PyData.keyHash P "__package__", .str "__package__" 167, .none⟩, ⟨PyData.keyHash P "__loader__", .str "__loader__" 168, (.builtin "__main__.__loader__#opaque")⟩, ⟨PyData.keyHash P "__spec__", .str "__spec__" 169, .none⟩, ⟨PyData.keyHash P "__annotations__", .str "__annotations__" 170, (.ref 6)⟩, ⟨PyData.keyHash P "__builtins__", .str "__builtins__" 171, (.ref 4)⟩, ⟨PyData.keyHash P "__file__", .str "__file__" 173, (.str "/claim/cut.py" 172)⟩, ⟨PyData.keyHash P "__cached__", .str "__cached__" 174, .none⟩, ⟨PyData.keyHash P "KinError", .str "KinError" 206, (.ref 24)⟩, ⟨PyData.keyHash P "NoText", .str "NoText" 233, (.ref 45)⟩, ⟨PyData.keyHash P "NoTable", .str "NoTable" 249, (.ref 57)⟩, ⟨PyData.keyHash P "NoName", .str "NoName" 265, (.ref 69)⟩, ⟨PyData.keyHash P "NoPlace", .str "NoPlace" 281, (.ref 81)⟩, ⟨PyData.keyHash P "NoReading", .str "NoReading" 297, (.ref 93)⟩, ⟨PyData.keyHash P "NoRow", .str "NoRow" 313, (.ref 105)⟩, ⟨PyData.keyHash P "LETTERS", .str "LETTERS" 317, (.str "abcdefghijklmnopqrstuvwxyz" 316)⟩, ⟨PyData.keyHash P "LONGEST_NAME", .str "LONGEST_NAME" 319, (.int (8) 318)⟩, ⟨PyData.keyHash P "MOST_PLACES", .str "MOST_PLACES" 321, (.int (60) 320)⟩, ⟨PyData.keyHash P "is_whole", .str "is_whole" 328, (.ref 114)⟩, ⟨PyData.keyHash P "is_name", .str "is_name" 334, (.ref 119)⟩, ⟨PyData.keyHash P "is_reading", .str "is_reading" 341, (.ref 126)⟩, ⟨PyData.keyHash P "are_readings", .str "are_readings" 347, (.ref 131)⟩, ⟨PyData.keyHash P "FIGURES_reader", .str "FIGURES_reader" 356, (.ref 132)⟩, ⟨PyData.keyHash P "read_readings", .str "read_readings" 362, (.ref 137)⟩, ⟨PyData.keyHash P "FIGURES_rows", .str "FIGURES_rows" 366, (.str "0123456789" 365)⟩, ⟨PyData.keyHash P "PARTS", .str "PARTS" 398, (.ref 138)⟩, ⟨PyData.keyHash P "read_place", .str "read_place" 404, (.ref 155)⟩, ⟨PyData.keyHash P "read_reading", .str "read_reading" 411, (.ref 162)⟩, ⟨PyData.keyHash P "read_part", .str "read_part" 419, (.ref 169)⟩, ⟨PyData.keyHash P "row_of", .str "row_of" 425, (.ref 174)⟩, ⟨PyData.keyHash P "_law_cell_at", .str "_law_cell_at" 435, (.ref 181)⟩, ⟨PyData.keyHash P "_law_drawn", .str "_law_drawn" 443, (.ref 188)⟩, ⟨PyData.keyHash P "_law_name", .str "_law_name" 453, (.ref 195)⟩, ⟨PyData.keyHash P "_law_readings", .str "_law_readings" 459, (.ref 200)⟩, ⟨PyData.keyHash P "_law_row", .str "_law_row" 465, (.ref 205)⟩, ⟨PyData.keyHash P "_law_spoilt", .str "_law_spoilt" 476, (.ref 212)⟩, ⟨PyData.keyHash P "_law_same", .str "_law_same" 482, (.ref 217)⟩, ⟨PyData.keyHash P "_law_refused", .str "_law_refused" 491, (.ref 224)⟩, ⟨PyData.keyHash P "law", .str "law" 505, (.ref 231)⟩] 40), #[]⟩) ::
  (nat_lit 23, ⟨(.type "dict"), none, (.dict #[⟨PyData.keyHash P "__module__", .str "__module__" 196, (.str "copykin.errors" 187)⟩, ⟨PyData.keyHash P "__firstlineno__", .str "__firstlineno__" 200, (.int (2) 199)⟩, ⟨PyData.keyHash P "__static_attributes__", .str "__static_attributes__" 201, (.ref 22)⟩, ⟨PyData.keyHash P "__weakref__", .str "__weakref__" 203, (.ref 25)⟩, ⟨PyData.keyHash P "__doc__", .str "__doc__" 204, .none⟩] 3), #[]⟩) ::
  (nat_lit 24, ⟨(.type "type"), none, (.cls { name := "KinError", bases := [(.type "ValueError")], mro := [(.ref 24), (.type "ValueError"), (.type "Exception"), (.type "BaseException"), (.type "object")], ns := 23, qualname := "KinError", hasDict := true, slotNames := [], subclasses := [(.ref 45), (.ref 57), (.ref 69), (.ref 81), (.ref 93), (.ref 105)], abstract := false, collection := none, hasDel := false }), #[(some (.ref 15)), none, (some (.str "KinError" 189)), (some (.str "KinError" 197)), (some (.builtin "ValueError.__new__")), (some (.bool true))]⟩) ::
  (nat_lit 35, ⟨(.type "tuple"), none, (.seq #[(.int (0) 219)] 0), #[]⟩) ::
  (nat_lit 41, ⟨(.type "code"), none, (.fields #[(.str "__init__" 220), (.str "NoText.__init__" 221), (.str "/claim/cut.py" 222), (.int (6) 0), (.int (3) 0), (.int (0) 0), (.int (0) 0), (.int (3) 0), (.ref 36), (.bool true), (.int (181) 0), (.ref 37), .none, (.ref 38), (.ref 39), (.ref 40), (.int (226) 0), (.int (6) 0), (.str "/claim/cut.py" 227)]), #[]⟩) ::
  (nat_lit 42, ⟨(.type "function"), none, (.func (PySem.W.fnOf "__init__" "NoText.__init__" (defArgs (clsRow 2 0)) (defBody (clsRow 2 0)) (defScope (clsRow 2 0)) (.ref 35) .none .none (.str "copykin.errors" 187) none (.ref 41) .none)), #[]⟩) ::
  (nat_lit 44, ⟨(.type "dict"), none, (.dict #[⟨PyData.keyHash P "__module__", .str "__module__" 214, (.str "copykin.errors" 187)⟩, ⟨PyData.keyHash P "__firstlineno__", .str "__firstlineno__" 218, (.int (4) 217)⟩, ⟨PyData.keyHash P "__init__", .str "__init__" 228, (.ref 42)⟩, ⟨PyData.keyHash P "__static_attributes__", .str "__static_attributes__" 230, (.ref 43)⟩, ⟨PyData.keyHash P "__doc__", .str "__doc__" 231, .none⟩] 2), #[]⟩) ::
  (nat_lit 45, ⟨(.type "type"), none, (.cls { name := "NoText", bases := [(.ref 24)], mro := [(.ref 45), (.ref 24), (.type "ValueError"), (.type "Exception"), (.type "BaseException"), (.type "object")], ns := 44, qualname := "NoText", hasDict := true, slotNames := [], subclasses := [], abstract := false, collection := none, hasDel := false }), #[(some (.ref 28)), none, (some (.str "NoText" 207)), (some (.str "NoText" 215)), (some (.builtin "ValueError.__new__")), (some (.bool true))]⟩) ::
  (nat_lit 56, ⟨(.type "dict"), none, (.dict #[⟨PyData.keyHash P "__module__", .str "__module__" 241, (.str "copykin.errors" 187)⟩, ⟨PyData.keyHash P "__firstlineno__", .str "__firstlineno__" 245, (.int (9) 244)⟩, ⟨PyData.keyHash P "__static_attributes__", .str "__static_attributes__" 246, (.ref 55)⟩, ⟨PyData.keyHash P "__doc__", .str "__doc__" 247, .none⟩] 2), #[]⟩) ::
  (nat_lit 57, ⟨(.type "type"), none, (.cls { name := "NoTable", bases := [(.ref 24)], mro := [(.ref 57), (.ref 24), (.type "ValueError"), (.type "Exception"), (.type "BaseException"), (.type "object")], ns := 56, qualname := "NoTable", hasDict := true, slotNames := [], subclasses := [], abstract := false, collection := none, hasDel := false }), #[(some (.ref 48)), none, (some (.str "NoTable" 234)), (some (.str "NoTable" 242)), (some (.builtin "ValueError.__new__")), (some (.bool true))]⟩) ::
  (nat_lit 68, ⟨(.type "dict"), none, (.dict #[⟨PyData.keyHash P "__module__", .str "__module__" 257, (.str "copykin.errors" 187)⟩, ⟨PyData.keyHash P "__firstlineno__", .str "__firstlineno__" 261, (.int (11) 260)⟩, ⟨PyData.keyHash P "__static_attributes__", .str "__static_attributes__" 262, (.ref 67)⟩, ⟨PyData.keyHash P "__doc__", .str "__doc__" 263, .none⟩] 2), #[]⟩) ::
  (nat_lit 69, ⟨(.type "type"), none, (.cls { name := "NoName", bases := [(.ref 24)], mro := [(.ref 69), (.ref 24), (.type "ValueError"), (.type "Exception"), (.type "BaseException"), (.type "object")], ns := 68, qualname := "NoName", hasDict := true, slotNames := [], subclasses := [], abstract := false, collection := none, hasDel := false }), #[(some (.ref 60)), none, (some (.str "NoName" 250)), (some (.str "NoName" 258)), (some (.builtin "ValueError.__new__")), (some (.bool true))]⟩) ::
  (nat_lit 80, ⟨(.type "dict"), none, (.dict #[⟨PyData.keyHash P "__module__", .str "__module__" 273, (.str "copykin.errors" 187)⟩, ⟨PyData.keyHash P "__firstlineno__", .str "__firstlineno__" 277, (.int (13) 276)⟩, ⟨PyData.keyHash P "__static_attributes__", .str "__static_attributes__" 278, (.ref 79)⟩, ⟨PyData.keyHash P "__doc__", .str "__doc__" 279, .none⟩] 2), #[]⟩) ::
  (nat_lit 81, ⟨(.type "type"), none, (.cls { name := "NoPlace", bases := [(.ref 24)], mro := [(.ref 81), (.ref 24), (.type "ValueError"), (.type "Exception"), (.type "BaseException"), (.type "object")], ns := 80, qualname := "NoPlace", hasDict := true, slotNames := [], subclasses := [], abstract := false, collection := none, hasDel := false }), #[(some (.ref 72)), none, (some (.str "NoPlace" 266)), (some (.str "NoPlace" 274)), (some (.builtin "ValueError.__new__")), (some (.bool true))]⟩) ::
  (nat_lit 92, ⟨(.type "dict"), none, (.dict #[⟨PyData.keyHash P "__module__", .str "__module__" 289, (.str "copykin.errors" 187)⟩, ⟨PyData.keyHash P "__firstlineno__", .str "__firstlineno__" 293, (.int (15) 292)⟩, ⟨PyData.keyHash P "__static_attributes__", .str "__static_attributes__" 294, (.ref 91)⟩, ⟨PyData.keyHash P "__doc__", .str "__doc__" 295, .none⟩] 2), #[]⟩) ::
  (nat_lit 93, ⟨(.type "type"), none, (.cls { name := "NoReading", bases := [(.ref 24)], mro := [(.ref 93), (.ref 24), (.type "ValueError"), (.type "Exception"), (.type "BaseException"), (.type "object")], ns := 92, qualname := "NoReading", hasDict := true, slotNames := [], subclasses := [], abstract := false, collection := none, hasDel := false }), #[(some (.ref 84)), none, (some (.str "NoReading" 282)), (some (.str "NoReading" 290)), (some (.builtin "ValueError.__new__")), (some (.bool true))]⟩) ::
  (nat_lit 104, ⟨(.type "dict"), none, (.dict #[⟨PyData.keyHash P "__module__", .str "__module__" 305, (.str "copykin.errors" 187)⟩, ⟨PyData.keyHash P "__firstlineno__", .str "__firstlineno__" 309, (.int (17) 308)⟩, ⟨PyData.keyHash P "__static_attributes__", .str "__static_attributes__" 310, (.ref 103)⟩, ⟨PyData.keyHash P "__doc__", .str "__doc__" 311, .none⟩] 2), #[]⟩) ::
  (nat_lit 105, ⟨(.type "type"), none, (.cls { name := "NoRow", bases := [(.ref 24)], mro := [(.ref 105), (.ref 24), (.type "ValueError"), (.type "Exception"), (.type "BaseException"), (.type "object")], ns := 104, qualname := "NoRow", hasDict := true, slotNames := [], subclasses := [], abstract := false, collection := none, hasDel := false }), #[(some (.ref 96)), none, (some (.str "NoRow" 298)), (some (.str "NoRow" 306)), (some (.builtin "ValueError.__new__")), (some (.bool true))]⟩) ::
  (nat_lit 113, ⟨(.type "code"), none, (.fields #[(.str "is_whole" 322), (.str "is_whole" 323), (.str "/claim/cut.py" 324), (.int (23) 0), (.int (1) 0), (.int (0) 0), (.int (0) 0), (.int (3) 0), (.ref 108), (.bool true), (.int (181) 0), (.ref 109), .none, (.ref 110), (.ref 111), (.ref 112), (.int (326) 0), (.int (23) 0), (.str "/claim/cut.py" 327)]), #[]⟩) ::
  (nat_lit 114, ⟨(.type "function"), none, (.func (PySem.W.fnOf "is_whole" "is_whole" (defArgs (top 12)) (defBody (top 12)) (defScope (top 12)) .none .none .none (.str "copykin.tables" 314) none (.ref 113) .none)), #[]⟩) ::
  (nat_lit 118, ⟨(.type "code"), none, (.fields #[(.str "is_name" 329), (.str "is_name" 330), (.str "/claim/cut.py" 331), (.int (25) 0), (.int (1) 0), (.int (0) 0), (.int (0) 0), (.int (3) 0), (.ref 115), (.bool true), (.int (181) 0), (.ref 116), .none, .none, .none, (.ref 117), (.int (332) 0), (.int (25) 0), (.str "/claim/cut.py" 333)]), #[]⟩) ::
  (nat_lit 119, ⟨(.type "function"), none, (.func (PySem.W.fnOf "is_name" "is_name" (defArgs (top 13)) (defBody (top 13)) (defScope (top 13)) .none .none .none (.str "copykin.tables" 314) none (.ref 118) .none)), #[]⟩) ::
  (nat_lit 125, ⟨(.type "code"), none, (.fields #[(.str "is_reading" 335), (.str "is_reading" 336), (.str "/claim/cut.py" 337), (.int (31) 0), (.int (1) 0), (.int (0) 0), (.int (0) 0), (.int (3) 0), (.ref 120), (.bool true), (.int (181) 0), (.ref 121), .none, (.ref 122), (.ref 123), (.ref 124), (.int (339) 0), (.int (31) 0), (.str "/claim/cut.py" 340)]), #[]⟩) ::
  (nat_lit 126, ⟨(.type "function"), none, (.func (PySem.W.fnOf "is_reading" "is_reading" (defArgs (top 14)) (defBody (top 14)) (defScope (top 14)) .none .none .none (.str "copykin.tables" 314) none (.ref 125) .none)), #[]⟩) ::
  (nat_lit 130, ⟨(.type "code"), none, (.fields #[(.str "are_readings" 342), (.str "are_readings" 343), (.str "/claim/cut.py" 344), (.int (33) 0), (.int (1) 0), (.int (0) 0), (.int (0) 0), (.int (3) 0), (.ref 127), (.bool true), (.int (181) 0), (.ref 128), .none, .none, .none, (.ref 129), (.int (345) 0), (.int (33) 0), (.str "/claim/cut.py" 346)]), #[]⟩) ::
  (nat_lit 131, ⟨(.type "function"), none, (.func (PySem.W.fnOf "are_readings" "are_readings" (defArgs (top 15)) (defBody (top 15)) (defScope (top 15)) .none .none .none (.str "copykin.tables" 314) none (.ref 130) .none)), #[]⟩) ::
  (nat_lit 132, ⟨(.type "dict"), none, (.dict #[⟨PyData.keyHash P "0", .str "0" 350, (.int (0) 351)⟩, ⟨PyData.keyHash P "1", .str "1" 352, (.int (1) 353)⟩] 2), #[]⟩) ::
  (nat_lit 136, ⟨(.type "code"), none, (.fields #[(.str "read_readings" 357), (.str "read_readings" 358), (.str "/claim/cut.py" 359), (.int (39) 0), (.int (1) 0), (.int (0) 0), (.int (0) 0), (.int (3) 0), (.ref 133), (.bool true), (.int (181) 0), (.ref 134), .none, .none, .none, (.ref 135), (.int (360) 0), (.int (39) 0), (.str "/claim/cut.py" 361)]), #[]⟩) ::
  (nat_lit 137, ⟨(.type "function"), none, (.func (PySem.W.fnOf "read_readings" "read_readings" (defArgs (top 18)) (defBody (top 18)) (defScope (top 18)) .none .none .none (.str "copykin.reader" 348) none (.ref 136) .none)), #[]⟩) ::
  (nat_lit 138, ⟨(.type "dict"), none, (.dict #[⟨PyData.keyHash P "copy", .str "copy" 367, (.ref 139)⟩, ⟨PyData.keyHash P "drop", .str "drop" 370, (.ref 140)⟩, ⟨PyData.keyHash P "elder", .str "elder" 372, (.ref 141)⟩, ⟨PyData.keyHash P "free", .str "free" 375, (.ref 142)⟩, ⟨PyData.keyHash P "table", .str "table" 377, (.ref 143)⟩, ⟨PyData.keyHash P "clash", .str "clash" 378, (.ref 144)⟩, ⟨PyData.keyHash P "tree", .str "tree" 379, (.ref 145)⟩, ⟨PyData.keyHash P "first", .str "first" 380, (.ref 146)⟩, ⟨PyData.keyHash P "stands", .str "stands" 381, (.ref 147)⟩, ⟨PyData.keyHash P "aside", .str "aside" 382, (.ref 148)⟩, ⟨PyData.keyHash P "mixers", .str "mixers" 383, (.ref 149)⟩, ⟨PyData.keyHash P "mixed", .str "mixed" 384, (.ref 150)⟩] 12), #[]⟩) ::
  (nat_lit 139, ⟨(.type "tuple"), none, (.seq #[(.str "NAME" 368), (.str "READINGS" 369)] 0), #[]⟩) ::
  (nat_lit 140, ⟨(.type "tuple"), none, (.seq #[(.str "NAME" 371)] 0), #[]⟩) ::
  (nat_lit 141, ⟨(.type "tuple"), none, (.seq #[(.str "PLACE" 373), (.str "READING" 374)] 0), #[]⟩) ::
  (nat_lit 142, ⟨(.type "tuple"), none, (.seq #[(.str "PLACE" 376)] 0), #[]⟩) ::
  (nat_lit 143, ⟨(.type "tuple"), none, (.seq #[] 0), #[]⟩) ::
  (nat_lit 144, ⟨(.type "tuple"), none, (.seq #[] 0), #[]⟩) ::
  (nat_lit 145, ⟨(.type "tuple"), none, (.seq #[] 0), #[]⟩) ::
  (nat_lit 146, ⟨(.type "tuple"), none, (.seq #[] 0), #[]⟩) ::
  (nat_lit 147, ⟨(.type "tuple"), none, (.seq #[] 0), #[]⟩) ::
  (nat_lit 148, ⟨(.type "tuple"), none, (.seq #[] 0), #[]⟩) ::
  (nat_lit 149, ⟨(.type "tuple"), none, (.seq #[] 0), #[]⟩) ::
  (nat_lit 150, ⟨(.type "tuple"), none, (.seq #[(.str "NAME" 385)] 0), #[]⟩) ::
  (nat_lit 154, ⟨(.type "code"), none, (.fields #[(.str "read_place" 399), (.str "read_place" 400), (.str "/claim/cut.py" 401), (.int (49) 0), (.int (1) 0), (.int (0) 0), (.int (0) 0), (.int (3) 0), (.ref 151), (.bool true), (.int (181) 0), (.ref 152), .none, .none, .none, (.ref 153), (.int (402) 0), (.int (49) 0), (.str "/claim/cut.py" 403)]), #[]⟩) ::
  (nat_lit 155, ⟨(.type "function"), none, (.func (PySem.W.fnOf "read_place" "read_place" (defArgs (top 22)) (defBody (top 22)) (defScope (top 22)) .none .none .none (.str "copykin.rows" 363) none (.ref 154) .none)), #[]⟩) ::
  (nat_lit 161, ⟨(.type "code"), none, (.fields #[(.str "read_reading" 405), (.str "read_reading" 406), (.str "/claim/cut.py" 407), (.int (55) 0), (.int (1) 0), (.int (0) 0), (.int (0) 0), (.int (3) 0), (.ref 156), (.bool true), (.int (181) 0), (.ref 157), .none, (.ref 158), (.ref 159), (.ref 160), (.int (409) 0), (.int (55) 0), (.str "/claim/cut.py" 410)]), #[]⟩) ::
  (nat_lit 162, ⟨(.type "function"), none, (.func (PySem.W.fnOf "read_reading" "read_reading" (defArgs (top 23)) (defBody (top 23)) (defScope (top 23)) .none .none .none (.str "copykin.rows" 363) none (.ref 161) .none)), #[]⟩) ::
  (nat_lit 168, ⟨(.type "code"), none, (.fields #[(.str "read_part" 412), (.str "read_part" 413), (.str "/claim/cut.py" 414), (.int (57) 0), (.int (2) 0), (.int (0) 0), (.int (0) 0), (.int (3) 0), (.ref 163), (.bool true), (.int (181) 0), (.ref 164), .none, (.ref 165), (.ref 166), (.ref 167), (.int (417) 0), (.int (57) 0), (.str "/claim/cut.py" 418)]), #[]⟩) ::
  (nat_lit 169, ⟨(.type "function"), none, (.func (PySem.W.fnOf "read_part" "read_part" (defArgs (top 24)) (defBody (top 24)) (defScope (top 24)) .none .none .none (.str "copykin.rows" 363) none (.ref 168) .none)), #[]⟩) ::
  (nat_lit 173, ⟨(.type "code"), none, (.fields #[(.str "row_of" 420), (.str "row_of" 421), (.str "/claim/cut.py" 422), (.int (65) 0), (.int (1) 0), (.int (0) 0), (.int (0) 0), (.int (3) 0), (.ref 170), (.bool true), (.int (181) 0), (.ref 171), .none, .none, .none, (.ref 172), (.int (423) 0), (.int (65) 0), (.str "/claim/cut.py" 424)]), #[]⟩) ::
  (nat_lit 174, ⟨(.type "function"), none, (.func (PySem.W.fnOf "row_of" "row_of" (defArgs (top 25)) (defBody (top 25)) (defScope (top 25)) .none .none .none (.str "copykin.rows" 363) none (.ref 173) .none)), #[]⟩) ::
  (nat_lit 180, ⟨(.type "code"), none, (.fields #[(.str "_law_cell_at" 428), (.str "_law_cell_at" 429), (.str "/claim/cut.py" 430), (.int (76) 0), (.int (2) 0), (.int (0) 0), (.int (0) 0), (.int (3) 0), (.ref 175), (.bool true), (.int (181) 0), (.ref 176), .none, (.ref 177), (.ref 178), (.ref 179), (.int (433) 0), (.int (76) 0), (.str "/claim/cut.py" 434)]), #[]⟩) ::
  (nat_lit 181, ⟨(.type "function"), none, (.func (PySem.W.fnOf "_law_cell_at" "_law_cell_at" (defArgs (top 27)) (defBody (top 27)) (defScope (top 27)) .none .none .none (.str "law_copykin_k91_rows_of_a_desk" 426) none (.ref 180) .none)), #[]⟩) ::
  (nat_lit 187, ⟨(.type "code"), none, (.fields #[(.str "_law_drawn" 436), (.str "_law_drawn" 437), (.str "/claim/cut.py" 438), (.int (80) 0), (.int (2) 0), (.int (0) 0), (.int (0) 0), (.int (3) 0), (.ref 182), (.bool true), (.int (181) 0), (.ref 183), .none, (.ref 184), (.ref 185), (.ref 186), (.int (441) 0), (.int (80) 0), (.str "/claim/cut.py" 442)]), #[]⟩) ::
  (nat_lit 188, ⟨(.type "function"), none, (.func (PySem.W.fnOf "_law_drawn" "_law_drawn" (defArgs (top 28)) (defBody (top 28)) (defScope (top 28)) .none .none .none (.str "law_copykin_k91_rows_of_a_desk" 426) none (.ref 187) .none)), #[]⟩) ::
  (nat_lit 194, ⟨(.type "code"), none, (.fields #[(.str "_law_name" 444), (.str "_law_name" 445), (.str "/claim/cut.py" 446), (.int (84) 0), (.int (1) 0), (.int (0) 0), (.int (0) 0), (.int (3) 0), (.ref 189), (.bool true), (.int (181) 0), (.ref 190), .none, (.ref 191), (.ref 192), (.ref 193), (.int (451) 0), (.int (84) 0), (.str "/claim/cut.py" 452)]), #[]⟩) ::
  (nat_lit 195, ⟨(.type "function"), none, (.func (PySem.W.fnOf "_law_name" "_law_name" (defArgs (top 29)) (defBody (top 29)) (defScope (top 29)) .none .none .none (.str "law_copykin_k91_rows_of_a_desk" 426) none (.ref 194) .none)), #[]⟩) ::
  (nat_lit 199, ⟨(.type "code"), none, (.fields #[(.str "_law_readings" 454), (.str "_law_readings" 455), (.str "/claim/cut.py" 456), (.int (90) 0), (.int (1) 0), (.int (0) 0), (.int (0) 0), (.int (3) 0), (.ref 196), (.bool true), (.int (181) 0), (.ref 197), .none, .none, .none, (.ref 198), (.int (457) 0), (.int (90) 0), (.str "/claim/cut.py" 458)]), #[]⟩) ::
  (nat_lit 200, ⟨(.type "function"), none, (.func (PySem.W.fnOf "_law_readings" "_law_readings" (defArgs (top 30)) (defBody (top 30)) (defScope (top 30)) .none .none .none (.str "law_copykin_k91_rows_of_a_desk" 426) none (.ref 199) .none)), #[]⟩) ::
  (nat_lit 204, ⟨(.type "code"), none, (.fields #[(.str "_law_row" 460), (.str "_law_row" 461), (.str "/claim/cut.py" 462), (.int (93) 0), (.int (1) 0), (.int (0) 0), (.int (0) 0), (.int (3) 0), (.ref 201), (.bool true), (.int (181) 0), (.ref 202), .none, .none, .none, (.ref 203), (.int (463) 0), (.int (93) 0), (.str "/claim/cut.py" 464)]), #[]⟩) ::
  (nat_lit 205, ⟨(.type "function"), none, (.func (PySem.W.fnOf "_law_row" "_law_row" (defArgs (top 31)) (defBody (top 31)) (defScope (top 31)) .none .none .none (.str "law_copykin_k91_rows_of_a_desk" 426) none (.ref 204) .none)), #[]⟩) ::
  (nat_lit 211, ⟨(.type "code"), none, (.fields #[(.str "_law_spoilt" 466), (.str "_law_spoilt" 467), (.str "/claim/cut.py" 468), (.int (113) 0), (.int (2) 0), (.int (0) 0), (.int (0) 0), (.int (3) 0), (.ref 206), (.bool true), (.int (181) 0), (.ref 207), .none, (.ref 208), (.ref 209), (.ref 210), (.int (474) 0), (.int (113) 0), (.str "/claim/cut.py" 475)]), #[]⟩) ::
  (nat_lit 212, ⟨(.type "function"), none, (.func (PySem.W.fnOf "_law_spoilt" "_law_spoilt" (defArgs (top 32)) (defBody (top 32)) (defScope (top 32)) .none .none .none (.str "law_copykin_k91_rows_of_a_desk" 426) none (.ref 211) .none)), #[]⟩) ::
  (nat_lit 216, ⟨(.type "code"), none, (.fields #[(.str "_law_same" 477), (.str "_law_same" 478), (.str "/claim/cut.py" 479), (.int (123) 0), (.int (3) 0), (.int (0) 0), (.int (0) 0), (.int (3) 0), (.ref 213), (.bool true), (.int (181) 0), (.ref 214), .none, .none, .none, (.ref 215), (.int (480) 0), (.int (123) 0), (.str "/claim/cut.py" 481)]), #[]⟩) ::
  (nat_lit 217, ⟨(.type "function"), none, (.func (PySem.W.fnOf "_law_same" "_law_same" (defArgs (top 33)) (defBody (top 33)) (defScope (top 33)) .none .none .none (.str "law_copykin_k91_rows_of_a_desk" 426) none (.ref 216) .none)), #[]⟩) ::
  (nat_lit 223, ⟨(.type "code"), none, (.fields #[(.str "_law_refused" 483), (.str "_law_refused" 484), (.str "/claim/cut.py" 485), (.int (129) 0), (.int (1) 0), (.int (0) 0), (.int (0) 0), (.int (3) 0), (.ref 218), (.bool true), (.int (181) 0), (.ref 219), .none, (.ref 220), (.ref 221), (.ref 222), (.int (489) 0), (.int (129) 0), (.str "/claim/cut.py" 490)]), #[]⟩) ::
  (nat_lit 224, ⟨(.type "function"), none, (.func (PySem.W.fnOf "_law_refused" "_law_refused" (defArgs (top 34)) (defBody (top 34)) (defScope (top 34)) .none .none .none (.str "law_copykin_k91_rows_of_a_desk" 426) none (.ref 223) .none)), #[]⟩) ::
  (nat_lit 230, ⟨(.type "code"), none, (.fields #[(.str "law" 492), (.str "law" 493), (.str "/claim/cut.py" 494), (.int (140) 0), (.int (1) 0), (.int (0) 0), (.int (0) 0), (.int (3) 0), (.ref 225), (.bool true), (.int (181) 0), (.ref 226), .none, (.ref 227), (.ref 228), (.ref 229), (.int (503) 0), (.int (140) 0), (.str "/claim/cut.py" 504)]), #[]⟩) ::
  (nat_lit 231, ⟨(.type "function"), none, (.func (PySem.W.fnOf "law" "law" (defArgs (top 35)) (defBody (top 35)) (defScope (top 35)) .none .none .none (.str "law_copykin_k91_rows_of_a_desk" 426) none (.ref 230) .none)), #[]⟩) :: []
noncomputable def heapA : List Addr := [2, 3, 23, 24, 35, 41, 42, 44, 45, 56, 57, 68, 69, 80, 81, 92, 93, 104, 105, 113, 114, 118, 119, 125, 126, 130, 131, 132, 136, 137, 138, 139, 140, 141, 142, 143, 144, 145, 146, 147, 148, 149, 150, 154, 155, 161, 162, 168, 169, 173, 174, 180, 181, 187, 188, 194, 195, 199, 200, 204, 205, 211, 212, 216, 217, 223, 224, 230, 231]
noncomputable def lhsB0 (w : World) := (PySem.W.fencedOpening treeTable PySem.Challenge.pw_copykin_k91_rows_of_a_desk w 4818).map fun s₀ => (PySem.W.topFrom treeTable PySem.Challenge.pw_copykin_k91_rows_of_a_desk (w.withFollow "special-get-raises" false) 4818 s₀).map (PySem.W.Hook.obs (PySem.W.kmHook K91.heapK K91.heapA (fun _ => by kernel_rfl) []))
noncomputable def rhsB0 (w : World) := some (some (PySem.W.Hook.val (PySem.W.kmHook K91.heapK K91.heapA (fun _ => by kernel_rfl) []) (w.withFollow "special-get-raises" false)))
theorem laidB0 : (seen lhsB0 && seen rhsB0) = true := by k_qdec
theorem leftB0 (w : World) : lhsB0 w = rhsB0 w := by
  have _ := laidB0
  rw [PySem.W.Fast.te15672639387887068291, PySem.W.Fast.te12300942432411552947]
  kernel_rfl
noncomputable def lhsB1 (w : World) := (PySem.W.fencedOpening treeTable PySem.Challenge.pw_copykin_k91_rows_of_a_desk w 4818).map fun s₀ => (PySem.W.topFrom treeTable PySem.Challenge.pw_copykin_k91_rows_of_a_desk (w.withFollow "special-get-raises" true) 4818 s₀).map (PySem.W.Hook.obs (PySem.W.kmHook K91.heapK K91.heapA (fun _ => by kernel_rfl) []))
noncomputable def rhsB1 (w : World) := some (some (PySem.W.Hook.val (PySem.W.kmHook K91.heapK K91.heapA (fun _ => by kernel_rfl) []) (w.withFollow "special-get-raises" true)))
theorem laidB1 : (seen lhsB1 && seen rhsB1) = true := by k_qdec
theorem leftB1 (w : World) : lhsB1 w = rhsB1 w := by
  have _ := laidB1
  rw [PySem.W.Fast.te9792039138793957141, PySem.W.Fast.te439992023170081752]
  kernel_rfl
noncomputable def vals (CE C D0 D1 D2 D3 D4 : Addr) : List (Str × V) := [("LETTERS", .str LETTERS), ("LONGEST_NAME", .int 8), ("MOST_PLACES", .int 60), ("FIGURES_rows", .str FIG10), ("KinError", .ref CE), ("NoRow", .ref C), ("NoText", .ref D0), ("NoName", .ref D1), ("NoPlace", .ref D2), ("NoReading", .ref D3), ("NoTable", .ref D4), ("FIGURES_reader", .ref 132), ("PARTS", .ref 138)]
noncomputable def dics : List (Addr × List (Key × V)) := [(132, figs), (138, kvP)]
theorem excOk_mk {K : PySem.W.Frag} {C : Addr} {cd : ClassData} (a : PySem.W.findIn K (.ref C) "__getattribute__" = some (some (.builtin "BaseException.__getattribute__"))) (b : PySem.W.findIn K (.ref C) "__getattr__" = some none) (c : PySem.W.findIn K (.ref C) "__class__" = some (some (.builtin "object.__class__")))
    (d : PySem.W.specialIn K (.builtin "object.__class__") "__get__" = some (some (.builtin "getset_descriptor.__get__"))) (e : PySem.W.takesIn K (.builtin "object.__class__") = some true) (f : PySem.W.mroIn K C (.type "object") = some true) (g : PySem.W.mroIn K C (.type "BaseException") = some true) (h : PySem.W.clsIn K C = some cd) : excOk K C = true := by
  unfold excOk
  rw [a, b, c, d, e, f, g, h]
  simp only [beq_self_eq_true, Bool.and_self, Option.isSome_some]
theorem all_mk {P : Program} {w : World} {K : PySem.W.Frag} {h : Heap} {mg : Str → Option Value} {fa : Addr} (X : K.In h) (Gm : h.Ns mainGlobals mg) (hfa : mg "law" = some (.ref fa)) {t1 t2 t3 t4 t5 t6 t7 t8 : Tok} {CE C D0 D1 D2 D3 D4 : Addr} {nF nP : Nat} {tp : Nat → Tok}
    (v1 : PySem.W.nsIn K mainGlobals "LETTERS" = some (some (.str LETTERS t1))) (v2 : PySem.W.nsIn K mainGlobals "LONGEST_NAME" = some (some (.int 8 t2))) (v3 : PySem.W.nsIn K mainGlobals "MOST_PLACES" = some (some (.int 60 t3))) (v4 : PySem.W.nsIn K mainGlobals "FIGURES_rows" = some (some (.str FIG10 t4))) (v5 : PySem.W.nsIn K mainGlobals "KinError" = some (some (.ref CE))) (v6 : PySem.W.nsIn K mainGlobals "NoRow" = some (some (.ref C))) (v7 : PySem.W.nsIn K mainGlobals "NoText" = some (some (.ref D0))) (v8 : PySem.W.nsIn K mainGlobals "NoName" = some (some (.ref D1))) (v9 : PySem.W.nsIn K mainGlobals "NoPlace" = some (some (.ref D2))) (v10 : PySem.W.nsIn K mainGlobals "NoReading" = some (some (.ref D3))) (v11 : PySem.W.nsIn K mainGlobals "NoTable" = some (some (.ref D4))) (v12 : PySem.W.nsIn K mainGlobals "FIGURES_reader" = some (some (.ref 132))) (v13 : PySem.W.nsIn K mainGlobals "PARTS" = some (some (.ref 138)))
    (xc : PySem.W.keepIn K (.ref C) = true ∧ PySem.W.excIn K C bmV "ValueError.__new__" = true) (m : PySem.W.exmOne K (.ref C) (.ref CE) = some true) (oc : excOk K C = true) (k1 : PySem.W.kitOne K (.ref C) (.ref C) = some true) (kv : PySem.W.kitOne K (.ref C) (.type "ValueError") = some true)
    (o0 : PySem.W.kitOne K (.ref C) (.ref D0) = some false) (o1 : PySem.W.kitOne K (.ref C) (.ref D1) = some false) (o2 : PySem.W.kitOne K (.ref C) (.ref D2) = some false) (o3 : PySem.W.kitOne K (.ref C) (.ref D3) = some false) (o4 : PySem.W.kitOne K (.ref C) (.ref D4) = some false)
    (lF : K.lookup 132 = some ⟨.type "dict", none, .dict #[⟨PyData.keyHash w.params "0", .str "0" t5, .int 0 t6⟩, ⟨PyData.keyHash w.params "1", .str "1" t7, .int 1 t8⟩] nF, #[]⟩)
    (lP : K.lookup 138 = some ⟨.type "dict", none, .dict #[⟨PyData.keyHash w.params "copy", .str "copy" (tp 0), .ref 139⟩, ⟨PyData.keyHash w.params "drop", .str "drop" (tp 1), .ref 140⟩, ⟨PyData.keyHash w.params "elder", .str "elder" (tp 2), .ref 141⟩, ⟨PyData.keyHash w.params "free", .str "free" (tp 3), .ref 142⟩, ⟨PyData.keyHash w.params "table", .str "table" (tp 4), .ref 143⟩, ⟨PyData.keyHash w.params "clash", .str "clash" (tp 5), .ref 144⟩, ⟨PyData.keyHash w.params "tree", .str "tree" (tp 6), .ref 145⟩, ⟨PyData.keyHash w.params "first", .str "first" (tp 7), .ref 146⟩, ⟨PyData.keyHash w.params "stands", .str "stands" (tp 8), .ref 147⟩, ⟨PyData.keyHash w.params "aside", .str "aside" (tp 9), .ref 148⟩, ⟨PyData.keyHash w.params "mixers", .str "mixers" (tp 10), .ref 149⟩, ⟨PyData.keyHash w.params "mixed", .str "mixed" (tp 11), .ref 150⟩] nP, #[]⟩) (ti : TupsIn K)
    (bl : ∀ x ∈ bltNames, PySem.W.nsIn K mainGlobals x = some none) (h12 : HasFn K "is_whole" (top 12)) (h13 : HasFn K "is_name" (top 13)) (h14 : HasFn K "is_reading" (top 14)) (h15 : HasFn K "are_readings" (top 15)) (h18 : HasFn K "read_readings" (top 18)) (h22 : HasFn K "read_place" (top 22)) (h23 : HasFn K "read_reading" (top 23)) (h24 : HasFn K "read_part" (top 24)) (h25 : HasFn K "row_of" (top 25)) (h27 : HasFn K "_law_cell_at" (top 27)) (h28 : HasFn K "_law_drawn" (top 28)) (h29 : HasFn K "_law_name" (top 29)) (h30 : HasFn K "_law_readings" (top 30)) (h31 : HasFn K "_law_row" (top 31)) (h32 : HasFn K "_law_spoilt" (top 32)) (h33 : HasFn K "_law_same" (top 33)) (h34 : HasFn K "_law_refused" (top 34)) (h35 : HasFn K "law" (top 35)) :
    ∃ fd : FuncData, (∀ (s : Shared) (v : Value), BindsTo s fd ⟨[v], []⟩ [("_law_script", v)]) ∧ ∀ base : Heap, K.In base → base.Ns mainGlobals mg → BM mg base → FnOk P w K mg base CX0 18 fa fd ["_law_script"] (fun vs H Q _ => spLaw91 K vs H Q E0) := by
  obtain ⟨f, oc', od, an, osl, kV, doc, pm, cdv, ct, a, l, c, k⟩ := id h35
  have e := hfa.symm.trans (PySem.W.mg_of X Gm a)
  cases e
  refine ⟨PySem.W.fnOf "law" "law" (defArgs (top 35)) (defBody (top 35)) (defScope (top 35)) .none kV doc pm an cdv ct, fun s v => .of_eq rfl, fun base Xb _ bm => ?_⟩
  have hv : ∀ x v, (x, v) ∈ vals CE C D0 D1 D2 D3 D4 → ∃ u, mg x = some u ∧ RelV v u := by
    intro x v hm
    simp only [vals, List.mem_cons, List.not_mem_nil, or_false, Prod.mk.injEq] at hm
    rcases hm with ⟨rfl, rfl⟩ | ⟨rfl, rfl⟩ | ⟨rfl, rfl⟩ | ⟨rfl, rfl⟩ | ⟨rfl, rfl⟩ | ⟨rfl, rfl⟩ | ⟨rfl, rfl⟩ | ⟨rfl, rfl⟩ | ⟨rfl, rfl⟩ | ⟨rfl, rfl⟩ | ⟨rfl, rfl⟩ | ⟨rfl, rfl⟩ | ⟨rfl, rfl⟩
    · exact ⟨_, PySem.W.mg_of X Gm v1, t1, rfl⟩
    · exact ⟨_, PySem.W.mg_of X Gm v2, t2, rfl⟩
    · exact ⟨_, PySem.W.mg_of X Gm v3, t3, rfl⟩
    · exact ⟨_, PySem.W.mg_of X Gm v4, t4, rfl⟩
    · exact ⟨_, PySem.W.mg_of X Gm v5, rfl⟩
    · exact ⟨_, PySem.W.mg_of X Gm v6, rfl⟩
    · exact ⟨_, PySem.W.mg_of X Gm v7, rfl⟩
    · exact ⟨_, PySem.W.mg_of X Gm v8, rfl⟩
    · exact ⟨_, PySem.W.mg_of X Gm v9, rfl⟩
    · exact ⟨_, PySem.W.mg_of X Gm v10, rfl⟩
    · exact ⟨_, PySem.W.mg_of X Gm v11, rfl⟩
    · exact ⟨_, PySem.W.mg_of X Gm v12, rfl⟩
    · exact ⟨_, PySem.W.mg_of X Gm v13, rfl⟩
  have g0 : GOk P w K mg base (CXx P w) 0 (gam (vals CE C D0 D1 D2 D3 D4) [] [] dics) := GOk.start hv (fun x hx => PySem.W.mg_none_of X Gm (bl x hx)) (fun a kvs hm => by
    simp only [dics, List.mem_cons, List.not_mem_nil, or_false, Prod.mk.injEq] at hm
    rcases hm with ⟨rfl, rfl⟩ | ⟨rfl, rfl⟩
    · exact figs_mk (by decide) lF
    · exact parts_mk (t := tp) (by decide) lP)
  have g1 := add_fn (N := Cp.n_is_whole) (ps := Cp.p_is_whole) g0 (h12.def X Gm) (by decide +kernel) (fun _ _ _ _ _ _ us hl => by obtain ⟨_, rfl⟩ := Kc.one_of hl; rfl) (sp := spB isWhole) (fun vs H Q E h => Kc.lenE h fun _ h => Kc.lenA h rfl) wp_is_whole
  have g2 := add_fn (N := Cp.n_is_name) (ps := Cp.p_is_name) g1 (h13.def X Gm) (by decide +kernel) (fun _ _ _ _ _ _ us hl => by obtain ⟨_, rfl⟩ := Kc.one_of hl; rfl) (sp := spN) (fun vs H Q E h => Kc.lenE h fun _ h => Kc.lenA h rfl) (wp_is_name (by kernel_rfl) (by kernel_rfl))
  have g3 := add_fn (N := Cp.n_is_reading) (ps := Cp.p_is_reading) g2 (h14.def X Gm) (by decide +kernel) (fun _ _ _ _ _ _ us hl => by obtain ⟨_, rfl⟩ := Kc.one_of hl; rfl) (sp := spB isReading) (fun vs H Q E h => Kc.lenE h fun _ h => Kc.lenA h rfl) (wp_is_reading (by kernel_rfl))
  have g4 := add_fn (N := Cp.n_are_readings) (ps := Cp.p_are_readings) g3 (h15.def X Gm) (by decide +kernel) (fun _ _ _ _ _ _ us hl => by obtain ⟨_, rfl⟩ := Kc.one_of hl; rfl) (sp := spR) (fun vs H Q E h => Kc.lenE h fun _ h => Kc.lenA h rfl) (wp_are_readings (by kernel_rfl) (by kernel_rfl))
  have g5 := add_fn (N := K91.n_read_readings) (ps := K91.p_read_readings) g4 (h18.def X Gm) (by decide +kernel) (fun _ _ _ _ _ _ us hl => by obtain ⟨_, rfl⟩ := Kc.one_of hl; rfl) (sp := K91.spRR) (fun vs H Q E h => Kc.lenE h fun _ h => Kc.lenA h rfl) (K91.wp_read_readings (F := 132) (by kernel_rfl) (by kernel_rfl) (by kernel_rfl))
  have g6 := add_fn (N := K91.n_read_place) (ps := K91.p_read_place) g5 (h22.def X Gm) (by decide +kernel) (fun _ _ _ _ _ _ us hl => by obtain ⟨_, rfl⟩ := Kc.one_of hl; rfl) (sp := spPl) (fun vs H Q E h => Kc.lenE h fun _ h => Kc.lenA h rfl) (wp_read_place (by kernel_rfl))
  have g7 := add_fn (N := K91.n_read_reading) (ps := K91.p_read_reading) g6 (h23.def X Gm) (by decide +kernel) (fun _ _ _ _ _ _ us hl => by obtain ⟨_, rfl⟩ := Kc.one_of hl; rfl) (sp := spRd) (fun vs H Q E h => Kc.lenE h fun _ h => Kc.lenA h rfl) wp_read_reading
  have g8 := add_fn (N := K91.n_read_part) (ps := K91.p_read_part) g7 (h24.def X Gm) (by decide +kernel) (fun _ _ _ _ _ _ us hl => by obtain ⟨_, _, rfl⟩ := Kc.two_of hl; rfl) (sp := spPart) (fun vs H Q E h => Kc.lenE h fun _ h => Kc.lenE h fun _ h => Kc.lenA h rfl) (wp_read_part (by kernel_rfl) (by kernel_rfl) (by kernel_rfl) (by kernel_rfl))
  have g9 := add_fn (N := K91.n_row_of) (ps := K91.p_row_of) g8 (h25.def X Gm) (by decide +kernel) (fun _ _ _ _ _ _ us hl => by obtain ⟨_, rfl⟩ := Kc.one_of hl; rfl) (sp := K91.spRow C) (fun vs H Q E h => Kc.lenE h fun _ h => Kc.lenA h rfl) (K91.wp_row_of (C := C) (PA := 138) (kvs := kvP) (by kernel_rfl) xc.1 xc.2 (pk_mk (by kernel_rfl) (by kernel_rfl) ti) (by kernel_rfl))
  have g10 := add_fn (N := Lt.n_law_cell_at) (ps := Lt.p_law_cell_at) g9 (h27.def X Gm) (by decide +kernel) (fun _ _ _ _ _ _ us hl => by obtain ⟨_, _, rfl⟩ := Kc.two_of hl; rfl) (sp := Lt.spCell K) (fun vs H Q E h => Kc.lenE h fun _ h => Kc.lenE h fun _ h => Kc.lenE h fun _ h => Kc.lenA h rfl) Lt.wp_cell
  have g11 := add_fn (N := Lt.n_law_mixed) (ps := Lt.p_law_mixed) g10 (h28.def X Gm) (by decide +kernel) (fun _ _ _ _ _ _ us hl => by obtain ⟨_, _, rfl⟩ := Kc.two_of hl; rfl) (sp := Lt.spMixed) (fun vs H Q E h => Kc.lenE h fun _ h => Kc.lenE h fun _ h => Kc.lenA h rfl) Lt.wp_mixed
  have g12 := add_fn (N := K91.n_law_name) (ps := K91.p_law_name) g11 (h29.def X Gm) (by decide +kernel) (fun _ _ _ _ _ _ us hl => by obtain ⟨_, rfl⟩ := Kc.one_of hl; rfl) (sp := spNm) (fun vs H Q E h => Kc.lenE h fun _ h => Kc.lenA h rfl) wp_nm
  have g13 := add_fn (N := K91.n_law_readings) (ps := K91.p_law_readings) g12 (h30.def X Gm) (by decide +kernel) (fun _ _ _ _ _ _ us hl => by obtain ⟨_, rfl⟩ := Kc.one_of hl; rfl) (sp := spRds1) (fun vs H Q E h => Kc.lenE h fun _ h => Kc.lenA h rfl) wp_rds1
  have g14 := add_fn (N := K91.n_law_row) (ps := K91.p_law_row) g13 (h31.def X Gm) (by decide +kernel) (fun _ _ _ _ _ _ us hl => by obtain ⟨_, rfl⟩ := Kc.one_of hl; rfl) (sp := spDr) (fun vs H Q E h => Kc.lenE h fun _ h => Kc.lenA h rfl) (wp_dr (by kernel_rfl) (by kernel_rfl))
  have g15 := add_fn (N := K91.n_law_spoilt) (ps := K91.p_law_spoilt) g14 (h32.def X Gm) (by decide +kernel) (fun _ _ _ _ _ _ us hl => by obtain ⟨_, _, rfl⟩ := Kc.two_of hl; rfl) (sp := spSp) (fun vs H Q E h => Kc.lenE h fun _ h => Kc.lenE h fun _ h => Kc.lenE h fun _ h => Kc.lenA h rfl) wp_sp
  have g16 := add_fn (N := K91.n_law_same) (ps := K91.p_law_same) g15 (h33.def X Gm) (by decide +kernel) (fun _ _ _ _ _ _ us hl => by obtain ⟨_, _, _, rfl⟩ := Kc.three_of hl; rfl) (sp := spSm) (fun vs H Q E h => Kc.lenE h fun _ h => Kc.lenE h fun _ h => Kc.lenE h fun _ h => Kc.lenE h fun _ h => Kc.lenE h fun _ h => Kc.lenE h fun _ h => Kc.lenE h fun _ h => Kc.lenE h fun _ h => Kc.lenA h rfl) wp_sm
  have X' : ∀ fns, Xr (gam (vals CE C D0 D1 D2 D3 D4) fns [] dics) K CE C := fun fns => ⟨by kernel_rfl, by kernel_rfl, m, oc, k1, kv, fun x hx => by
    simp only [others, List.mem_cons, List.not_mem_nil, or_false] at hx
    rcases hx with rfl | rfl | rfl | rfl | rfl
    · exact ⟨D0, by kernel_rfl, o0⟩
    · exact ⟨D1, by kernel_rfl, o1⟩
    · exact ⟨D2, by kernel_rfl, o2⟩
    · exact ⟨D3, by kernel_rfl, o3⟩
    · exact ⟨D4, by kernel_rfl, o4⟩⟩
  have g17 := add_fn (N := K91.n_law_refused) (ps := K91.p_law_refused) g16 (h34.def X Gm) (by decide +kernel) (fun _ _ _ _ _ _ us hl => by obtain ⟨_, rfl⟩ := Kc.one_of hl; rfl) (sp := spRf) (fun vs H Q E h => Kc.lenE h fun _ h => Kc.lenA h rfl) (wp_rf (CE := CE) (C := C) (X' _) (by kernel_rfl))
  have hk : (okDef K91.n_law K91.p_law (defScope (top 35)) && chkB (defScope (top 35)) K91.n_law K91.c_law (defBody (top 35))) = true := by decide +kernel
  rw [Bool.and_eq_true] at hk
  exact FnOk.calm (fn_code (fun_mk l c k) hk.1 hk.2 g17 (fun vs H Q E h => Kc.lenE h fun _ h => Kc.lenE h fun _ h => Kc.lenA h rfl) (K91.wp_law (C := C) (by kernel_rfl) (by kernel_rfl) (by kernel_rfl) (by kernel_rfl) (by kernel_rfl) (by kernel_rfl) (by kernel_rfl)))
end K91
open PySem PySem.W PyProof.Rows
set_option maxRecDepth 100000 in
set_option maxHeartbeats 0 in
theorem PySem.Challenge.cw_copykin_k91_rows_of_a_desk_holds : PySem.Challenge.rw_copykin_k91_rows_of_a_desk.Holds := by
  w_on; o_law
  refine PySem.W.holds_open (q := K91.vw) (loose := K91.loo) (Xt := K91.xt)
    (XP := PySem.W.XL K91.vw []) (Yf := PySem.W.Hook.obs (PySem.W.kmHook K91.heapK K91.heapA (fun _ => by kernel_rfl) [])) (Ya := PySem.W.Hook.val (PySem.W.kmHook K91.heapK K91.heapA (fun _ => by kernel_rfl) []))
    (YP := PySem.W.Hook.says (PySem.W.kmHook K91.heapK K91.heapA (fun _ => by kernel_rfl) [])) (N := 4818) (PySem.W.LeftO.of_split "special-get-raises" fun w => K91.both4 (K91.leftA0 w) (K91.leftB0 w) (K91.leftA1 w) (K91.leftB1 w)) (PySem.W.Hook.of _) (PySem.W.Hook.keeps _)
    (fun s e => PySem.W.xl_of s (Bool.and_eq_true_iff.mp e).1) PySem.W.XL.keeps
    (by rfl) (by rfl) (by rfl)
    (fun s e => PySem.W.recFacts_of (Bool.and_eq_true_iff.mp e).2) rfl (by assumption) (by decide +kernel)
    ⟨rfl, rfl, rfl, rfl, rfl, by decide +kernel⟩ ?hw ?hc
  (case hw => w_witness2)
  k_fill
  refine Lm.walk_ofT (l := PySem.Challenge.rw_copykin_k91_rows_of_a_desk) (n := 63) (k := 18) (x := "_law_script") (CX := L2.CX0) (sp := fun K => fun vs H Q _ => K91.spLaw91 K vs H Q L2.E0) (tabs := []) rfl (by decide) rfl ⟨rfl, by decide, by decide⟩ (fun w h Y => PySem.W.km_in_of Y) ?T ?F (fun K H a ns hl ht hS => ⟨a, ns, rfl, hS, hl, fun _ => rfl⟩) (fun _ _ _ _ z => z)
  case T =>
    intro w s₀ mg mb h G Y p hp
    exact nomatch hp
  case F =>
    intro w mg fa h KX G hmg
    refine' K91.all_mk (tp := fun i => [367, 370, 372, 375, 377, 378, 379, 380, 381, 382, 383, 384].getD i 0) KX G hmg ?v1 ?v2 ?v3 ?v4 ?v5 ?v6 ?v7 ?v8 ?v9 ?v10 ?v11 ?v12 ?v13 ?xc ?m ?oc ?k1 ?kv ?o0 ?o1 ?o2 ?o3 ?o4 ?lF ?lP ?ti ?bl ?h12 ?h13 ?h14 ?h15 ?h18 ?h22 ?h23 ?h24 ?h25 ?h27 ?h28 ?h29 ?h30 ?h31 ?h32 ?h33 ?h34 ?h35
    (case v1 => k_is); (case v2 => k_is); (case v3 => k_is); (case v4 => k_is); (case v5 => k_is); (case v6 => k_is); (case v7 => k_is); (case v8 => k_is); (case v9 => k_is); (case v10 => k_is); (case v11 => k_is); (case v12 => k_is); (case v13 => k_is)
    (case xc => refine' ⟨?x1, ?x2⟩; (case x1 => k_is); (case x2 => k_exc))
    (case m => kts_exm)
    (case oc => refine' K91.excOk_mk ?xa ?xb ?xcc ?xd ?xe ?xf ?xg ?xh; (case xa => k_is); (case xb => k_is); (case xcc => k_is); (case xd => k_is); (case xe => k_is); (case xf => k_is); (case xg => k_is); (case xh => k_is))
    (case k1 => kit_is); (case kv => kit_is); (case o0 => kit_is); (case o1 => kit_is); (case o2 => kit_is); (case o3 => kit_is); (case o4 => kit_is)
    (case lF => k_is); (case lP => k_is)
    (case ti =>
      intro x hx
      simp only [K91.l3, List.mem_cons, List.not_mem_nil, or_false] at hx
      rcases hx with rfl | rfl | rfl | rfl | rfl | rfl | rfl | rfl | rfl | rfl | rfl | rfl
      · refine' ⟨⟨.type "tuple", none, .seq #[.str "NAME" 368, .str "READINGS" 369] 0, #[]⟩, _, _, ?_, rfl, rfl, by decide, (.cons ⟨368, rfl⟩ (.cons ⟨369, rfl⟩ .nil))⟩; k_is
      · refine' ⟨⟨.type "tuple", none, .seq #[.str "NAME" 371] 0, #[]⟩, _, _, ?_, rfl, rfl, by decide, (.cons ⟨371, rfl⟩ .nil)⟩; k_is
      · refine' ⟨⟨.type "tuple", none, .seq #[.str "PLACE" 373, .str "READING" 374] 0, #[]⟩, _, _, ?_, rfl, rfl, by decide, (.cons ⟨373, rfl⟩ (.cons ⟨374, rfl⟩ .nil))⟩; k_is
      · refine' ⟨⟨.type "tuple", none, .seq #[.str "PLACE" 376] 0, #[]⟩, _, _, ?_, rfl, rfl, by decide, (.cons ⟨376, rfl⟩ .nil)⟩; k_is
      · refine' ⟨⟨.type "tuple", none, .seq #[] 0, #[]⟩, _, _, ?_, rfl, rfl, by decide, .nil⟩; k_is
      · refine' ⟨⟨.type "tuple", none, .seq #[] 0, #[]⟩, _, _, ?_, rfl, rfl, by decide, .nil⟩; k_is
      · refine' ⟨⟨.type "tuple", none, .seq #[] 0, #[]⟩, _, _, ?_, rfl, rfl, by decide, .nil⟩; k_is
      · refine' ⟨⟨.type "tuple", none, .seq #[] 0, #[]⟩, _, _, ?_, rfl, rfl, by decide, .nil⟩; k_is
      · refine' ⟨⟨.type "tuple", none, .seq #[] 0, #[]⟩, _, _, ?_, rfl, rfl, by decide, .nil⟩; k_is
      · refine' ⟨⟨.type "tuple", none, .seq #[] 0, #[]⟩, _, _, ?_, rfl, rfl, by decide, .nil⟩; k_is
      · refine' ⟨⟨.type "tuple", none, .seq #[] 0, #[]⟩, _, _, ?_, rfl, rfl, by decide, .nil⟩; k_is
      · refine' ⟨⟨.type "tuple", none, .seq #[.str "NAME" 385] 0, #[]⟩, _, _, ?_, rfl, rfl, by decide, (.cons ⟨385, rfl⟩ .nil)⟩; k_is)
    (case bl =>
      intro x hx
      simp only [R.bltNames, List.mem_cons, List.not_mem_nil, or_false] at hx
      rcases hx with rfl | rfl | rfl | rfl | rfl | rfl | rfl | rfl | rfl | rfl | rfl | rfl | rfl | rfl | rfl | rfl | rfl | rfl | rfl <;> k_is)
    (case h12 => refine' R.hasFn_mk ?a ?l ?c ?k; (case a => k_is); (case l => k_is); (case c => k_is); (case k => k_is))
    (case h13 => refine' R.hasFn_mk ?a ?l ?c ?k; (case a => k_is); (case l => k_is); (case c => k_is); (case k => k_is))
    (case h14 => refine' R.hasFn_mk ?a ?l ?c ?k; (case a => k_is); (case l => k_is); (case c => k_is); (case k => k_is))
    (case h15 => refine' R.hasFn_mk ?a ?l ?c ?k; (case a => k_is); (case l => k_is); (case c => k_is); (case k => k_is))
    (case h18 => refine' R.hasFn_mk ?a ?l ?c ?k; (case a => k_is); (case l => k_is); (case c => k_is); (case k => k_is))
    (case h22 => refine' R.hasFn_mk ?a ?l ?c ?k; (case a => k_is); (case l => k_is); (case c => k_is); (case k => k_is))
    (case h23 => refine' R.hasFn_mk ?a ?l ?c ?k; (case a => k_is); (case l => k_is); (case c => k_is); (case k => k_is))
    (case h24 => refine' R.hasFn_mk ?a ?l ?c ?k; (case a => k_is); (case l => k_is); (case c => k_is); (case k => k_is))
    (case h25 => refine' R.hasFn_mk ?a ?l ?c ?k; (case a => k_is); (case l => k_is); (case c => k_is); (case k => k_is))
    (case h27 => refine' R.hasFn_mk ?a ?l ?c ?k; (case a => k_is); (case l => k_is); (case c => k_is); (case k => k_is))
    (case h28 => refine' R.hasFn_mk ?a ?l ?c ?k; (case a => k_is); (case l => k_is); (case c => k_is); (case k => k_is))
    (case h29 => refine' R.hasFn_mk ?a ?l ?c ?k; (case a => k_is); (case l => k_is); (case c => k_is); (case k => k_is))
    (case h30 => refine' R.hasFn_mk ?a ?l ?c ?k; (case a => k_is); (case l => k_is); (case c => k_is); (case k => k_is))
    (case h31 => refine' R.hasFn_mk ?a ?l ?c ?k; (case a => k_is); (case l => k_is); (case c => k_is); (case k => k_is))
    (case h32 => refine' R.hasFn_mk ?a ?l ?c ?k; (case a => k_is); (case l => k_is); (case c => k_is); (case k => k_is))
    (case h33 => refine' R.hasFn_mk ?a ?l ?c ?k; (case a => k_is); (case l => k_is); (case c => k_is); (case k => k_is))
    (case h34 => refine' R.hasFn_mk ?a ?l ?c ?k; (case a => k_is); (case l => k_is); (case c => k_is); (case k => k_is))
    (case h35 => refine' R.hasFn_mk ?a ?l ?c ?k; (case a => k_is); (case l => k_is); (case c => k_is); (case k => k_is))
#print axioms PySem.Challenge.cw_copykin_k91_rows_of_a_desk_holds
