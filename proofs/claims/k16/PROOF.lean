import PyProof.Rows.All
import Wide.All
import OpenK.AllK
import Wide.FinOn
import Lean
import PyProof.EqAt
import PyProof.EqKinds
import PyProof.TupleCall
import KE.KIntText
import PyProof.NeKinds
import KE.KDictList
import PyProof.Rows.SetFrom
import PyProof.WalksMore
import PyProof.AttrMissHeap
import PyProof.EnumFor
import PyProof.EnumMake
import PyProof.EnumStmt
import PyProof.LayNew
import PyProof.ZipIter
import PyProof.Draws
import PyProof.Rows.StrNews
import PyProof.ReprRoads
import PyProof.ReprLen
import PyProof.StrLawsRepr
import PyProof.StrLawsTight
import PyProof.StrLawsChain
import PyProof.Rows.StrSplitAre
import PyProof.Rows.Range3
import PyProof.ListTruth
import PyProof.WalkInts
import PyProof.Rows.StrPartPair
import PyProof.Rows.StrJoin2
import PyProof.Rows.StrNews2
import PyProof.Rows.StrLawsPart
import PyProof.Rows.StrFirst
import PyProof.Rows.SortWalk
import PyProof.Rows.SortStr
import PyProof.CollectWalk
import PyProof.DictIter
import PyProof.SetKind
import PyProof.SetRoads
import PyProof.DictWalks
import PyProof.ForAny
import PyProof.MakeMany
import PyProof.FactsAll.set
import PyProof.FString5
import PyProof.FactsAll.dict
import PyProof.Rows.SortShellK
import PySem.Challenge.RW_planstore_k16_how_many_dealings
def PySem.W.Fast.tw10376180614001057974 : Nat := 0
def PySem.W.Fast.tw10509840847958563660 : Nat := 0
def PySem.W.Fast.tw11259186832525228446 : Nat := 0
def PySem.W.Fast.tw11284537920216828352 : Nat := 0
def PySem.W.Fast.tw11299233632260098368 : Nat := 0
def PySem.W.Fast.tw12740519223889054384 : Nat := 0
def PySem.W.Fast.tw12764757564268996831 : Nat := 0
def PySem.W.Fast.tw12862417568005552981 : Nat := 0
def PySem.W.Fast.tw12940086921932496443 : Nat := 0
def PySem.W.Fast.tw13988899632991912489 : Nat := 0
def PySem.W.Fast.tw14681008671963863802 : Nat := 0
def PySem.W.Fast.tw15496770935984564728 : Nat := 0
def PySem.W.Fast.tw15884828255024068598 : Nat := 0
def PySem.W.Fast.tw16015147087110100833 : Nat := 0
def PySem.W.Fast.tw16358703471157514544 : Nat := 0
def PySem.W.Fast.tw16378474193645058946 : Nat := 0
def PySem.W.Fast.tw16527322729064477074 : Nat := 0
def PySem.W.Fast.tw16547902922036842558 : Nat := 0
def PySem.W.Fast.tw17068545527629607815 : Nat := 0
def PySem.W.Fast.tw17691945210762126741 : Nat := 0
def PySem.W.Fast.tw17924418648338431217 : Nat := 0
def PySem.W.Fast.tw18397561401219491030 : Nat := 0
def PySem.W.Fast.tw2104854611410448620 : Nat := 0
def PySem.W.Fast.tw254797208356952341 : Nat := 0
def PySem.W.Fast.tw2936689315737489353 : Nat := 0
def PySem.W.Fast.tw3574550694294703342 : Nat := 0
def PySem.W.Fast.tw3710051921361729408 : Nat := 0
def PySem.W.Fast.tw4065981419195770850 : Nat := 0
def PySem.W.Fast.tw4311917775110499276 : Nat := 0
def PySem.W.Fast.tw4803966274895708401 : Nat := 0
def PySem.W.Fast.tw5475387564507674938 : Nat := 0
def PySem.W.Fast.tw5619195782756437241 : Nat := 0
def PySem.W.Fast.tw638296836457272291 : Nat := 0
def PySem.W.Fast.tw7339290278619288158 : Nat := 0
def PySem.W.Fast.tw8022388628193909584 : Nat := 0
def PySem.W.Fast.tw8309832597339152670 : Nat := 0
def PySem.W.Fast.tw8466531736295214360 : Nat := 0
def PySem.W.Fast.tw8894449170548093634 : Nat := 0
def PySem.W.Fast.tw9074000799875453731 : Nat := 0
def PySem.W.Fast.tw9850790307441771927 : Nat := 0
def PySem.W.Fast.tw17554773667093116921 : Nat := 0
set_option Elab.async false
set_option linter.all false
set_option maxRecDepth 100000
namespace L2
open PySem PySem.Spec PyProof.Rows
abbrev Key := Sum Int Str
def keyIs : Key → Value → Bool
 | .inl k, v => Value.isInt k v
 | .inr x, v => Value.isStrOf x v
def keyH (w : World) : Key → Int
 | .inl k => hashInt k
 | .inr x => hashStr w x
theorem keyIs_shape : ∀ {k : Key} {v : Value}, keyIs k v = true → (∃ i t, k = Sum.inl i ∧ v = Value.int i t) ∨ (∃ x t, k = Sum.inr x ∧ v = Value.str x t)
 | .inl i, v, h => by
  obtain ⟨t, e⟩ := Value.isInt_shape (k := i) (v := v) h
  exact .inl ⟨i, t, rfl, e⟩
 | .inr x, v, h => by
  obtain ⟨t, e⟩ := Value.isStrOf_shape (x := x) (v := v) h
  exact .inr ⟨x, t, rfl, e⟩
theorem keyIs_int (i : Int) (t : Tok) : keyIs (.inl i) (.int i t) = true := by simp [keyIs, Value.isInt]
theorem keyIs_str (x : Str) (t : Tok) : keyIs (.inr x) (.str x t) = true := by simp [keyIs, Value.isStrOf]
theorem key_ll (a b : Int) : decide ((Sum.inl a : Key) = Sum.inl b) = (a == b) := by
 by_cases e : a = b
 ·subst e; simp
 ·have h : ¬ (Sum.inl a : Key) = Sum.inl b := fun q => e (Sum.inl.inj q)
  rw [decide_eq_false h]
  exact (beq_eq_false_iff_ne.mpr e).symm
theorem key_rr (a b : Str) : decide ((Sum.inr a : Key) = Sum.inr b) = decide (a = b) := by
 by_cases e : a = b
 ·subst e; simp
 ·have h : ¬ (Sum.inr a : Key) = Sum.inr b := fun q => e (Sum.inr.inj q)
  rw [decide_eq_false h, decide_eq_false e]
theorem key_lr (a : Int) (b : Str) : decide ((Sum.inl a : Key) = Sum.inr b) = false := decide_eq_false (fun q => nomatch q)
theorem key_rl (a : Str) (b : Int) : decide ((Sum.inr a : Key) = Sum.inl b) = false := decide_eq_false (fun q => nomatch q)
def mixKind (prog : Program) (w : World) : PySem.KeyKind prog w Key where
 is := keyIs
 hash := keyH w
 inj := fun v a b ha hb => by
  rcases keyIs_shape ha with ⟨i, t, rfl, rfl⟩ | ⟨x, t, rfl, rfl⟩
  ·rcases keyIs_shape hb with ⟨j, u, rfl, e⟩ | ⟨y, u, rfl, e⟩
   ·injection e with e1 _; rw [e1]
   ·exact nomatch e
  ·rcases keyIs_shape hb with ⟨j, u, rfl, e⟩ | ⟨y, u, rfl, e⟩
   ·exact nomatch e
   ·injection e with e1 _; rw [e1]
 byValue := fun k v h => by
  rcases keyIs_shape h with ⟨i, t, rfl, rfl⟩ | ⟨x, t, rfl, rfl⟩ <;> rfl
 pyHash := fun hv h => by
  rcases keyIs_shape hv with ⟨i, t, rfl, rfl⟩ | ⟨x, t, rfl, rfl⟩
  ·exact wpAny_pyHash_int h
  ·exact wpAny_pyHash_str h
 eqBool := fun hu hv h => by
  rcases keyIs_shape hu with ⟨i, t, rfl, rfl⟩ | ⟨x, t, rfl, rfl⟩
  ·rcases keyIs_shape hv with ⟨j, u, rfl, rfl⟩ | ⟨y, u, rfl, rfl⟩
   ·rw [key_ll] at h; exact wpAny_eqBool_int h
   ·rw [key_lr] at h; exact SeqAt.EqAt.int_str i t y u _ _ _ _ h
  ·rcases keyIs_shape hv with ⟨j, u, rfl, rfl⟩ | ⟨y, u, rfl, rfl⟩
   ·rw [key_rl] at h; exact SeqAt.EqAt.str_int x t j u _ _ _ _ h
   ·rw [key_rr] at h; exact wpAny_eqBool_str h
 «strs» := fun k x t v h => by
  rcases keyIs_shape h with ⟨i, u, rfl, e⟩ | ⟨y, u, rfl, e⟩
  ·exact nomatch e
  ·injection e with e1 _
   subst e1
   cases v <;> rfl
theorem mixKind_int (prog : Program) (w : World) (i : Int) (t : Tok) : (mixKind prog w).is (.inl i) (.int i t) = true := keyIs_int i t
theorem mixKind_str (prog : Program) (w : World) (x : Str) (t : Tok) : (mixKind prog w).is (.inr x) (.str x t) = true := keyIs_str x t
end L2
namespace L2
open PySem PySem.Spec PyProof.Rows
inductive V where
 | non | bl (b : Bool) | int (i : Int) | str (x : Str) | byt (b : Array UInt8) | flt (b : UInt64) | ref (a : Addr) | ty (n : String)
 deriving DecidableEq
def RelV : V → Value → Prop
 | .non, u => u = Value.none
 | .bl b, u => u = Value.bool b
 | .int i, u => ∃ t, u = Value.int i t
 | .str x, u => ∃ t, u = Value.str x t
 | .byt b, u => ∃ t, u = Value.bytes b t
 | .flt b, u => ∃ t, u = Value.float b t
 | .ref a, u => u = Value.ref a
 | .ty n, u => u = Value.type n
abbrev Vals : List V → List Value → Prop := Paired RelV
theorem Vals.length {xs : List V} {us : List Value} (r : Vals xs us) : xs.length = us.length := Paired.length r
theorem Vals.get : ∀ {xs : List V} {us : List Value} {i : Nat} {x : V}, Vals xs us → xs[i]? = some x → ∃ u, us[i]? = some u ∧ RelV x u
 | _, _, _, _, .nil, e => by simp at e
 | _, _, 0, _, .cons r _, e => by simp at e; subst e; exact ⟨_, rfl, r⟩
 | _, _, i + 1, x, .cons _ t, e => by
  obtain ⟨u, h1, h2⟩ := Vals.get (i := i) (x := x) t (by simpa using e)
  exact ⟨u, by simpa using h1, h2⟩
theorem Vals.append : ∀ {xs ys : List V} {us ws : List Value}, Vals xs us → Vals ys ws → Vals (xs ++ ys) (us ++ ws)
 | _, _, _, _, .nil, s => s
 | _, _, _, _, .cons r t, s => .cons r (Vals.append t s)
theorem Vals.take : ∀ {xs : List V} {us : List Value} (n : Nat), Vals xs us → Vals (xs.take n) (us.take n)
 | _, _, 0, _ => .nil
 | _, _, _ + 1, .nil => .nil
 | _, _, n + 1, .cons r t => .cons r (Vals.take n t)
theorem Vals.drop : ∀ {xs : List V} {us : List Value} (n : Nat), Vals xs us → Vals (xs.drop n) (us.drop n)
 | _, _, 0, r => r
 | _, _, _ + 1, .nil => .nil
 | _, _, n + 1, .cons _ t => Vals.drop n t
def RelO : Option V → Option Value → Prop
 | some v, some u => RelV v u
 | none, none => True
 | _, _ => False
def KV {κ : Type} : List (κ × V) → List (κ × Value) → Prop := Paired fun (p : κ × V) (q : κ × Value) => p.1 = q.1 ∧ RelV p.2 q.2
def kV : Key → V
 | .inl i => .int i
 | .inr x => .str x
inductive HO where
 | lst (xs : List V)
 | tup (xs : List V)
 | dK (kvs : List (Key × V)) | dT (kvs : List (List Key × V))
 | set (S : Int → Bool) (n : Nat)
 | ins (C dx : Addr) (fs : List (Str × V))
 | own (x : Addr)
 | xd (fs : List (Str × V))
 | met (f x : Addr)
 | rng (lo hi : Int)
 | frz (o : Obj) (u : HO)
 | tbl (ps : Array Value)
 | ext (φ : Heap → Prop)
abbrev Hp := Addr → Option HO
def upd (H : Hp) (a : Addr) (o : HO) : Hp := fun b => if b = a then some o else H b
theorem upd_same {H : Hp} {a : Addr} {o : HO} : upd H a o a = some o := by unfold upd; rw [if_pos rfl]
theorem upd_ne {H : Hp} {a b : Addr} {o : HO} (h : b ≠ a) : upd H a o b = H b := by unfold upd; rw [if_neg h]
theorem upd_upd {H : Hp} {a : Addr} {o u : HO} : upd (upd H a o) a u = upd H a u := by
 funext b; unfold upd; split <;> rfl
theorem ne_of {H : Hp} {a b : Addr} {o u : HO} (h : H a = some o) (h' : H b = some u) (d : o ≠ u) : a ≠ b := by
 intro e; subst e; rw [h] at h'; exact d (Option.some.inj h')
theorem ne_of_none {H : Hp} {a b : Addr} {o : HO} (h : H a = some o) (h' : H b = none) : a ≠ b := by
 intro e; subst e; rw [h] at h'; cases h'
section
variable (P : Program) (w : World)
def ObjOk (H : Hp) (h : Heap) (a : Addr) : HO → Prop
 | .lst xs => xs.length ≤ sizeLine ∧ ∃ (its : List Value) (n : Nat), Vals xs its ∧ h.get? a = some { cls := .type "list", data := .seq its.toArray n }
 | .tup xs => xs.length ≤ sizeLine ∧ ∃ its : List Value, Vals xs its ∧ IsTup h a its.toArray
 | .dK kvs => kvs.length ≤ sizeLine ∧ (a == sysModules) = false ∧ ∃ vs, KV kvs vs ∧ h.DictOf (mixKind P w) a vs
 | .dT kvs => kvs.length ≤ sizeLine ∧ (a == sysModules) = false ∧ ∃ xs : List (List Key × Addr × Value),
   Paired (fun (p : List Key × V) (q : List Key × Addr × Value) => p.1 = q.1 ∧ H q.2.1 = some (.tup (p.1.map kV)) ∧ RelV p.2 q.2.2) kvs xs ∧
   ∃ o es ep, h.get? a = some o ∧ o.ExactDict ∧ o.data = .dict es ep ∧ es.toList = xs.map (entryOfKey (tupleKind (mixKind P w))) ∧ (xs.map (·.1)).Nodup
 | .set S n => h.SetOf (intKind P w) a S n
 | .ins C dx fs => H dx = some (.own a) ∧ fs.length ≤ 1000 ∧ dx ≠ a ∧ h.get? a = some (PySem.W.instObj C dx) ∧
   ∃ mA, h.Ns1 dx mA ∧ (∀ f, RelO (fs.lookup f) (mA f)) ∧ PySem.Within mA (fs.map (·.1))
 | .own _ => ∃ o, h.get? a = some o
 | .xd fs => ∃ mA, h.Ns1 a mA ∧ ∀ f, RelO (fs.lookup f) (mA f)
 | .rng lo hi => ∃ t u v, h.get? a = some { cls := .type "range", data := .fields #[.int lo t, .int hi u, .int 1 v] }
 | .frz o u => h.get? a = some o ∧ ObjOk H h a u
 | .tbl ps => h.get? a = some { cls := .none, data := .fields ps }
 | .met f x => h.get? a = some (PySem.W.methodObj (.ref f) (.ref x))
 | .ext φ => φ h ∧ (∃ o, h.get? a = some o) ∧ ∀ h1 h2 : Heap, φ h1 → (∀ o, h1.get? a = some o → h2.get? a = some o) → φ h2
def HOk (H : Hp) (h : Heap) : Prop := ∀ a o, H a = some o → ObjOk P w H h a o
end
section
variable {P : Program} {w : World} {H H' : Hp} {h h' : Heap} {a : Addr} {o : HO}
theorem ObjOk.lt (x : ObjOk P w H h a o) : a < h.objs.size := by
 cases o with
 | lst xs => obtain ⟨_, _, _, _, e⟩ := x; exact Heap.lt_size e
 | tup xs => obtain ⟨_, _, _, p⟩ := x; exact p.lt
 | dK kvs => obtain ⟨_, _, _, _, o, _, _, e, _⟩ := x; exact Heap.lt_size e
 | dT kvs => obtain ⟨_, _, _, _, o, _, _, e, _⟩ := x; exact Heap.lt_size e
 | set S n => obtain ⟨o, _, _, _, e, _⟩ := x; exact Heap.lt_size e
 | ins C dx fs => obtain ⟨_, _, _, e, _⟩ := x; exact Heap.lt_size e
 | own y => obtain ⟨_, e⟩ := x; exact Heap.lt_size e
 | xd fs => obtain ⟨_, ⟨_, _, _, e, _⟩, _⟩ := x; exact Heap.lt_size e
 | rng lo hi => obtain ⟨_, _, _, e⟩ := x; exact Heap.lt_size e
 | frz ob u => obtain ⟨e, _⟩ := x; exact Heap.lt_size e
 | tbl ps => exact Heap.lt_size (show h.get? a = some _ from x)
 | met f y => exact Heap.lt_size (show h.get? a = some _ from x)
 | ext φ => obtain ⟨_, ⟨_, e⟩, _⟩ := x; exact Heap.lt_size e
theorem Paired.mapP {α β : Type} {F G : α → β → Prop} : ∀ {l₁ : List α} {l₂ : List β}, Paired F l₁ l₂ → (∀ a b, F a b → G a b) → Paired G l₁ l₂ := by
 intro l m h f
 induction h with
 | nil => exact .nil
 | cons r t ih => exact .cons (f _ _ r) ih
theorem ObjOk.stay (x : ObjOk P w H h a o) (k : ∀ b u, (b = a ∨ H b = some (.own a)) → h.get? b = some u → h'.get? b = some u)
  (ho : ∀ b, H b = some (.own a) → H' b = some (.own a)) (ht : ∀ b xs, H b = some (.tup xs) → H' b = some (.tup xs)) : ObjOk P w H' h' a o := by
 induction o with
 | lst xs => obtain ⟨z, its, n, r, e⟩ := x; exact ⟨z, its, n, r, k _ _ (.inl rfl) e⟩
 | tup xs => obtain ⟨z, its, r, ob, e, c⟩ := x; exact ⟨z, its, r, ob, k _ _ (.inl rfl) e, c⟩
 | dK kvs => obtain ⟨z, y, vs, r, ob, es, ep, e, c⟩ := x; exact ⟨z, y, vs, r, ob, es, ep, k _ _ (.inl rfl) e, c⟩
 | dT kvs =>
  obtain ⟨z, y, xs, r, ob, es, ep, e, c⟩ := x
  exact ⟨z, y, xs, Paired.mapP r fun p q z => ⟨z.1, ht _ _ z.2.1, z.2.2⟩, ob, es, ep, k _ _ (.inl rfl) e, c⟩
 | set S n => obtain ⟨ob, es, ep, t, e, c⟩ := x; exact ⟨ob, es, ep, t, k _ _ (.inl rfl) e, c⟩
 | ins C dx fs =>
  obtain ⟨d, z, ne, e, mA, ⟨od, es, ep, e2, c⟩, r⟩ := x
  exact ⟨ho _ d, z, ne, k _ _ (.inl rfl) e, mA, ⟨od, es, ep, k _ _ (.inr d) e2, c⟩, r⟩
 | own y => obtain ⟨ob, e⟩ := x; exact ⟨ob, k _ _ (.inl rfl) e⟩
 | xd fs => obtain ⟨mA, ⟨od, es, ep, e, c⟩, r⟩ := x; exact ⟨mA, ⟨od, es, ep, k _ _ (.inl rfl) e, c⟩, r⟩
 | rng lo hi => obtain ⟨t, u, v, e⟩ := x; exact ⟨t, u, v, k _ _ (.inl rfl) e⟩
 | frz ob u ih => obtain ⟨e, q⟩ := x; exact ⟨k _ _ (.inl rfl) e, ih q⟩
 | tbl ps =>
  have e : h.get? a = some { cls := .none, data := .fields ps } := x
  show h'.get? a = some { cls := .none, data := .fields ps }
  exact k a _ (.inl rfl) e
 | met f y =>
  have e : h.get? a = some (PySem.W.methodObj (.ref f) (.ref y)) := x
  show h'.get? a = some (PySem.W.methodObj (.ref f) (.ref y))
  exact k a _ (.inl rfl) e
 | ext φ => obtain ⟨p, ⟨o, e⟩, st⟩ := x; exact ⟨st _ _ p fun o q => k _ _ (.inl rfl) q, ⟨o, k _ _ (.inl rfl) e⟩, st⟩
theorem HOk.lt (x : HOk P w H h) (e : H a = some o) : a < h.objs.size := (x a o e).lt
theorem HOk.fresh (x : HOk P w H h) (e : h.objs.size ≤ a) : H a = none := by
 cases q : H a with
 | none => rfl
 | some u => exact absurd (Nat.lt_of_lt_of_le (x.lt q) e) (Nat.lt_irrefl _)
theorem HOk.kept (x : HOk P w H h) (k : ∀ b u, h.get? b = some u → h'.get? b = some u) : HOk P w H h' := fun a o e =>
 (x a o e).stay (fun b u _ q => k b u q) (fun _ q => q) fun _ _ q => q
theorem HOk.laid (x : HOk P w H h) (k : ∀ b u, h.get? b = some u → h'.get? b = some u) (hp : h.objs.size ≤ a) (new : ObjOk P w (upd H a o) h' a o) : HOk P w (upd H a o) h' := fun b u e => by
 have hn := x.fresh hp
 by_cases hb : b = a
 ·subst hb; rw [upd_same] at e; cases e; exact new
 ·rw [upd_ne hb] at e
  exact (x b u e).stay (fun c v _ q => k c v q) (fun c q => by rw [upd_ne (ne_of_none q hn)]; exact q) fun c xs q => by rw [upd_ne (ne_of_none q hn)]; exact q
end
def Rd (H : Hp) (a : Addr) (u : HO) : Prop := H a = some u ∨ ∃ o, H a = some (.frz o u)
theorem Rd.ok {P : Program} {w : World} {H : Hp} {h : Heap} {a : Addr} {u : HO} (r : Rd H a u) (x : HOk P w H h) : ObjOk P w H h a u := by
 rcases r with r | ⟨o, r⟩
 ·exact x a u r
 ·obtain ⟨_, q⟩ := x a _ r
  exact q
def Mut : Option HO → Prop
 | some (.lst _) => True
 | some (.dK _) => True
 | some (.dT _) => True
 | some (.set _ _) => True
 | some (.ins _ _ _) => True
 | some (.ext _) => True
 | _ => False
section
variable {P : Program} {w : World} {H : Hp} {h h' : Heap} {x e : Addr} {o' : HO}
theorem HOk.write (ok : HOk P w H h) (mu : Mut (H x)) (he : e = x ∨ H e = some (.own x)) (k : ∀ b u, b ≠ e → h.get? b = some u → h'.get? b = some u) (heo : ∃ u, h'.get? e = some u)
  (new : ObjOk P w (upd H x o') h' x o') : HOk P w (upd H x o') h' := fun b u q => by
 have nown : ∀ c y, H c = some (.own y) → c ≠ x := fun c y r z => by subst z; rw [r] at mu; exact mu
 have ntup : ∀ c xs, H c = some (.tup xs) → c ≠ x := fun c xs r z => by subst z; rw [r] at mu; exact mu
 by_cases hb : b = x
 ·subst hb; rw [upd_same] at q; cases q; exact new
 ·rw [upd_ne hb] at q
  by_cases hbe : b = e
  ·have q' : H b = some (.own x) := by
    rcases he with z | z
    ·exact absurd (hbe.trans z) hb
    ·rw [hbe]; exact z
   rw [q] at q'; cases q'
   obtain ⟨v, hv⟩ := heo
   exact ⟨v, by rw [hbe]; exact hv⟩
  ·refine (ok b u q).stay (fun c v hc r => k c v ?_ r) (fun c r => by rw [upd_ne (nown c b r)]; exact r) fun c xs r => by rw [upd_ne (ntup c xs r)]; exact r
   rcases hc with rfl | hc
   ·exact hbe
   ·rintro rfl
    rcases he with z | z
    ·exact nown c b hc z
    ·rw [hc] at z; cases z; exact hb rfl
end
structure Un (fs ex : List Addr) (H H' : Hp) (h h' : Heap) : Prop where
 keep : ∀ b o, h.get? b = some o → H b = none → b ∉ fs → b ∉ ex → h'.get? b = some o
 slot : ∀ b o, h.get? b = some o → H b = none → b ∈ fs → b ∉ ex → ∃ sl, h'.get? b = some { o with slots := sl }
 free : ∀ b o, h.get? b = some o → H b = none → b ∉ ex → H' b = none
 there : ∀ b o, h.get? b = some o → b ∉ ex → ∃ o', h'.get? b = some o'
 tups : ∀ b xs, H b = some (.tup xs) → H' b = some (.tup xs)
 frzs : ∀ b o u, H b = some (.frz o u) → H' b = some (.frz o u)
 tbls : ∀ b ps, H b = some (.tbl ps) → ∃ more, H' b = some (.tbl (ps ++ more))
section
variable {fs fs' ex ex' : List Addr} {H H1 H2 : Hp} {h h1 h2 h' : Heap} {a x e : Addr} {o : HO}
theorem Un.any (u : Un fs ex H H1 h h1) {b : Addr} {ob : Obj} (q : h.get? b = some ob) (n : H b = none) (hx : b ∉ ex) : ∃ sl, h1.get? b = some { ob with slots := sl } := by
 by_cases hb : b ∈ fs
 ·exact u.slot b ob q n hb hx
 ·exact ⟨ob.slots, u.keep b ob q n hb hx⟩
theorem Un.kept (k : ∀ b u, h.get? b = some u → h'.get? b = some u) : Un fs ex H H h h' :=
 ⟨fun b ob q _ _ _ => k b ob q, fun b ob q _ _ _ => ⟨ob.slots, k b ob q⟩, fun _ _ _ n _ => n, fun b ob q _ => ⟨ob, k b ob q⟩, fun _ _ q => q, fun _ _ _ q => q, fun _ ps q => ⟨#[], by rw [q]; simp⟩⟩
theorem Un.refl : Un fs ex H H h h := Un.kept fun _ _ q => q
theorem Un.laid (k : ∀ b u, h.get? b = some u → h'.get? b = some u) (hp : h.objs.size ≤ a) (hn : H a = none) : Un fs ex H (upd H a o) h h' where
 keep := fun b u q _ _ _ => k b u q
 slot := fun b u q _ _ _ => ⟨u.slots, k b u q⟩
 free := fun b u q n _ => by rw [upd_ne (Nat.ne_of_lt (Nat.lt_of_lt_of_le (Heap.lt_size q) hp))]; exact n
 there := fun b u q _ => ⟨u, k b u q⟩
 tups := fun b xs q => by rw [upd_ne (ne_of_none q hn)]; exact q
 frzs := fun b u xs q => by rw [upd_ne (ne_of_none q hn)]; exact q
 tbls := fun b ps q => ⟨#[], by rw [upd_ne (ne_of_none q hn), q]; simp⟩
theorem Un.write (mu : Mut (H x)) (he : e = x ∨ H e = some (.own x)) (k : ∀ b u, b ≠ e → h.get? b = some u → h'.get? b = some u) (heo : ∃ u, h'.get? e = some u) : Un fs ex H (upd H x o) h h' := by
 have hx : ∀ b, H b = none → b ≠ x := fun b n z => by subst z; rw [n] at mu; exact mu
 have hb : ∀ b, H b = none → b ≠ e := fun b n z => by
  subst z
  rcases he with r | r
  ·exact hx b n r
  ·rw [n] at r; cases r
 have hm : ∀ b u, H b = some u → ¬ Mut (some u) → b ≠ x := fun b u q nm z => by subst z; rw [q] at mu; exact nm mu
 refine ⟨fun b u q n _ _ => k b u (hb b n) q, fun b u q n _ _ => ⟨u.slots, k b u (hb b n) q⟩, fun b u q n _ => by rw [upd_ne (hx b n)]; exact n, fun b u q _ => ?_,
  fun b xs q => by rw [upd_ne (hm b _ q fun z => z)]; exact q, fun b u xs q => by rw [upd_ne (hm b _ q fun z => z)]; exact q, fun b ps q => ⟨#[], by rw [upd_ne (hm b _ q fun z => z), q]; simp⟩⟩
 by_cases hbe : b = e
 ·subst hbe; exact heo
 ·exact ⟨u, k b u hbe q⟩
end
def trk (h : Heap) (H : Hp) : List Addr := (List.range h.objs.size).filter fun a => (H a).isSome
def hidT (h : Heap) (H : Hp) : Heap := PySem.W.hideAll h (trk h H)
theorem hidT_size (h : Heap) (H : Hp) : (hidT h H).objs.size = h.objs.size := PySem.W.hideAll_size _ _
theorem hidT_get {h : Heap} {H : Hp} {b : Addr} {o : Obj} (e : h.get? b = some o) (n : H b = none) : (hidT h H).get? b = some o :=
 PySem.W.hideAll_get _ e fun hm => by
  have q : (H b).isSome = true := (List.mem_filter.mp hm).2
  rw [n] at q; simp at q
theorem of_hidT {h : Heap} {H : Hp} {b : Addr} {o : Obj} (e : (hidT h H).get? b = some o) : h.get? b = some o ∧ H b = none := by
 have e' : h.get? b = some o := PySem.W.of_hideAll (trk h H) e
 refine ⟨e', ?_⟩
 cases q : H b with
 | none => rfl
 | some x =>
  have hm : b ∈ trk h H := List.mem_filter.mpr ⟨List.mem_range.mpr (Heap.lt_size e'), by simp [q]⟩
  have z : (hidT h H).get? b = none := PySem.W.hideAll_none (trk h H) hm
  rw [z] at e; cases e
end L2
namespace L2
open PySem PySem.Spec PyProof.Rows
structure Mod (K : PySem.W.Frag) (mg : Str → Option Value) (base : Heap) : Prop where
 kin : K.In base
 glob : base.Ns mainGlobals mg
 blt : ∃ mb, base.Ns builtinsNs mb ∧ ∀ x : Str, x ≠ "__name__" → mb x = bootBuiltins x
 nolimit : base.NoLimit
structure Cx where
 prog : Program
 w : World
 K : PySem.W.Frag
 mg : Str → Option Value
 base : Heap
 A : Around
 N : List Str
 s₀ : Shared
 H₀ : Hp
 env : Env
 outer : List Env
 stack : List Env
 ex : List Addr
 fn : Str → Bool
 calm : Bool
 pn : List (Addr × Obj)
 xe : Value → Shared → Prop
def frs (l : List Env) : List Addr := l.filterMap (·.frame)
abbrev Cx.fs (X : Cx) : List Addr := frs X.outer
def Vis (sc : Scope) (x : Str) : Prop := sc.names.lookup x = some .local ∨ sc.names.lookup x = some .cell ∨ sc.names.lookup x = some .free
def Loc (sc : Scope) (x : Str) : Prop := sc.names.lookup x = some .local ∨ sc.names.lookup x = some .cell
def Look (env : Env) (h : Heap) (m : Str → Option Value) (x : Str) (u : Value) : Prop :=
 (env.kindOf x = some .local ∧ m x = some u) ∨ ((env.kindOf x = some .cell ∨ env.kindOf x = some .free) ∧ ∃ c, env.cells.lookup x = some c ∧ h.IsCell c (some u))
structure Cx.Ok (X : Cx) : Prop where
 mod : Mod X.K X.mg X.base
 kind : X.env.scope.kind = .function
 glob : X.env.globals = mainGlobals
 blt : X.env.builtins = builtinsNs
 above : X.s₀.heap.objs.size ≤ X.env.locals
 inj : ∀ x y c, X.env.cells.lookup x = some c → X.env.cells.lookup y = some c → x = y
 has : ∀ x, (X.env.kindOf x = some .cell ∨ X.env.kindOf x = some .free) → ∃ c, X.env.cells.lookup x = some c
 cab : ∀ x c, X.fn x = true → X.env.cells.lookup x = some c → X.s₀.heap.objs.size ≤ c
 hd : X.calm = true → X.A.handled = none
 frames : X.A.frames = some X.stack
 stk : X.stack = X.outer ∨ (X.stack = X.env :: X.outer ∧ X.env.frame = some X.env.locals)
 exf : ∀ b ∈ X.ex, b ≠ X.env.locals ∧ ∀ x c, X.env.cells.lookup x = some c → c ≠ b
 bs : ∀ b o, X.base.get? b = some o → X.s₀.heap.get? b = some o ∧ X.H₀ b = none
 bsz : X.base.objs.size ≤ X.s₀.heap.objs.size
 noex : ∀ b o, X.base.get? b = some o → b ∉ X.ex
 exfs : ∀ b ∈ X.ex, b ∉ X.fs
 funs : X.s₀.heap.FunFrames X.base X.outer
 frf : ∀ b ∈ X.fs, X.H₀ b = none
structure Inv (X : Cx) (pins : List (Addr × Obj)) (σ : List (Option V)) (H : Hp) (s : Shared) : Prop where
 ok : X.Ok
 os : s.os = X.s₀.os
 bare : AllBare s.gens
 base : Un X.fs X.ex X.H₀ H X.s₀.heap s.heap
 loc : ∃ m, s.heap.Ns X.env.locals m ∧ ∀ (i : Nat) (x : Str) (v : V), X.N[i]? = some x → σ[i]? = some (some v) → Vis X.env.scope x → ∃ u, RelV v u ∧ Look X.env s.heap m x u
 cell : ∀ x c, X.env.cells.lookup x = some c → ∃ v, s.heap.IsCell c v
 free : H X.env.locals = none
 freeC : ∀ x c, X.env.cells.lookup x = some c → H c = none
 pin : ∀ p ∈ X.pn ++ pins, s.heap.get? p.1 = some p.2 ∧ H p.1 = none ∧ p.1 ≠ X.env.locals ∧ p.1 ∉ X.fs ∧ ∀ v, p.2.data ≠ .cell v
 hok : HOk X.prog X.w H s.heap
 len : σ.length = X.N.length
section
variable {X : Cx} {pins : List (Addr × Obj)} {σ : List (Option V)} {H H' : Hp} {s : Shared} {h' : Heap}
theorem Cx.Ok.nofr (ok : X.Ok) {b : Addr} {o : Obj} (e : X.base.get? b = some o) : b ∉ X.fs := fun hb => by
 have := (ok.funs.mem hb).1
 rw [e] at this; cases this
theorem Inv.bs (I : Inv X pins σ H s) : ∀ b o, X.base.get? b = some o → s.heap.get? b = some o ∧ H b = none := fun b o e =>
 ⟨I.base.keep b o (I.ok.bs b o e).1 (I.ok.bs b o e).2 (I.ok.nofr e) (I.ok.noex b o e), I.base.free b o (I.ok.bs b o e).1 (I.ok.bs b o e).2 (I.ok.noex b o e)⟩
theorem Inv.bk (I : Inv X pins σ H s) : ∀ b o, X.base.get? b = some o → s.heap.get? b = some o := fun b o e => (I.bs b o e).1
theorem Inv.mod (I : Inv X pins σ H s) : Mod X.K X.mg X.base := I.ok.mod
theorem Inv.kIn (I : Inv X pins σ H s) : X.K.In s.heap := I.ok.mod.kin.keeps I.bk
theorem Inv.nolimit (I : Inv X pins σ H s) : s.heap.NoLimit := I.ok.mod.nolimit.keeps I.bk
theorem Inv.lt (I : Inv X pins σ H s) : X.env.locals < s.heap.objs.size := by
 obtain ⟨_, hn, _⟩ := I.loc
 exact hn.lt
theorem Inv.sz (I : Inv X pins σ H s) : X.s₀.heap.objs.size ≤ s.heap.objs.size := Nat.le_trans I.ok.above (Nat.le_of_lt I.lt)
theorem Inv.nofs (I : Inv X pins σ H s) {a : Addr} (h : s.heap.objs.size ≤ a) : a ∉ X.fs := fun hb => by
 obtain ⟨_, o, ho, _⟩ := I.ok.funs.mem hb
 exact absurd (Nat.lt_of_lt_of_le (Heap.lt_size ho) (Nat.le_trans I.sz h)) (Nat.lt_irrefl _)
theorem Inv.cne (I : Inv X pins σ H s) : ∀ x c, X.env.cells.lookup x = some c → c ≠ X.env.locals := fun x c e z => by
 obtain ⟨v, o, ho, hd⟩ := I.cell x c e
 obtain ⟨m, ⟨o', es, ep, ho', hd', _⟩, _⟩ := I.loc
 rw [z, ho'] at ho; cases ho; rw [hd'] at hd; cases hd
theorem Inv.funs (I : Inv X pins σ H s) : s.heap.FunFrames X.base X.outer := by
 have all : ∀ (l : List Env), (∀ b ∈ frs l, b ∈ X.fs) → X.s₀.heap.FunFrames X.base l → s.heap.FunFrames X.base l := by
  intro l
  induction l with
  | nil => intro _ _; trivial
  | cons env r ih =>
   intro hs hl
   obtain ⟨hk, ⟨L, o, hf, hn, ho, hd⟩, hr⟩ := hl
   have hL : L ∈ X.fs := hs L (by unfold frs; rw [List.filterMap_cons, hf]; exact List.mem_cons_self)
   obtain ⟨sl, e⟩ := I.base.slot L o ho (I.ok.frf L hL) hL fun z => I.ok.exfs L z hL
   exact ⟨hk, ⟨L, _, hf, hn, e, hd⟩, ih (fun b hb => hs b (by unfold frs; rw [List.filterMap_cons, hf]; exact List.mem_cons_of_mem _ hb)) hr⟩
 exact all X.outer (fun _ hb => hb) I.ok.funs
theorem Inv.stack (I : Inv X pins σ H s) : s.heap.FunFrames X.base X.stack := by
 rcases I.ok.stk with e | ⟨e, hf⟩
 ·rw [e]; exact I.funs
 ·rw [e]
  obtain ⟨m, hn, _⟩ := I.loc
  refine .cons (by rw [I.ok.kind]; decide) hf hn ?_ I.funs
  exact Heap.get?_none_of_le (Nat.le_trans I.ok.bsz I.ok.above)
theorem Inv.stkSub (I : Inv X pins σ H s) : ∀ b ∈ frs X.stack, b ∈ X.env.locals :: X.fs := fun b hb => by
 rcases I.ok.stk with e | ⟨e, hf⟩
 ·rw [e] at hb; exact List.mem_cons_of_mem _ hb
 ·rw [e] at hb
  unfold frs at hb
  rw [List.filterMap_cons, hf] at hb
  exact hb
theorem Inv.stkFree (I : Inv X pins σ H s) : ∀ b ∈ frs X.stack, H b = none := fun b hb => by
 rcases List.mem_cons.mp (I.stkSub b hb) with e | hb
 ·rw [e]; exact I.free
 ·obtain ⟨_, o, ho, _⟩ := I.ok.funs.mem hb
  exact I.base.free b o ho (I.ok.frf b hb) fun z => I.ok.exfs b z hb
theorem Inv.step {g' : Array GenState} {t' : Nat} {d' : Drawn} {ch : List Addr} (I : Inv X pins σ H s)
  (hch : ∀ b ∈ ch, (b ∈ X.ex ∨ X.s₀.heap.objs.size ≤ b) ∧ b ≠ X.env.locals ∧ (∀ x c, X.env.cells.lookup x = some c → c ≠ b) ∧ ∀ p ∈ X.pn ++ pins, p.1 ≠ b)
  (keep : ∀ b o, b ≠ X.env.locals → b ∉ X.fs → b ∉ ch → s.heap.get? b = some o → H b = none → h'.get? b = some o)
  (slot : ∀ b o, b ≠ X.env.locals → b ∈ X.fs → b ∉ ch → s.heap.get? b = some o → H b = none → ∃ sl, h'.get? b = some { o with slots := sl }) (free : ∀ b o, b ∉ ch → s.heap.get? b = some o → H b = none → H' b = none)
  (there : ∀ b o, b ∉ ch → s.heap.get? b = some o → ∃ o', h'.get? b = some o')
  (tups : ∀ b xs, H b = some (.tup xs) → H' b = some (.tup xs)) (frzs : ∀ b o u, H b = some (.frz o u) → H' b = some (.frz o u)) (tbls : ∀ b ps, H b = some (.tbl ps) → ∃ more, H' b = some (.tbl (ps ++ more)))
  (ns : ∀ m, s.heap.Ns X.env.locals m → h'.Ns X.env.locals m) (hok : HOk X.prog X.w H' h') (hg : AllBare g') :
  Inv X pins σ H' { s with heap := h', gens := g', drawn := d', toks := t' } := by
 have neL : ∀ b o, X.s₀.heap.get? b = some o → b ≠ X.env.locals := fun b o e => Nat.ne_of_lt (Nat.lt_of_lt_of_le (Heap.lt_size e) I.ok.above)
 have neC : ∀ b o, X.s₀.heap.get? b = some o → b ∉ X.ex → b ∉ ch := fun b o e hx hb => by
  rcases (hch b hb).1 with z | z
  ·exact hx z
  ·exact absurd (Nat.lt_of_lt_of_le (Heap.lt_size e) z) (Nat.lt_irrefl _)
 have cellK : ∀ x c, X.env.cells.lookup x = some c → ∀ v, s.heap.IsCell c v → h'.IsCell c v := by
  rintro x c e v ⟨o, ho, hd⟩
  have nch : c ∉ ch := fun z => (hch c z).2.2.1 x c e rfl
  by_cases hc : c ∈ X.fs
  ·obtain ⟨sl, q⟩ := slot c o (I.cne x c e) hc nch ho (I.freeC x c e)
   exact ⟨_, q, hd⟩
  ·exact ⟨o, keep c o (I.cne x c e) hc nch ho (I.freeC x c e), hd⟩
 refine ⟨I.ok, I.os, hg, ⟨fun b o e n hb hx => ?_, fun b o e n hb hx => ?_, fun b o e n hx => ?_, fun b o e hx => ?_, fun b xs e => tups b xs (I.base.tups b xs e), fun b o xs e => frzs b o xs (I.base.frzs b o xs e), fun b ps e => ?_⟩, ?_, fun x c e => ?_, ?_, fun x c e => ?_, fun p hp => ?_, hok, I.len⟩
 ·exact keep b o (neL b o e) hb (neC b o e hx) (I.base.keep b o e n hb hx) (I.base.free b o e n hx)
 ·obtain ⟨sl, e1⟩ := I.base.slot b o e n hb hx
  obtain ⟨sl', e2⟩ := slot b _ (neL b o e) hb (neC b o e hx) e1 (I.base.free b o e n hx)
  exact ⟨sl', e2⟩
 ·obtain ⟨o', e1⟩ := I.base.there b o e hx
  exact free b o' (neC b o e hx) e1 (I.base.free b o e n hx)
 ·obtain ⟨o', e1⟩ := I.base.there b o e hx
  exact there b o' (neC b o e hx) e1
 ·obtain ⟨m1, e1⟩ := I.base.tbls b ps e
  obtain ⟨m2, e2⟩ := tbls b _ e1
  exact ⟨m1 ++ m2, by rw [e2, Array.append_assoc]⟩
 ·obtain ⟨m, hn, hl⟩ := I.loc
  refine ⟨m, ns m hn, fun i x v e1 e2 e3 => ?_⟩
  obtain ⟨u, r, l⟩ := hl i x v e1 e2 e3
  refine ⟨u, r, ?_⟩
  rcases l with l | ⟨k, c, e, z⟩
  ·exact .inl l
  ·exact .inr ⟨k, c, e, cellK x c e _ z⟩
 ·obtain ⟨v, z⟩ := I.cell x c e
  exact ⟨v, cellK x c e v z⟩
 ·obtain ⟨m, ⟨o, _, _, ho, _⟩, _⟩ := I.loc
  exact free _ o (fun z => (hch _ z).2.1 rfl) ho I.free
 ·obtain ⟨v, o, ho, hd⟩ := I.cell x c e
  exact free c o (fun z => (hch c z).2.2.1 x c e rfl) ho (I.freeC x c e)
 ·obtain ⟨e, n, ne, nf, d⟩ := I.pin p hp
  have nch : p.1 ∉ ch := fun z => (hch p.1 z).2.2.2 p hp rfl
  exact ⟨keep p.1 p.2 ne nf nch e n, free p.1 p.2 nch e n, ne, nf, d⟩
theorem Inv.un {t' : Nat} (I : Inv X pins σ H s) (u : Un X.fs [] H H' s.heap h') (hok : HOk X.prog X.w H' h') : Inv X pins σ H' { s with heap := h', toks := t' } := by
 obtain ⟨m, ⟨o, es, ep, ho, r⟩, _⟩ := id I.loc
 obtain ⟨sl, hL⟩ := u.any ho I.free (by simp)
 exact I.step (g' := s.gens) (d' := s.drawn) (ch := []) (fun _ z => nomatch z) (fun b o _ hb _ e n => u.keep b o e n hb (by simp)) (fun b o _ hb _ e n => u.slot b o e n hb (by simp)) (fun b o _ e n => u.free b o e n (by simp)) (fun b o _ e => u.there b o e (by simp)) u.tups u.frzs u.tbls (fun m' hm => by
  obtain ⟨o', es', ep', ho', r'⟩ := hm
  rw [ho] at ho'; cases ho'
  exact ⟨_, es', ep', hL, r'⟩) hok I.bare
theorem Inv.call {g' : Array GenState} {t' : Nat} {d' : Drawn} {ch : List Addr} (I : Inv X pins σ H s) (u : Un (frs X.stack) ch H H' s.heap h') (hok : HOk X.prog X.w H' h') (hg : AllBare g')
  (hch : ∀ b ∈ ch, (b ∈ X.ex ∨ X.s₀.heap.objs.size ≤ b) ∧ b ≠ X.env.locals ∧ (∀ x c, X.env.cells.lookup x = some c → c ≠ b) ∧ ∀ p ∈ X.pn ++ pins, p.1 ≠ b) :
  Inv X pins σ H' { s with heap := h', gens := g', drawn := d', toks := t' } := by
 obtain ⟨m, ⟨o, es, ep, ho, r⟩, _⟩ := id I.loc
 obtain ⟨sl, hL⟩ := u.any ho I.free fun z => (hch _ z).2.1 rfl
 exact I.step (ch := ch) hch (fun b o hL hb hc e n => u.keep b o e n (fun z => (List.mem_cons.mp (I.stkSub b z)).elim hL hb) hc) (fun b o _ _ hc e n => u.any e n hc) (fun b o hc e n => u.free b o e n hc) (fun b o hc e => u.there b o e hc) u.tups u.frzs u.tbls (fun m' hm => by
  obtain ⟨o', es', ep', ho', r'⟩ := hm
  rw [ho] at ho'; cases ho'
  exact ⟨_, es', ep', hL, r'⟩) hok hg
theorem Inv.turned {t' : Nat} {it : Addr} (I : Inv X pins σ H s) (k : ∀ b o, b ≠ it → s.heap.get? b = some o → h'.get? b = some o) (hn : H it = none) (hL : it ≠ X.env.locals)
  (h1 : it ∈ X.ex ∨ X.s₀.heap.objs.size ≤ it) (h2 : ∀ x c, X.env.cells.lookup x = some c → c ≠ it) (h3 : ∀ p ∈ X.pn ++ pins, p.1 ≠ it) : Inv X pins σ H { s with heap := h', toks := t' } := by
 have nit : ∀ b u, H b = some u → b ≠ it := fun b u e z => by rw [z, hn] at e; cases e
 refine I.step (g' := s.gens) (d' := s.drawn) (ch := [it]) (fun b hb => ?_) (fun b o _ _ hc e _ => k b o (fun z => hc (by simp [z])) e) (fun b o _ _ hc e _ => ⟨o.slots, k b o (fun z => hc (by simp [z])) e⟩) (fun _ _ _ _ n => n)
  (fun b o hc e => ⟨o, k b o (fun z => hc (by simp [z])) e⟩) (fun _ _ e => e) (fun _ _ _ e => e) (fun b ps e => ⟨#[], by rw [e]; simp⟩) (fun m hm => ?_) (fun b u e => ?_) I.bare
 ·have e : b = it := by simpa using hb
  subst e
  exact ⟨h1, hL, h2, h3⟩
 ·obtain ⟨o, es, ep, ho, r⟩ := hm
  exact ⟨o, es, ep, k _ o (Ne.symm hL) ho, r⟩
 ·refine (I.hok b u e).stay (fun c v hc q => k c v ?_ q) (fun _ q => q) fun _ _ q => q
  rcases hc with z | z
  ·rw [z]; exact nit b u e
  ·exact nit c _ z
theorem Inv.tok (I : Inv X pins σ H s) (t : Nat) : Inv X pins σ H { s with toks := t } := I.un (h' := s.heap) (t' := t) Un.refl I.hok
theorem Inv.kept {t' : Nat} (I : Inv X pins σ H s) (k : ∀ b u, s.heap.get? b = some u → h'.get? b = some u) : Inv X pins σ H { s with heap := h', toks := t' } := I.un (Un.kept k) (I.hok.kept k)
theorem Inv.laid {a : Addr} {o : HO} {t' : Nat} (I : Inv X pins σ H s) (k : ∀ b u, s.heap.get? b = some u → h'.get? b = some u) (hp : s.heap.objs.size ≤ a) (new : ObjOk X.prog X.w (upd H a o) h' a o) :
  Inv X pins σ (upd H a o) { s with heap := h', toks := t' } := I.un (Un.laid k hp (I.hok.fresh hp)) (I.hok.laid k hp new)
theorem Inv.write {x e : Addr} {o : HO} {t' : Nat} (I : Inv X pins σ H s) (mu : Mut (H x)) (he : e = x ∨ H e = some (.own x)) (k : ∀ b u, b ≠ e → s.heap.get? b = some u → h'.get? b = some u) (heo : ∃ u, h'.get? e = some u)
  (new : ObjOk X.prog X.w (upd H x o) h' x o) : Inv X pins σ (upd H x o) { s with heap := h', toks := t' } := I.un (Un.write mu he k heo) (I.hok.write mu he k heo new)
theorem Inv.pins_of {pins' : List (Addr × Obj)} (I : Inv X pins σ H s) (h : ∀ p ∈ pins', s.heap.get? p.1 = some p.2 ∧ H p.1 = none ∧ p.1 ≠ X.env.locals ∧ p.1 ∉ X.fs ∧ ∀ v, p.2.data ≠ .cell v) : Inv X pins' σ H s :=
 ⟨I.ok, I.os, I.bare, I.base, I.loc, I.cell, I.free, I.freeC, fun p hp => (List.mem_append.mp hp).elim (fun z => I.pin p (List.mem_append_left _ z)) (h p), I.hok, I.len⟩
theorem nodup_ix {N : List Str} (hN : N.Nodup) {i j : Nat} {x : Str} (a : N[i]? = some x) (b : N[j]? = some x) : i = j := by
 obtain ⟨h1, e1⟩ := List.getElem?_eq_some_iff.mp a
 obtain ⟨h2, e2⟩ := List.getElem?_eq_some_iff.mp b
 exact (List.getElem_inj hN).mp (e1.trans e2.symm)
theorem store_ok2 {M : Model} {A : Around} {E : Value → Shared → Prop} {i : Nat} {x : Str} {v : V} {u : Value} {Q : Unit → Shared → Prop} (I : Inv X pins σ H s) (hN : X.N.Nodup) (hi : X.N[i]? = some x) (hx : Loc X.env.scope x) (r : RelV v u)
  (h : ∀ s', Inv X pins (σ.set i (some v)) H s' → (∃ a, Heap.SameBut a s.heap s'.heap ∧ (a = X.env.locals ∨ X.env.cells.lookup x = some a)) → Q () s') (hf : X.fn x = true ∨ X.env.scope.names.lookup x = some .local := by first | exact .inl rfl | exact .inr rfl | assumption) : wpAny M A (storeName X.env x u) Q E s := by
 obtain ⟨m, hn, hl⟩ := id I.loc
 have hcls : (X.env.scope.kind == .class || (X.env.scope.kind == .module && X.env.locals != X.env.globals)) = false := by rw [I.ok.kind]; rfl
 have hiσ : i < σ.length := by rw [I.len]; exact (List.getElem?_eq_some_iff.mp hi).1
 have cne := I.cne
 have tracked : ∀ {a : Addr} {h' : Heap}, (∃ o, s.heap.get? a = some o ∧ H a = none) → Heap.SameBut a s.heap h' → HOk X.prog X.w H h' := fun {a h'} ha hs b ob e => by
  obtain ⟨_, _, hfree⟩ := ha
  refine (I.hok b ob e).stay (fun c w' hc q => (hs.2 c ?_).trans q) (fun _ q => q) fun _ _ q => q
  rintro rfl
  rcases hc with rfl | hc
  ·rw [hfree] at e; cases e
  ·rw [hfree] at hc; cases hc
 rcases hx with hk | hk
 ·refine wpAny_storeName_local hk hn (fun h' hn' hs => ?_) hcls
  obtain ⟨oL, _, _, hoL, _⟩ := id hn
  refine h _ ⟨I.ok, I.os, I.bare, ⟨fun b o e n hb hx => ?_, fun b o e n hb hx => ?_, I.base.free, fun b o e hx => ?_, I.base.tups, I.base.frzs, I.base.tbls⟩, ⟨_, hn', fun j y v' e1 e2 e3 => ?_⟩, fun y c e => ?_, I.free, I.freeC, fun p hp => ?_, tracked ⟨oL, hoL, I.free⟩ hs, by simpa using I.len⟩ ⟨_, hs, .inl rfl⟩
  ·exact (hs.2 b (Nat.ne_of_lt (Nat.lt_of_lt_of_le (Heap.lt_size e) I.ok.above))).trans (I.base.keep b o e n hb hx)
  ·obtain ⟨sl, e1⟩ := I.base.slot b o e n hb hx
   exact ⟨sl, (hs.2 b (Nat.ne_of_lt (Nat.lt_of_lt_of_le (Heap.lt_size e) I.ok.above))).trans e1⟩
  ·obtain ⟨o', e1⟩ := I.base.there b o e hx
   exact ⟨o', (hs.2 b (Nat.ne_of_lt (Nat.lt_of_lt_of_le (Heap.lt_size e) I.ok.above))).trans e1⟩
  ·by_cases hj : j = i
   ·subst hj
    rw [hi] at e1; cases e1
    rw [List.getElem?_set_self hiσ] at e2
    cases e2
    exact ⟨u, r, .inl ⟨hk, by simp⟩⟩
   ·rw [List.getElem?_set_ne (Ne.symm hj)] at e2
    obtain ⟨u', r', q⟩ := hl j y v' e1 e2 e3
    refine ⟨u', r', ?_⟩
    rcases q with ⟨k, e⟩ | ⟨k, c, e, z⟩
    ·refine .inl ⟨k, ?_⟩
     have : y ≠ x := fun e => hj (nodup_ix hN e1 (e ▸ hi))
     simp [this, e]
    ·exact .inr ⟨k, c, e, z.sameBut hs (cne y c e)⟩
  ·obtain ⟨w', z⟩ := I.cell y c e
   exact ⟨w', z.sameBut hs (cne y c e)⟩
  ·obtain ⟨e, n, ne, nf, d⟩ := I.pin p hp
   exact ⟨(hs.2 p.1 ne).trans e, n, ne, nf, d⟩
 ·have hfn : X.fn x = true := by
   rcases hf with z | z
   ·exact z
   ·rw [z] at hk; cases hk
  obtain ⟨c, hc⟩ := I.ok.has x (.inl hk)
  obtain ⟨w', z⟩ := I.cell x c hc
  refine wpAny_storeName_cell I.ok.kind hk hc z (fun h' hc' hs => ?_)
  obtain ⟨oc, hoc, hocd⟩ := id z
  refine h { s with heap := h' } ⟨I.ok, I.os, I.bare, ⟨fun b o e n hb hx => ?_, fun b o e n hb hx => ?_, I.base.free, fun b o e hx => ?_, I.base.tups, I.base.frzs, I.base.tbls⟩, ⟨m, hn.sameBut hs (Ne.symm (cne x c hc)), fun j y v' e1 e2 e3 => ?_⟩, fun y c' e => ?_, I.free, I.freeC, fun p hp => ?_, tracked ⟨oc, hoc, I.freeC x c hc⟩ hs, by simpa using I.len⟩ ⟨c, hs, .inr hc⟩
  ·exact (hs.2 b (Nat.ne_of_lt (Nat.lt_of_lt_of_le (Heap.lt_size e) (I.ok.cab x c hfn hc)))).trans (I.base.keep b o e n hb hx)
  ·obtain ⟨sl, e1⟩ := I.base.slot b o e n hb hx
   exact ⟨sl, (hs.2 b (Nat.ne_of_lt (Nat.lt_of_lt_of_le (Heap.lt_size e) (I.ok.cab x c hfn hc)))).trans e1⟩
  ·obtain ⟨o', e1⟩ := I.base.there b o e hx
   exact ⟨o', (hs.2 b (Nat.ne_of_lt (Nat.lt_of_lt_of_le (Heap.lt_size e) (I.ok.cab x c hfn hc)))).trans e1⟩
  ·by_cases hj : j = i
   ·subst hj
    rw [hi] at e1; cases e1
    rw [List.getElem?_set_self hiσ] at e2
    cases e2
    exact ⟨u, r, .inr ⟨.inl hk, c, hc, hc'⟩⟩
   ·rw [List.getElem?_set_ne (Ne.symm hj)] at e2
    obtain ⟨u', r', q⟩ := hl j y v' e1 e2 e3
    refine ⟨u', r', ?_⟩
    rcases q with q | ⟨k, c', e, z'⟩
    ·exact .inl q
    ·refine .inr ⟨k, c', e, z'.sameBut hs ?_⟩
     rintro rfl
     exact hj (nodup_ix hN e1 (I.ok.inj _ _ _ e hc ▸ hi))
  ·by_cases hcc : c' = c
   ·subst hcc; exact ⟨_, hc'⟩
   ·obtain ⟨w2, z2⟩ := I.cell y c' e
    exact ⟨w2, z2.sameBut hs hcc⟩
  ·obtain ⟨e, n, ne, nf, d⟩ := I.pin p hp
   refine ⟨(hs.2 p.1 ?_).trans e, n, ne, nf, d⟩
   intro q
   rw [q, hoc] at e
   have q' : oc = p.2 := Option.some.inj e
   exact d w' (by rw [← q']; exact hocd)
theorem store_ok {M : Model} {A : Around} {E : Value → Shared → Prop} {i : Nat} {x : Str} {v : V} {u : Value} {Q : Unit → Shared → Prop} (I : Inv X pins σ H s) (hN : X.N.Nodup) (hi : X.N[i]? = some x) (hx : Loc X.env.scope x) (r : RelV v u)
  (h : ∀ s', Inv X pins (σ.set i (some v)) H s' → Q () s') (hf : X.fn x = true ∨ X.env.scope.names.lookup x = some .local := by first | exact .inl rfl | exact .inr rfl | assumption) : wpAny M A (storeName X.env x u) Q E s :=
 store_ok2 I hN hi hx r (fun s' I' _ => h s' I') hf
theorem Inv.call' {s' : Shared} {ch : List Addr} (I : Inv X pins σ H s) (ho : s'.os = s.os) (u : Un (frs X.stack) ch H H' s.heap s'.heap) (hok : HOk X.prog X.w H' s'.heap) (hg : AllBare s'.gens)
  (hch : ∀ b ∈ ch, (b ∈ X.ex ∨ X.s₀.heap.objs.size ≤ b) ∧ b ≠ X.env.locals ∧ (∀ x c, X.env.cells.lookup x = some c → c ≠ b) ∧ ∀ p ∈ X.pn ++ pins, p.1 ≠ b) : Inv X pins σ H' s' := by
 obtain ⟨h', g', d', t', o'⟩ := s'
 have e : o' = s.os := ho
 subst e
 exact I.call (g' := g') (t' := t') (d' := d') u hok hg hch
end
abbrev XK := Value → Option Addr → Hp → Prop
abbrev St := List (Option V)
abbrev VK := V → Hp → Prop
abbrev TE := St → Hp → VK → Prop
abbrev TT := St → Hp → (Bool → Hp → Prop) → Prop
abbrev TA := St → Hp → (List V → Hp → Prop) → Prop
structure Ends where
 nx : St → Hp → Prop
 rt : VK
 bk : St → Hp → Prop := fun _ _ => False
 ct : St → Hp → Prop := fun _ _ => False
abbrev TS := Ends → St → Hp → Prop
def EP (X : Cx) (pins : List (Addr × Obj)) (σ : St) (Q : VK) (u : Value) (s' : Shared) : Prop := ∃ v H', Inv X pins σ H' s' ∧ RelV v u ∧ Q v H'
def TP (X : Cx) (pins : List (Addr × Obj)) (σ : St) (Q : Bool → Hp → Prop) (b : Bool) (s' : Shared) : Prop := ∃ H', Inv X pins σ H' s' ∧ Q b H'
def AP (X : Cx) (pins : List (Addr × Obj)) (σ : St) (Q : List V → Hp → Prop) (us : List Value) (s' : Shared) : Prop := ∃ vs H', Inv X pins σ H' s' ∧ Vals vs us ∧ Q vs H'
def SP (X : Cx) (pins : List (Addr × Obj)) (D : Ends) (f : Flow) (s' : Shared) : Prop :=
 match f with
 | .next => ∃ σ' H', Inv X pins σ' H' s' ∧ D.nx σ' H'
 | .brk => ∃ σ' H', Inv X pins σ' H' s' ∧ D.bk σ' H'
 | .cont => ∃ σ' H', Inv X pins σ' H' s' ∧ D.ct σ' H'
 | .ret u => ∃ v σ' H', Inv X pins σ' H' s' ∧ RelV v u ∧ D.rt v H'
def PE (X : Cx) (e : Expr) (t : TE) : Prop :=
 ∀ (pins : List (Addr × Obj)) (s : Shared) (σ : St) (H : Hp) (Q : VK), Inv X pins σ H s → t σ H Q → wpAny (model X.prog X.w) X.A (eval e X.env) (EP X pins σ Q) X.xe s
def PT (X : Cx) (e : Expr) (t : TT) : Prop :=
 ∀ (pins : List (Addr × Obj)) (s : Shared) (σ : St) (H : Hp) (Q : Bool → Hp → Prop), Inv X pins σ H s → t σ H Q → wpAny (model X.prog X.w) X.A (isTrue e X.env (eval e X.env)) (TP X pins σ Q) X.xe s
def PW (X : Cx) (e : Expr) (t : TT) : Prop :=
 ∀ (whole : Sem Value) (pins : List (Addr × Obj)) (s : Shared) (σ : St) (H : Hp) (Q : Bool → Hp → Prop), Inv X pins σ H s → t σ H Q → wpAny (model X.prog X.w) X.A (isTrue e X.env whole) (TP X pins σ Q) X.xe s
theorem PW.pt {X : Cx} {e : Expr} {t : TT} (h : PW X e t) : PT X e t := h _
def PA (X : Cx) (es : List Expr) (t : TA) : Prop :=
 ∀ (pos : Pos) (pins : List (Addr × Obj)) (s : Shared) (σ : St) (H : Hp) (Q : List V → Hp → Prop), Inv X pins σ H s → t σ H Q → wpAny (model X.prog X.w) X.A (spliced (backTo pos (starEach es X.env))) (AP X pins σ Q) X.xe s
def PS (X : Cx) (st : Stmt) (t : TS) : Prop :=
 ∀ (pins : List (Addr × Obj)) (s : Shared) (σ : St) (H : Hp) (D : Ends), Inv X pins σ H s → t D σ H → wpAny (model X.prog X.w) X.A (exec st X.env) (SP X pins D) X.xe s
def PSs (X : Cx) (st : List Stmt) (t : TS) : Prop :=
 ∀ (pins : List (Addr × Obj)) (s : Shared) (σ : St) (H : Hp) (D : Ends), Inv X pins σ H s → t D σ H → wpAny (model X.prog X.w) X.A (execs st X.env) (SP X pins D) X.xe s
theorem thn {α : Type} {t : Sem α} {Q Q' : α → Shared → Prop} {M : Model} {A : Around} {E : Value → Shared → Prop} {s : Shared} (h : wpAny M A t Q E s) (hQ : ∀ a s, Q a s → Q' a s) : wpAny M A t Q' E s := wpAny_mono h hQ fun _ _ x => x
end L2
namespace L2
open PySem PySem.Spec PyProof.Rows
section
variable {X : Cx}
def tVar (i : Nat) : TE := fun σ H Q => ∃ v, σ[i]? = some (some v) ∧ Q v H
def tC (v : V) : TE := fun _ H Q => Q v H
theorem pe_var {i : Nat} {x : Str} {pos : Pos} (hN : X.N[i]? = some x) (hv : Vis X.env.scope x) (hd : (x == ("__debug__" : Str)) = false := by decide) (hcd : (x == ("__classdict__" : Str)) = false := by decide) : PE X (.Name x pos) (tVar i) := by
 intro pins s σ H Q I h
 obtain ⟨v, e, h⟩ := h
 obtain ⟨m, hn, hl⟩ := I.loc
 obtain ⟨u, r, l⟩ := hl i x v hN e hv
 have fin : EP X pins σ Q u s := ⟨v, H, I, r, h⟩
 rcases l with ⟨hk, hm⟩ | ⟨hk, c, hc, hcell⟩
 ·exact wpAny_Name (wpAny_loadName_local I.ok.kind hk hn hm fin) hd
 ·rcases hk with hk | hk
  ·exact wpAny_Name (wpAny_loadName_cell I.ok.kind hk hc hcell fin) hd
  ·exact wpAny_Name (wpAny_loadName_free I.ok.kind hk hc hcell fin hcd) hd
theorem pe_int {i j pos} : PE X (.Constant (.int i) j pos) (tC (.int i)) := fun _ _ _ H _ I h => wpAny_Constant_int ⟨.int i, H, I.tok _, ⟨_, rfl⟩, h⟩
theorem pe_bl {b j pos} : PE X (.Constant (.bool b) j pos) (tC (.bl b)) := fun _ _ _ H _ I h => Constant_bool ⟨.bl b, H, I, rfl, h⟩
theorem pe_non {j pos} : PE X (.Constant .none j pos) (tC .non) := fun _ _ _ H _ I h => Constant_none ⟨.non, H, I, rfl, h⟩
theorem pe_str {x j pos} : PE X (.Constant (.str x) j pos) (tC (.str x)) := fun _ _ _ H _ I h => Calls.Constant_str ⟨.str x, H, I.tok _, ⟨_, rfl⟩, h⟩
def Gl (X : Cx) (x : Str) : Prop := X.env.kindOf x = some .globalImplicit
theorem ld_glob {E : Value → Shared → Prop} {pins : List (Addr × Obj)} {s : Shared} {σ : St} {H : Hp} {x : Str} {u : Value} {pos : Pos} {Q : Value → Shared → Prop} (I : Inv X pins σ H s) (hg : Gl X x) (hm : X.mg x = some u) (h : Q u s)
  (hd : (x == ("__debug__" : Str)) = false := by decide) : wpAny (model X.prog X.w) X.A (eval (.Name x pos) X.env) Q E s :=
 Calls.Name_function_global I.ok.kind hg (Calls.loadGlobal_global (by rw [I.ok.glob]; exact I.mod.glob.keeps I.bk) hm h) hd
theorem ld_blt {E : Value → Shared → Prop} {pins : List (Addr × Obj)} {s : Shared} {σ : St} {H : Hp} {x : Str} {u : Value} {pos : Pos} {Q : Value → Shared → Prop} (I : Inv X pins σ H s) (hg : Gl X x) (hm : X.mg x = none) (hv : bootBuiltins x = some u) (h : Q u s)
  (hn : x ≠ "__name__" := by decide) (hd : (x == ("__debug__" : Str)) = false := by decide) : wpAny (model X.prog X.w) X.A (eval (.Name x pos) X.env) Q E s := by
 obtain ⟨mb, h1, h2⟩ := I.mod.blt
 exact Calls.Name_function_global I.ok.kind hg (Calls.loadGlobal_builtin (by rw [I.ok.glob]; exact I.mod.glob.keeps I.bk) hm (by rw [I.ok.blt]; exact h1.keeps I.bk) ((h2 x hn).trans hv) h) hd
theorem pe_glob {x : Str} {v : V} {u : Value} {pos : Pos} (hg : Gl X x) (hm : X.mg x = some u) (r : RelV v u) (hd : (x == ("__debug__" : Str)) = false := by decide) : PE X (.Name x pos) (tC v) :=
 fun _ _ _ H _ I h => ld_glob I hg hm ⟨v, H, I, r, h⟩ hd
theorem pe_bltn {x : Str} {v : V} {u : Value} {pos : Pos} (hg : Gl X x) (hm : X.mg x = none) (hv : bootBuiltins x = some u) (r : RelV v u) (hn : x ≠ "__name__" := by decide) (hd : (x == ("__debug__" : Str)) = false := by decide) : PE X (.Name x pos) (tC v) :=
 fun _ _ _ H _ I h => ld_blt I hg hm hv ⟨v, H, I, r, h⟩ hn hd
variable {a b : Expr} {ta tb : TE} {pos : Pos}
def PC (X : Cx) (op : CmpOp) (a b : Expr) (t : TE) : Prop :=
 ∀ (pins : List (Addr × Obj)) (s : Shared) (σ : St) (H : Hp) (Q : VK), Inv X pins σ H s → t σ H Q →
  wpAny (model X.prog X.w) X.A (eval a X.env) (fun v s₁ => wpAny (model X.prog X.w) X.A (eval b X.env) (fun u s₂ => wpAny (model X.prog X.w) X.A (compareOp op v u) (EP X pins σ Q) X.xe s₂) X.xe s₁) X.xe s
theorem nobehind (b : Expr) {op : CmpOp} (h : op ≠ .In) (h2 : op ≠ .NotIn) : behindInMarks op b = false := by
 have e1 : (op == CmpOp.In) = false := by cases op <;> first | rfl | exact absurd rfl h
 have e2 : (op == CmpOp.NotIn) = false := by cases op <;> first | rfl | exact absurd rfl h2
 cases b <;> simp [behindInMarks, e1, e2]
def tIsN (ta : TE) : TE := fun σ H Q => ta σ H fun x H1 => Q (.bl (decide (x = .non))) H1
def tNotN (ta : TE) : TE := fun σ H Q => ta σ H fun x H1 => Q (.bl (!decide (x = .non))) H1
theorem RelV.none_iff {x : V} {v : Value} (r : RelV x v) : (v == Value.none) = decide (x = .non) := by
 cases x with
 | non => cases r; rfl
 | bl _ => cases r; rfl
 | int _ => obtain ⟨t, rfl⟩ := r; rfl
 | str _ => obtain ⟨t, rfl⟩ := r; rfl
 | byt _ => obtain ⟨t, rfl⟩ := r; rfl
 | flt _ => obtain ⟨t, rfl⟩ := r; rfl
 | ref _ => cases r; rfl
 | ty _ => cases r; rfl
theorem pc_isN {j pos'} (ha : PE X a ta) : PC X .Is a (.Constant .none j pos') (tIsN ta) := by
 intro pins s σ H Q I h
 refine thn (ha pins s σ H _ I h) fun v s1 ho_ => ?_
 obtain ⟨x, H1, I1, r1, q1⟩ := ho_
 exact Constant_none (is_none_gen ⟨.bl _, H1, I1, by rw [r1.none_iff]; rfl, q1⟩)
theorem pc_notN {j pos'} (ha : PE X a ta) : PC X .IsNot a (.Constant .none j pos') (tNotN ta) := by
 intro pins s σ H Q I h
 refine thn (ha pins s σ H _ I h) fun v s1 ho_ => ?_
 obtain ⟨x, H1, I1, r1, q1⟩ := ho_
 exact Constant_none (isnot_none_gen ⟨.bl _, H1, I1, by rw [r1.none_iff]; rfl, q1⟩)
def tB (t : TE) : TT := fun σ H Q => t σ H fun x H1 => ∃ c, x = .bl c ∧ Q c H1
theorem pe_cmp {op : CmpOp} {t : TE} (h : PC X op a b t) (h1 : behindInMarks op b = false := by first | exact nobehind _ (by decide) (by decide) | rfl) : PE X (.Compare a [op] [b] pos) t := fun pins s σ H Q I hw => wpAny_Compare1 (h pins s σ H Q I hw) h1
theorem pt_cmp {op : CmpOp} {t : TE} (h : PC X op a b t) (h1 : behindInMarks op b = false := by first | exact nobehind _ (by decide) (by decide) | rfl) : PT X (.Compare a [op] [b] pos) (tB t) := by
 intro pins s σ H Q I hw
 refine wpAny_isTrue_Compare1 (thn (h pins s σ H _ I hw) fun v s1 h1 => thn h1 fun u s2 h2 => thn h2 fun c s3 ho_ => ?_) h1
 obtain ⟨x, H1, I1, r1, q1⟩ := ho_
 obtain ⟨d, rfl, q⟩ := q1
 cases r1
 exact wpAny_truthy_bool ⟨H1, I1, q⟩
theorem pt_val {e : Expr} {t : TE} (h : PE X e t) (he : ∀ whole, isTrue e X.env whole = (do let v ← whole; standAt e.pos; holding [v] (truthy v)) := by intro _; rfl) : PT X e (tB t) := by
 intro pins s σ H Q I hw
 refine isTrue_plain (thn (h pins s σ H _ I hw) fun v s1 ho_ => ?_) (he _)
 obtain ⟨x, H1, I1, r1, q1⟩ := ho_
 obtain ⟨d, rfl, q⟩ := q1
 cases r1
 exact wpAny_truthy_bool ⟨H1, I1, q⟩
variable {tA tB' : TT} {rest : List Expr}
def tAnd (t u : TT) : TT := fun σ H Q => t σ H fun c H1 => if c = true then u σ H1 Q else Q false H1
def tOr (t u : TT) : TT := fun σ H Q => t σ H fun c H1 => if c = true then Q true H1 else u σ H1 Q
def tNot (t : TT) : TT := fun σ H Q => t σ H fun c H1 => Q (!c) H1
theorem pw_and1 (ha : PT X a tA) : PW X (.BoolOp .And [a] pos) tA := by
 intro wh pins s σ H Q I h
 refine isTrue_and (thn (ha pins s σ H Q I h) fun c s1 e => ?_)
 cases c with
 | true => exact isTrue_and_nil e
 | false => exact e
theorem pw_or1 (ha : PT X a tA) : PW X (.BoolOp .Or [a] pos) tA := by
 intro wh pins s σ H Q I h
 refine isTrue_or (thn (ha pins s σ H Q I h) fun c s1 e => ?_)
 cases c with
 | false => exact isTrue_or_nil e
 | true => exact e
theorem pw_and (ha : PT X a tA) (hb : PW X (.BoolOp .And (b :: rest) pos) tB') : PW X (.BoolOp .And (a :: b :: rest) pos) (tAnd tA tB') := by
 intro wh pins s σ H Q I h
 refine isTrue_and (thn (ha pins s σ H _ I h) fun c s1 ho_ => ?_)
 obtain ⟨H1, I1, q1⟩ := ho_
 cases c with
 | true => exact hb wh pins s1 σ H1 Q I1 q1
 | false => exact ⟨H1, I1, q1⟩
theorem pw_or (ha : PT X a tA) (hb : PW X (.BoolOp .Or (b :: rest) pos) tB') : PW X (.BoolOp .Or (a :: b :: rest) pos) (tOr tA tB') := by
 intro wh pins s σ H Q I h
 refine isTrue_or (thn (ha pins s σ H _ I h) fun c s1 ho_ => ?_)
 obtain ⟨H1, I1, q1⟩ := ho_
 cases c with
 | true => exact ⟨H1, I1, q1⟩
 | false => exact hb wh pins s1 σ H1 Q I1 q1
theorem pt_not (ha : PT X a tA) : PT X (.UnaryOp .Not a pos) (tNot tA) := by
 intro pins s σ H Q I h
 exact isTrue_not (ha pins s σ H (fun c H1 => Q (!c) H1) I h)
def tAndV (ta tb : TE) : TE := fun σ H Q => ta σ H fun x H1 => ∃ c, x = .bl c ∧ if c = true then tb σ H1 Q else Q (.bl false) H1
theorem pe_one {op} {t : TE} (h : PE X a t) : PE X (.BoolOp op [a] pos) t := fun pins s σ H Q I hw => BoolOp_one (h pins s σ H Q I hw)
theorem pe_and (ha : PE X a ta) (hb : PE X (.BoolOp .And (b :: rest) pos) tb) : PE X (.BoolOp .And (a :: b :: rest) pos) (tAndV ta tb) := by
 intro pins s σ H Q I h
 refine BoolOp_and (thn (ha pins s σ H _ I h) fun v s1 ho_ => ?_)
 obtain ⟨x, H1, I1, r1, q1⟩ := ho_
 obtain ⟨c, rfl, q1⟩ := q1
 cases r1
 refine wpAny_truthy_bool ?_
 cases c with
 | true => exact hb pins s1 σ H1 Q I1 q1
 | false => exact ⟨.bl false, H1, I1, rfl, q1⟩
def tIf (t : TT) (ta tb : TE) : TE := fun σ H Q => t σ H fun c H1 => if c = true then ta σ H1 Q else tb σ H1 Q
theorem pe_ifExp {c : Expr} (hc : PT X c tA) (ha : PE X a ta) (hb : PE X b tb) : PE X (.IfExp c a b pos) (tIf tA ta tb) := by
 intro pins s σ H Q I h
 refine wpAny_IfExp (thn (hc pins s σ H _ I h) fun d s1 ho_ => ?_)
 obtain ⟨H1, I1, q1⟩ := ho_
 cases d with
 | true => exact ha pins s1 σ H1 Q I1 q1
 | false => exact hb pins s1 σ H1 Q I1 q1
end
end L2
namespace L2
open PySem PySem.Spec PyProof.Rows
def SqL (K : PySem.W.Frag) (H : Hp) (a : Addr) (xs : List V) : Prop :=
 Rd H a (.lst xs) ∨
  ∃ (o : Obj) (its : Array Value) (n : Nat), K.lookup a = some o ∧ o.cls = .type "list" ∧ o.dict = none ∧ o.data = .seq its n ∧ its.size ≤ sizeLine ∧ Vals xs its.toList
def SqT (K : PySem.W.Frag) (H : Hp) (a : Addr) (xs : List V) : Prop :=
 Rd H a (.tup xs) ∨
  ∃ (o : Obj) (its : Array Value) (n : Nat), K.lookup a = some o ∧ o.cls = .type "tuple" ∧ o.data = .seq its n ∧ its.size ≤ sizeLine ∧ Vals xs its.toList
def absV : Value → Option V
 | .none => some .non
 | .bool b => some (.bl b)
 | .int i _ => some (.int i)
 | .str x _ => some (.str x)
 | .bytes b _ => some (.byt b)
 | .float b _ => some (.flt b)
 | .ref a => some (.ref a)
 | .type n => some (.ty n)
 | _ => none
theorem RelV.abs {x : V} {u : Value} (r : RelV x u) : absV u = some x := by
 cases x with
 | non => cases r; rfl
 | bl _ => cases r; rfl
 | int _ => obtain ⟨t, rfl⟩ := r; rfl
 | str _ => obtain ⟨t, rfl⟩ := r; rfl
 | byt _ => obtain ⟨t, rfl⟩ := r; rfl
 | flt _ => obtain ⟨t, rfl⟩ := r; rfl
 | ref _ => cases r; rfl
 | ty _ => cases r; rfl
theorem RelV.inj {x y : V} {u : Value} (r : RelV x u) (q : RelV y u) : x = y := Option.some.inj (r.abs.symm.trans q.abs)
theorem Vals.inj : ∀ {xs ys : List V} {us : List Value}, Vals xs us → Vals ys us → xs = ys := by
 intro xs ys us h k
 induction h generalizing ys with
 | nil =>
  cases k
  rfl
 | cons r t ih =>
  cases k with
  | cons r' t' => rw [r.inj r', ih t']
section
variable {X : Cx} {pins : List (Addr × Obj)} {σ : St} {H : Hp} {s : Shared} {a : Addr} {xs ys : List V}
theorem SqL.of {K : PySem.W.Frag} (h : H a = some (.lst xs)) : SqL K H a xs := .inl (.inl h)
theorem SqT.of {K : PySem.W.Frag} (h : H a = some (.tup xs)) : SqT K H a xs := .inl (.inl h)
theorem Inv.list (I : Inv X pins σ H s) (h : SqL X.K H a xs) : ∃ its : List Value, Vals xs its ∧ PlainL s.heap a its.toArray ∧ xs.length ≤ sizeLine := by
 rcases h with h | ⟨o, its, n, hk, hc, hd, hs, hz, r⟩
 ·obtain ⟨z, its, n, r, e⟩ := h.ok I.hok
  exact ⟨its, r, ⟨_, n, e, rfl, rfl, rfl⟩, z⟩
 ·refine ⟨its.toList, r, ⟨o, n, I.kIn a o hk, hc, hd, by simpa using hs⟩, ?_⟩
  have e := r.length
  simp only [Array.length_toList] at e
  omega
theorem Inv.tuple (I : Inv X pins σ H s) (h : SqT X.K H a xs) : ∃ its : List Value, Vals xs its ∧ IsTup s.heap a its.toArray ∧ xs.length ≤ sizeLine := by
 rcases h with h | ⟨o, its, n, hk, hc, hs, hz, r⟩
 ·obtain ⟨z, its, r, p⟩ := h.ok I.hok
  exact ⟨its, r, p, z⟩
 ·refine ⟨its.toList, r, ⟨o, I.kIn a o hk, hc, n, by simpa using hs⟩, ?_⟩
  have e := r.length
  simp only [Array.length_toList] at e
  omega
theorem Inv.list_inj (I : Inv X pins σ H s) (h : SqL X.K H a xs) (h' : SqL X.K H a ys) : xs = ys := by
 obtain ⟨its, r, ⟨o, n, e, _, _, d⟩, _⟩ := I.list h
 obtain ⟨its', r', ⟨o', n', e', _, _, d'⟩, _⟩ := I.list h'
 rw [e] at e'; cases e'
 rw [d] at d'
 injection d' with d1 _
 have : its = its' := by simpa using congrArg Array.toList d1
 subst this
 exact r.inj r'
theorem Inv.tuple_inj (I : Inv X pins σ H s) (h : SqT X.K H a xs) (h' : SqT X.K H a ys) : xs = ys := by
 obtain ⟨its, r, ⟨o, e, _, n, d⟩, _⟩ := I.tuple h
 obtain ⟨its', r', ⟨o', e', _, n', d'⟩, _⟩ := I.tuple h'
 rw [e] at e'; cases e'
 rw [d] at d'
 injection d' with d1 _
 have : its = its' := by simpa using congrArg Array.toList d1
 subst this
 exact r.inj r'
end
abbrev Cx.wish (X : Cx) (E : Value → Shared → Prop) : Cx := { X with xe := E }
abbrev Cx.nox (X : Cx) : Cx := X.wish fun _ _ => False
theorem Cx.Ok.wish {X : Cx} (ok : X.Ok) (E : Value → Shared → Prop) : (X.wish E).Ok :=
 ⟨ok.mod, ok.kind, ok.glob, ok.blt, ok.above, ok.inj, ok.has, ok.cab, ok.hd, ok.frames, ok.stk, ok.exf, ok.bs, ok.bsz, ok.noex, ok.exfs, ok.funs, ok.frf⟩
theorem Cx.Ok.unwish {X : Cx} {E : Value → Shared → Prop} (ok : (X.wish E).Ok) : X.Ok :=
 ⟨ok.mod, ok.kind, ok.glob, ok.blt, ok.above, ok.inj, ok.has, ok.cab, ok.hd, ok.frames, ok.stk, ok.exf, ok.bs, ok.bsz, ok.noex, ok.exfs, ok.funs, ok.frf⟩
section
variable {X : Cx} {pins : List (Addr × Obj)} {σ : St} {H : Hp} {s : Shared} {E : Value → Shared → Prop}
theorem Inv.wish (I : Inv X pins σ H s) (E : Value → Shared → Prop) : Inv (X.wish E) pins σ H s := ⟨I.ok.wish E, I.os, I.bare, I.base, I.loc, I.cell, I.free, I.freeC, I.pin, I.hok, I.len⟩
theorem Inv.unwish (I : Inv (X.wish E) pins σ H s) : Inv X pins σ H s := ⟨I.ok.unwish, I.os, I.bare, I.base, I.loc, I.cell, I.free, I.freeC, I.pin, I.hok, I.len⟩
theorem SP.unwish {D : Ends} {f : Flow} {s' : Shared} (h : SP (X.wish E) pins D f s') : SP X pins D f s' := by
 cases f with
 | next => obtain ⟨σ', H', I, q⟩ := h; exact ⟨σ', H', I.unwish, q⟩
 | brk => obtain ⟨σ', H', I, q⟩ := h; exact ⟨σ', H', I.unwish, q⟩
 | cont => obtain ⟨σ', H', I, q⟩ := h; exact ⟨σ', H', I.unwish, q⟩
 | ret u => obtain ⟨v, σ', H', I, r, q⟩ := h; exact ⟨v, σ', H', I.unwish, r, q⟩
theorem PSs.nox {st : List Stmt} {t : TS} (h : PSs X.nox st t) : PSs X st t := fun pins s σ H D I hw =>
 wpAny_mono (h pins s σ H D (I.wish _) hw) (fun _ _ q => q.unwish) fun _ _ z => False.elim z
end
section
variable {X : Cx} {st : Stmt} {rest : List Stmt} {t u : TS} {e : Expr} {te : TE} {pos : Pos}
def tNext : TS := fun D σ H => D.nx σ H
def tSeq (t u : TS) : TS := fun D σ H => t { D with nx := u D } σ H
theorem pss_nil : PSs X [] tNext := fun _ _ σ H _ I h => wpAny_execs_nil ⟨σ, H, I, h⟩
theorem pss_cons (h1 : PS X st t) (h2 : PSs X rest u) : PSs X (st :: rest) (tSeq t u) := by
 intro pins s σ H D I h
 refine wpAny_execs_cons (thn (h1 pins s σ H { D with nx := u D } I h) fun f s1 q => ?_)
 cases f with
 | next =>
  obtain ⟨σ', H', I', q⟩ := q
  exact h2 pins s1 σ' H' D I' q
 | ret v => exact q
 | brk => exact q
 | cont => exact q
theorem pss_one (h1 : PS X st t) : PSs X [st] t := by
 intro pins s σ H D I h
 refine wpAny_execs_cons (thn (h1 pins s σ H D I h) fun f s1 q => ?_)
 cases f with
 | next => exact wpAny_execs_nil q
 | ret v => exact q
 | brk => exact q
 | cont => exact q
theorem Inv.quiet {pins : List (Addr × Obj)} {σ : St} {H : Hp} {s : Shared} (I : Inv X pins σ H s) : interactive X.env = false := by simp [interactive, I.ok.kind]
def tDrop (te : TE) : TS := fun D σ H => te σ H fun _ H1 => D.nx σ H1
theorem ps_expr (he : PE X e te) (hs : swapsWith e none pos.line X.env = pure false := by rfl) : PS X (.Expr e pos) (tDrop te) := by
 intro pins s σ H D I h
 exact wpAny_Expr_any (thn (he pins s σ H _ I h) (by rintro v s1 ⟨x, H1, I1, r1, q1⟩; exact ⟨σ, H1, I1, q1⟩)) I.quiet hs
def tRet (te : TE) : TS := fun D σ H => te σ H D.rt
theorem ps_ret (he : PE X e te) : PS X (.Return (some e) pos) (tRet te) := by
 intro pins s σ H D I h
 exact wpAny_Return_some (thn (he pins s σ H _ I h) (by rintro v s1 ⟨x, H1, I1, r1, q1⟩; exact ⟨x, σ, H1, I1, r1, q1⟩))
def tIfS (c : TT) (t u : TS) : TS := fun D σ H => c σ H fun b H1 => if b = true then t D σ H1 else u D σ H1
theorem ps_if {c : Expr} {a b : List Stmt} {tc : TT} (hc : PT X c tc) (ha : PSs X a t) (hb : PSs X b u) : PS X (.If c a b pos) (tIfS tc t u) := by
 intro pins s σ H D I h
 refine wpAny_If (thn (hc pins s σ H _ I h) fun d s1 ho_ => ?_)
 obtain ⟨H1, I1, q1⟩ := ho_
 cases d with
 | true => exact ha pins s1 σ H1 D I1 q1
 | false => exact hb pins s1 σ H1 D I1 q1
def tNever : TS := fun _ _ _ => False
theorem ps_never : PS X st tNever := fun _ _ _ _ _ _ h => h.elim
end
abbrev TG := V → St → Hp → (St → Hp → Prop) → Prop
abbrev TGs := List V → St → Hp → (St → Hp → Prop) → Prop
def PG (X : Cx) (target : Expr) (t : TG) : Prop :=
 ∀ (pins : List (Addr × Obj)) (s : Shared) (σ : St) (H : Hp) (v : V) (u : Value) (Q : St → Hp → Prop), Inv X pins σ H s → RelV v u → t v σ H Q →
  wpAny (model X.prog X.w) X.A (assign target X.env u) (fun _ s' => ∃ σ' H', Inv X pins σ' H' s' ∧ Q σ' H') X.xe s
def PGs (X : Cx) (ts : List Expr) (t : TGs) : Prop :=
 ∀ (pins : List (Addr × Obj)) (s : Shared) (σ : St) (H : Hp) (vs : List V) (us : List Value) (Q : St → Hp → Prop), Inv X pins σ H s → Vals vs us → t vs σ H Q →
  wpAny (model X.prog X.w) X.A (assignInOrder ((assignEach ts X.env).map (·.2)) us) (fun _ s' => ∃ σ' H', Inv X pins σ' H' s' ∧ Q σ' H') X.xe s
section
variable {X : Cx} {pos : Pos}
def gName (i : Nat) : TG := fun v σ H Q => Q (σ.set i (some v)) H
theorem pg_name {i : Nat} {x : Str} (hN : X.N.Nodup) (hi : X.N[i]? = some x) (hx : Loc X.env.scope x) (hf : X.fn x = true ∨ X.env.scope.names.lookup x = some .local := by first | exact .inl rfl | exact .inr rfl | assumption) : PG X (.Name x pos) (gName i) := by
 intro pins s σ H v u Q I r h
 exact wpAny_assign_Name (store_ok I hN hi hx r (fun s' I' => ⟨_, H, I', h⟩) hf)
def gNil : TGs := fun vs σ H Q => vs = [] ∧ Q σ H
def gCons (t : TG) (u : TGs) : TGs := fun vs σ H Q => ∃ v r, vs = v :: r ∧ t v σ H fun σ' H' => u r σ' H' Q
theorem pgs_nil : PGs X [] gNil := by
 intro pins s σ H vs us Q I r h
 obtain ⟨e, h⟩ := h
 subst e
 cases r
 exact assignInOrder_nil ⟨σ, H, I, h⟩
theorem pgs_cons {e : Expr} {es : List Expr} {t : TG} {u : TGs} (h1 : PG X e t) (h2 : PGs X es u)
  (hs : (assignEach (e :: es) X.env).map (·.2) = assign e X.env :: (assignEach es X.env).map (·.2) := by rfl) : PGs X (e :: es) (gCons t u) := by
 intro pins s σ H vs us Q I r h
 obtain ⟨v, vr, e1, h⟩ := h
 subst e1
 cases r with
 | cons r rr =>
  rw [hs]
  refine assignInOrder_cons (thn (h1 pins s σ H _ _ _ I r h) fun _ s1 ho_ => ?_)
  obtain ⟨σ1, H1, I1, q1⟩ := ho_
  exact h2 pins s1 σ1 H1 _ _ Q I1 rr q1
def gTup (K : PySem.W.Frag) (n : Nat) (t : TGs) : TG := fun v σ H Q => ∃ a xs, v = .ref a ∧ SqT K H a xs ∧ xs.length = n ∧ t xs σ H Q
theorem pg_tup {es : List Expr} {k : Nat} {t : TGs} {n : Nat} (hc : X.calm = true) (h : PGs X es t)
  (hn : (assignEach es X.env).length = n := by rfl) (hst : (assignEach es X.env).findIdx? (·.1) = none := by rfl) : PG X (.Tuple es k pos) (gTup X.K n t) := by
 intro pins s σ H v u Q I r hw
 obtain ⟨a, xs, e1, hq, hl, hw⟩ := hw
 subst e1
 cases r
 obtain ⟨its, rv, ht, hz⟩ := I.tuple hq
 refine assign_Tuple_tuple (I.ok.hd hc) ht (by simp [hn, ← hl, rv.length]) hst fun h' hx => ?_
 have I1 : Inv X pins σ H { s with heap := h' } := I.kept (t' := s.toks) fun b o e => hx b o (Nat.ne_of_lt (Heap.lt_size e)) e
 exact h pins _ σ H xs _ Q I1 (by simpa using rv) hw
def tAsg (te : TE) (g : TG) : TS := fun D σ H => te σ H fun x H1 => g x σ H1 D.nx
theorem ps_asg {tg e : Expr} {te : TE} {g : TG} (he : PE X e te) (hg : PG X tg g) (hs : swapsWithSole [tg] e pos.line X.env = pure false := by rfl) (hw : swappedStores [tg] e X.env = pure none := by rfl)
  (h1 : (assignEach [tg] X.env).map (·.2) = [assign tg X.env] := by rfl) : PS X (.Assign [tg] e pos) (tAsg te g) := by
 intro pins s σ H D I h
 refine wpAny_Assign_stores (thn (he pins s σ H _ I h) fun v s1 ho_ => ?_) hs hw
 obtain ⟨x, H1, I1, r1, q1⟩ := ho_
 rw [h1]
 exact thn (hg pins s1 σ H1 x v _ I1 r1 q1) fun _ s2 q => q
theorem ps_set {i : Nat} {x : Str} {e : Expr} {te : TE} {pos' : Pos} (hN : X.N.Nodup) (hi : X.N[i]? = some x) (hx : Loc X.env.scope x) (he : PE X e te) (hs : swapsWith e (some (.Name x pos')) pos.line X.env = pure false := by rfl) (hf : X.fn x = true ∨ X.env.scope.names.lookup x = some .local := by first | exact .inl rfl | exact .inr rfl | assumption) :
  PS X (.Assign [.Name x pos'] e pos) (tAsg te (gName i)) := by
 intro pins s σ H D I h
 refine wpAny_Assign_Name (thn (he pins s σ H _ I h) fun v s1 ho_ => ?_) hs
 obtain ⟨y, H1, I1, r1, q1⟩ := ho_
 exact store_ok I1 hN hi hx r1 (fun s2 I2 => ⟨_, H1, I2, q1⟩) hf
end
section
variable {X : Cx} {pos : Pos}
end
structure It where
 go : Nat → Hp → Prop
 yld : Nat → Hp → V → Hp → Prop
 stop : Nat → Hp → Prop
def FpOk (X : Cx) (pins : List (Addr × Obj)) (H : Hp) (b : Addr) : Prop :=
 H b = none ∧ b ≠ X.env.locals ∧ b ∉ X.fs ∧ (b ∈ X.ex ∨ X.s₀.heap.objs.size ≤ b) ∧ (∀ x c, X.env.cells.lookup x = some c → c ≠ b) ∧ ∀ p ∈ X.pn ++ pins, p.1 ≠ b
theorem Inv.fpOk {X : Cx} {pins : List (Addr × Obj)} {σ : St} {H H' : Hp} {s : Shared} {b : Addr} (I : Inv X pins σ H s) (hb : s.heap.objs.size ≤ b) (hn : H' b = none) : FpOk X pins H' b := by
 refine ⟨hn, Nat.ne_of_gt (Nat.lt_of_lt_of_le I.lt hb), I.nofs hb, .inr (Nat.le_trans I.sz hb), fun x c e z => ?_, fun p hp z => ?_⟩
 ·obtain ⟨v, q⟩ := I.cell x c e
  exact absurd (Nat.lt_of_lt_of_le q.lt (by rw [z]; exact hb)) (Nat.lt_irrefl _)
 ·exact absurd (Nat.lt_of_lt_of_le (Heap.lt_size (I.pin p hp).1) (by rw [z]; exact hb)) (Nat.lt_irrefl _)
structure Turn (P : Program) (w : World) (K : PySem.W.Frag) (tg : Expr) (J : It) (fp : List Addr) (it : Addr) (tn : Nat → Heap → Prop) : Prop where
 mem : it ∈ fp
 obj : ∀ i h, tn i h → ∀ b ∈ fp, ∃ o, h.get? b = some o ∧ ∀ v, o.data ≠ .cell v
 keep : ∀ i h h', tn i h → (∀ b ∈ fp, ∀ o, h.get? b = some o → h'.get? b = some o) → tn i h'
 item : ∀ (X : Cx), X.prog = P → X.w = w → X.K = K → X.calm = true → ∀ (i : Nat) (pins : List (Addr × Obj)) (s : Shared) (σ : St) (H : Hp) (E : Value → Shared → Prop), Inv X pins σ H s → (∀ b ∈ fp, FpOk X pins H b) → tn i s.heap → J.go i H →
  wpAny (model P w) X.A (pyNext (.ref it)) (fun r s1 => ∃ u, r = some u ∧
   wpAny (model P w) X.A (letOwnedTupleGo tg (.ref it) u) (fun _ s2 => ∃ x H', Inv X pins σ H' s2 ∧ RelV x u ∧ J.yld i H x H' ∧ tn (i + 1) s2.heap ∧ ∀ b ∈ fp, H' b = none) E s1) E s
 done : ∀ (X : Cx), X.prog = P → X.w = w → X.K = K → X.calm = true → ∀ (i : Nat) (pins : List (Addr × Obj)) (s : Shared) (σ : St) (H : Hp) (E : Value → Shared → Prop), Inv X pins σ H s → (∀ b ∈ fp, FpOk X pins H b) → tn i s.heap → J.stop i H →
  wpAny (model P w) X.A (pyNext (.ref it)) (fun r s1 => r = none ∧ Inv X pins σ H s1) E s
 self : ∀ (A : Around) (i : Nat) (s : Shared) (Q : Value → Shared → Prop) (E : Value → Shared → Prop), tn i s.heap → Q (.ref it) s → wpAny (model P w) A (pyIter (.ref it)) Q E s
abbrev TI := St → Hp → (It → Hp → Prop) → Prop
def PIE (X : Cx) (pins : List (Addr × Obj)) (σ : St) (tg : Expr) (R : It → Hp → Prop) (itv : Value) (s2 : Shared) : Prop :=
 ∃ (it : Addr) (fp : List Addr) (tn : Nat → Heap → Prop) (J : It) (H' : Hp), itv = .ref it ∧ Inv X pins σ H' s2 ∧ Turn X.prog X.w X.K tg J fp it tn ∧ tn 0 s2.heap ∧ (∀ b ∈ fp, FpOk X pins H' b) ∧ R J H'
def PI (X : Cx) (tg iter : Expr) (wi : TI) : Prop :=
 ∀ (pins : List (Addr × Obj)) (s : Shared) (σ : St) (H : Hp) (R : It → Hp → Prop), Inv X pins σ H s → wi σ H R →
  wpAny (model X.prog X.w) X.A (eval iter X.env) (fun v s1 => wpAny (model X.prog X.w) X.A (pyIter v) (PIE X pins σ tg R) X.xe s1) X.xe s
theorem go_of {M : Model} {A : Around} {E : Value → Shared → Prop} {s : Shared} {tg : Expr} {it : Addr} {u : Value} {o : Obj} {n : String} {vs : Array Value} {Q : Unit → Shared → Prop} (ho : s.heap.get? it = some o) (hc : o.cls = .type n) (hd : o.data = .fields vs)
  (hn : ["enumerate", "zip", "dict_itemiterator", "dict_reverseitemiterator", "odict_iterator", "itertools.zip_longest", "itertools.pairwise"].contains n = false) (hQ : Q () s) : wpAny M A (letOwnedTupleGo tg (.ref it) u) Q E s := by
 unfold letOwnedTupleGo
 cases tg <;> first
  | exact wpAny_pure hQ
  | (cases u <;> first
    | exact wpAny_pure hQ
    | (refine wpAny_bind (wpAny_load ho ?_)
       rw [hc, hd]
       show wpAny M A (if (["enumerate", "zip", "dict_itemiterator", "dict_reverseitemiterator", "odict_iterator", "itertools.zip_longest", "itertools.pairwise"].contains n && vs[0]? == some (rawInt _)) = true then _ else _) Q E s
       rw [if_neg (by intro h; rw [hn, Bool.false_and] at h; cases h)]
       exact wpAny_pure hQ))
def Itl (K : PySem.W.Frag) (a : Addr) : It :=
 ⟨fun i H => ∃ xs x, SqL K H a xs ∧ xs[i]? = some x, fun i H x H' => H' = H ∧ ∀ xs, SqL K H a xs → xs[i]? = some x, fun i H => ∃ xs, SqL K H a xs ∧ xs.length ≤ i⟩
def Itt (K : PySem.W.Frag) (a : Addr) : It :=
 ⟨fun i H => ∃ xs x, SqT K H a xs ∧ xs[i]? = some x, fun i H x H' => H' = H ∧ ∀ xs, SqT K H a xs → xs[i]? = some x, fun i H => ∃ xs, SqT K H a xs ∧ xs.length ≤ i⟩
def Itr (lo : Int) (n : Nat) : It := ⟨fun i _ => i < n, fun i H x H' => H' = H ∧ x = .int (lo + i), fun i _ => n ≤ i⟩
theorem turn_list {P : Program} {w : World} {K : PySem.W.Frag} {tg : Expr} (a it : Addr) : Turn P w K tg (Itl K a) [it] it (fun i h => h.IsListIter it a i) where
 mem := by simp
 obj := fun i h st b hb => by
  have e : b = it := by simpa using hb
  subst e
  obtain ⟨o, e, c, d⟩ := st
  exact ⟨o, e, fun v z => by rw [d] at z; cases z⟩
 keep := fun i h h' st k => st.at fun o e => k it (by simp) o e
 item := by
  intro X hP hw hK hc i pins s σ H E I hf st hg
  subst hP hw hK
  obtain ⟨xs, x, hq, hx⟩ := hg
  obtain ⟨its, rv, p, hz⟩ := I.list hq
  obtain ⟨u, hu, ru⟩ := rv.get hx
  obtain ⟨f0, f1, f2, f3, f4, f5⟩ := hf it (by simp)
  refine wpAny_pyNext_list_item st p.isList (x := u) (by simpa using hu) fun h' st' sb => ?_
  have I1 : Inv X pins σ H { s with heap := h' } := I.turned (t' := s.toks) (fun b o hb e => (sb.2 b hb).trans e) f0 f1 f3 f4 f5
  obtain ⟨o, e, c, d⟩ := id st'
  exact ⟨u, rfl, go_of (s := { s with heap := h' }) e c d (by decide) ⟨x, H, I1, ru, ⟨rfl, fun ys hy => by rw [I.list_inj hy hq]; exact hx⟩, st', fun b hb => (hf b hb).1⟩⟩
 done := by
  intro X hP hw hK hc i pins s σ H E I hf st hg
  subst hP hw hK
  obtain ⟨xs, hq, hx⟩ := hg
  obtain ⟨its, rv, p, hz⟩ := I.list hq
  obtain ⟨f0, f1, f2, f3, f4, f5⟩ := hf it (by simp)
  have hl := rv.length
  exact wpAny_pyNext_list_end (I.ok.hd hc) st p.isList (by simp; omega) fun h' eb => ⟨rfl, I.turned (t' := s.toks) (fun b o hb e => eb b o hb e) f0 f1 f3 f4 f5⟩
 self := fun _ _ _ _ _ st h => wpAny_pyIter_listiter st h
theorem turn_tuple {P : Program} {w : World} {K : PySem.W.Frag} {tg : Expr} (a it : Addr) : Turn P w K tg (Itt K a) [it] it (fun i h => h.IsTupleIter it a i) where
 mem := by simp
 obj := fun i h st b hb => by
  have e : b = it := by simpa using hb
  subst e
  obtain ⟨o, e, c, d⟩ := st
  exact ⟨o, e, fun v z => by rw [d] at z; cases z⟩
 keep := fun i h h' st k => st.at fun o e => k it (by simp) o e
 item := by
  intro X hP hw hK hc i pins s σ H E I hf st hg
  subst hP hw hK
  obtain ⟨xs, x, hq, hx⟩ := hg
  obtain ⟨its, rv, p, hz⟩ := I.tuple hq
  obtain ⟨u, hu, ru⟩ := rv.get hx
  obtain ⟨f0, f1, f2, f3, f4, f5⟩ := hf it (by simp)
  refine wpAny_pyNext_tuple_item st (show s.heap.IsTuple a its.toArray from p) (x := u) (by simpa using hu) fun h' st' sb => ?_
  have I1 : Inv X pins σ H { s with heap := h' } := I.turned (t' := s.toks) (fun b o hb e => (sb.2 b hb).trans e) f0 f1 f3 f4 f5
  obtain ⟨o, e, c, d⟩ := id st'
  exact ⟨u, rfl, go_of (s := { s with heap := h' }) e c d (by decide) ⟨x, H, I1, ru, ⟨rfl, fun ys hy => by rw [I.tuple_inj hy hq]; exact hx⟩, st', fun b hb => (hf b hb).1⟩⟩
 done := by
  intro X hP hw hK hc i pins s σ H E I hf st hg
  subst hP hw hK
  obtain ⟨xs, hq, hx⟩ := hg
  obtain ⟨its, rv, p, hz⟩ := I.tuple hq
  obtain ⟨f0, f1, f2, f3, f4, f5⟩ := hf it (by simp)
  have hl := rv.length
  exact wpAny_pyNext_tuple_end (I.ok.hd hc) st (show s.heap.IsTuple a its.toArray from p) (by simp; omega) fun h' eb => ⟨rfl, I.turned (t' := s.toks) (fun b o hb e => eb b o hb e) f0 f1 f3 f4 f5⟩
 self := fun _ _ _ _ _ st h => wpAny_pyIter_tupleiter st h
theorem turn_range {P : Program} {w : World} {K : PySem.W.Frag} {tg : Expr} (it : Addr) (lo : Int) (n : Nat) : Turn P w K tg (Itr lo n) [it] it (fun i h => IsRangeIter h it (lo + (i : Nat) * 1) ((n : Int) - (i : Nat)) 1) where
 mem := by simp
 obj := fun i h st b hb => by
  have e : b = it := by simpa using hb
  subst e
  exact ⟨_, st, fun v z => by
   have z' : Data.fields _ = Data.cell v := z
   cases z'⟩
 keep := fun i h h' st k => k it (by simp) _ st
 item := by
  intro X hP hw hK hc i pins s σ H E I hf st hg
  subst hP hw hK
  obtain ⟨f0, f1, f2, f3, f4, f5⟩ := hf it (by simp)
  have W := Walks.range (prog := X.prog) (w := X.w) (I.ok.hd hc) it lo 1 n
  refine W.item i s _ _ hg st fun v h' tk hv st' kk => ?_
  obtain ⟨t, rfl⟩ := hv
  have I1 : Inv X pins σ H { s with heap := h', toks := tk } := I.turned (fun b o hb e => kk b o (by simpa using hb) e) f0 f1 f3 f4 f5
  refine ⟨_, rfl, go_of (s := { s with heap := h', toks := tk }) (n := "range_iterator") st' rfl rfl (by decide) ⟨.int (lo + i), H, I1, ⟨t, ?_⟩, ⟨rfl, rfl⟩, st', fun b hb => (hf b hb).1⟩⟩
  rw [Int.mul_one]
 done := by
  intro X hP hw hK hc i pins s σ H E I hf st hg
  subst hP hw hK
  obtain ⟨f0, f1, f2, f3, f4, f5⟩ := hf it (by simp)
  exact wpAny_pyNext_range_end (I.ok.hd hc) st (by have : n ≤ i := hg; omega) fun h' eb => ⟨rfl, I.turned (t' := s.toks) (fun b o hb e => eb b o hb e) f0 f1 f3 f4 f5⟩
 self := fun _ _ _ _ _ st h => wpAny_pyIter_rangeiter st h
end L2
namespace L2
open PySem PySem.Spec PyProof.Rows
section
variable {X : Cx} {tg : Expr}
def iList (K : PySem.W.Frag) (tl : TE) : TI := fun σ H R => tl σ H fun x H1 => ∃ a, x = .ref a ∧ (∃ xs, SqL K H1 a xs) ∧ R (Itl K a) H1
def iTup (K : PySem.W.Frag) (tl : TE) : TI := fun σ H R => tl σ H fun x H1 => ∃ a, x = .ref a ∧ (∃ xs, SqT K H1 a xs) ∧ R (Itt K a) H1
theorem pi_list {l : Expr} {tl : TE} (hl : PE X l tl) : PI X tg l (iList X.K tl) := by
 intro pins s σ H R I h
 refine thn (hl pins s σ H _ I h) fun v s1 ho_ => ?_
 obtain ⟨x, H1, I1, r1, q1⟩ := ho_
 obtain ⟨a, e, ⟨xs, hq⟩, q⟩ := q1
 subst e
 cases r1
 obtain ⟨its, rv, p, hz⟩ := I1.list hq
 refine wpAny_pyIter_list p.isList ?_
 refine ⟨s1.heap.objs.size, [s1.heap.objs.size], _, _, H1, rfl, I1.kept (t' := s1.toks) fun b o e => Heap.get?_push_of_some _ e, turn_list a _, ⟨_, Heap.get?_push_size _ rfl, rfl, rfl⟩, fun b hb => ?_, q⟩
 have e : b = s1.heap.objs.size := by simpa using hb
 subst e
 exact I1.fpOk (Nat.le_refl _) (I1.hok.fresh (Nat.le_refl _))
theorem pi_tup {l : Expr} {tl : TE} (hl : PE X l tl) : PI X tg l (iTup X.K tl) := by
 intro pins s σ H R I h
 refine thn (hl pins s σ H _ I h) fun v s1 ho_ => ?_
 obtain ⟨x, H1, I1, r1, q1⟩ := ho_
 obtain ⟨a, e, ⟨xs, hq⟩, q⟩ := q1
 subst e
 cases r1
 obtain ⟨its, rv, p, hz⟩ := I1.tuple hq
 refine wpAny_pyIter_tuple (show s1.heap.IsTuple a its.toArray from p) ?_
 refine ⟨s1.heap.objs.size, [s1.heap.objs.size], _, _, H1, rfl, I1.kept (t' := s1.toks) fun b o e => Heap.get?_push_of_some _ e, turn_tuple a _, ⟨_, Heap.get?_push_size _ rfl, rfl, rfl⟩, fun b hb => ?_, q⟩
 have e : b = s1.heap.objs.size := by simpa using hb
 subst e
 exact I1.fpOk (Nat.le_refl _) (I1.hok.fresh (Nat.le_refl _))
theorem range_it {pins : List (Addr × Obj)} {σ : St} {H : Hp} {s : Shared} {R : It → Hp → Prop} {E : Value → Shared → Prop} {lo hi : Int} {t u v : Tok} {tk : Nat} (I : Inv X pins σ H s) (h1 : -(2 ^ 62) ≤ lo) (h2 : lo < 2 ^ 62) (h3 : -(2 ^ 62) ≤ hi) (h4 : hi < 2 ^ 62)
  (q : R (Itr lo (hi - lo).toNat) H) : wpAny (model X.prog X.w) X.A (pyIter (.ref s.heap.objs.size)) (PIE X pins σ tg R) E { s with heap := s.heap.push { cls := .type "range", data := .fields #[.int lo t, .int hi u, .int 1 v] }, toks := tk } := by
 refine wpAny_pyIter_range (IsRange.new ..) (small_one h1 h2 h3 h4) ?_
 have I1 : Inv X pins σ H { s with heap := s.heap.push { cls := .type "range", data := .fields #[.int lo t, .int hi u, .int 1 v] }, toks := tk } := I.kept fun b o e => Heap.get?_push_of_some _ e
 refine ⟨(s.heap.push { cls := .type "range", data := .fields #[.int lo t, .int hi u, .int 1 v] }).objs.size, [(s.heap.push { cls := .type "range", data := .fields #[.int lo t, .int hi u, .int 1 v] }).objs.size], _, _, H, rfl,
  I1.kept (t' := tk) fun b o e => Heap.get?_push_of_some _ e, turn_range _ lo (hi - lo).toNat, ?_, fun b hb => ?_, q⟩
 ·have e1 : lo + ((0 : Nat) : Int) * 1 = lo := by simp
  have e2 : (((hi - lo).toNat : Nat) : Int) - ((0 : Nat) : Int) = Builtin.Range.rangeSize lo hi 1 := by rw [rangeSize_one]; split <;> omega
  show IsRangeIter _ _ (lo + ((0 : Nat) : Int) * 1) ((((hi - lo).toNat : Nat) : Int) - ((0 : Nat) : Int)) 1
  rw [e1, e2]
  exact Heap.get?_push_size _ rfl
 ·have e : b = (s.heap.push { cls := .type "range", data := .fields #[.int lo t, .int hi u, .int 1 v] }).objs.size := by simpa using hb
  subst e
  exact I1.fpOk (Nat.le_refl _) (I1.hok.fresh (Nat.le_refl _))
def iRng1 (ta : TA) : TI := fun σ H R => ta σ H fun vs H1 => ∃ j : Int, vs = [.int j] ∧ -(2 ^ 62) ≤ j ∧ j < 2 ^ 62 ∧ R (Itr 0 j.toNat) H1
theorem pi_range1 {a : Expr} {ta : TA} {p pos : Pos} (hg : Gl X "range") (hm : X.mg "range" = none) (ha : PA X [a] ta) (hs : starEach [a] X.env = [(false, eval a X.env)] := by rfl) : PI X tg (.Call (.Name "range" p) [a] [] pos) (iRng1 ta) := by
 intro pins s σ H R I h
 refine Call_ (ld_blt I hg hm boot_range (PyProof.Rows.callWith_type1 (thn (ha pos pins s σ H _ I h) fun us s1 ho_ => ?_) hs rfl))
 obtain ⟨vs, H1, I1, r1, q1⟩ := ho_
 obtain ⟨j, e, q1, q2, q⟩ := q1
 subst e
 cases r1 with
 | cons r rr =>
  cases rr
  obtain ⟨t, rfl⟩ := r
  exact call_range_1 (range_it I1 (by omega) (by omega) q1 q2 (by simpa using q))
def tFor (wi : TI) (g : TG) (tb : TS) : TS := fun D σ H => wi σ H fun J H1 => ∃ W : Nat → Nat → St → Hp → Prop, (∃ m, W 0 m σ H1) ∧ ∀ i m σ H, W i m σ H →
 (J.stop i H ∧ D.nx σ H) ∨ (J.go i H ∧ ∃ N : St → Hp → Prop, (∀ σ' H', N σ' H' → ∃ m', m' < m ∧ W (i + 1) m' σ' H') ∧ ∀ x H', J.yld i H x H' → g x σ H' fun σ2 H2 => tb { D with nx := N, ct := N, bk := D.nx } σ2 H2)
def pinsAt (fp : List Addr) (h : Heap) : List (Addr × Obj) := fp.filterMap fun b => (h.get? b).map fun o => (b, o)
theorem mem_pinsAt {fp : List Addr} {h : Heap} {b : Addr} {o : Obj} (hb : b ∈ fp) (e : h.get? b = some o) : (b, o) ∈ pinsAt fp h := List.mem_filterMap.mpr ⟨b, hb, by rw [e]; rfl⟩
theorem of_pinsAt {fp : List Addr} {h : Heap} {p : Addr × Obj} (hp : p ∈ pinsAt fp h) : p.1 ∈ fp ∧ h.get? p.1 = some p.2 := by
 obtain ⟨b, hb, e⟩ := List.mem_filterMap.mp hp
 cases q : h.get? b with
 | none => rw [q] at e; cases e
 | some o =>
  rw [q] at e
  have e' : (b, o) = p := Option.some.inj e
  subst e'
  exact ⟨hb, q⟩
theorem Inv.pinned {pins : List (Addr × Obj)} {σ : St} {H : Hp} {s : Shared} {fp : List Addr} (I : Inv X pins σ H s) (hf : ∀ b ∈ fp, FpOk X pins H b) (ho : ∀ b ∈ fp, ∃ o, s.heap.get? b = some o ∧ ∀ v, o.data ≠ .cell v) : Inv X (pins ++ pinsAt fp s.heap) σ H s :=
 I.pins_of fun p hp => (List.mem_append.mp hp).elim (fun z => I.pin p (List.mem_append_right _ z)) fun z => by
  obtain ⟨hb, e⟩ := of_pinsAt z
  obtain ⟨f0, f1, f2, _⟩ := hf p.1 hb
  obtain ⟨o, e', d⟩ := ho p.1 hb
  rw [e] at e'; cases e'
  exact ⟨e, f0, f1, f2, d⟩
theorem Inv.unpinned {pins pl : List (Addr × Obj)} {σ : St} {H : Hp} {s : Shared} (I : Inv X (pins ++ pl) σ H s) : Inv X pins σ H s := I.pins_of fun p hp => I.pin p (List.mem_append_right _ (List.mem_append_left _ hp))
theorem ps_for {iter : Expr} {body : List Stmt} {wi : TI} {g : TG} {tb : TS} {pos : Pos} (hp : PassesOwn (model X.prog X.w) X.A X.env X.xe) (hc : X.calm = true) (hi : PI X tg iter wi) (hg : PG X tg g) (hb : PSs X body tb)
  (hs : ∀ x, foldedSetIterable iter X.env x = pure x := by intro _; rfl) : PS X (.For tg iter body [] pos) (tFor wi g tb) := by
 intro pins s σ H D I h
 refine wpAny_For (thn (hi pins s σ H _ I h) fun v s1 h1 => thn h1 fun itv s2 h2 => ?_) hs
 obtain ⟨it, fp, tn, J, H2, e, I2, T, st2, f2, W, ⟨m0, w0⟩, turn⟩ := h2
 subst e
 have stat : ∀ {H' : Hp}, (∀ b ∈ fp, H' b = none) → ∀ b ∈ fp, FpOk X pins H' b := fun hn b hb => ⟨hn b hb, (f2 b hb).2⟩
 refine codeAny_forLoop_any (fun n s' => ∃ i σ' H', Inv X pins σ' H' s' ∧ tn i s'.heap ∧ (∀ b ∈ fp, H' b = none) ∧ W i n σ' H') ?_ m0 ⟨0, σ, H2, I2, st2, fun b hb => (f2 b hb).1, w0⟩
 rintro n s3 ⟨i, σ3, H3, I3, st3, fr3, w3⟩
 rcases turn i n σ3 H3 w3 with ⟨stop, qn⟩ | ⟨go, N, hN, step⟩
 ·refine wpAny_passesOwn hp (thn (T.done X rfl rfl rfl hc i pins s3 σ3 H3 X.xe I3 (stat fr3) st3 stop) fun r s4 ho_ => ?_)
  obtain ⟨hr, I4⟩ := ho_
  subst hr
  exact wpAny_execs_nil ⟨σ3, H3, I4, qn⟩
 ·refine wpAny_passesOwn hp (thn (T.item X rfl rfl rfl hc i pins s3 σ3 H3 X.xe I3 (stat fr3) st3 go) fun r s4 ho_ => ?_)
  obtain ⟨u, hr, h4⟩ := ho_
  subst hr
  refine wpAny_passesOwn hp (thn h4 fun _ s5 ho_ => ?_)
  obtain ⟨x, H5, I5, r5, y5, st5, fr5⟩ := ho_
  have I5' := I5.pinned (stat fr5) (T.obj _ _ st5)
  refine wpAny_passesOwn hp (thn (hg _ s5 σ3 H5 x u _ I5' r5 (step x H5 y5)) fun _ s6 ho_ => ?_)
  obtain ⟨σ6, H6, I6, q6⟩ := ho_
  refine wpAny_passesOwn hp (thn (hb _ s6 σ6 H6 _ I6 q6) fun f s7 q7 => ?_)
  have again : ∀ {σ7 : St} {H7 : Hp}, Inv X (pins ++ pinsAt fp s5.heap) σ7 H7 s7 → N σ7 H7 → ∃ m, m < n ∧ ∃ i σ' H', Inv X pins σ' H' s7 ∧ tn i s7.heap ∧ (∀ b ∈ fp, H' b = none) ∧ W i m σ' H' := fun {σ7 H7} I7 n7 => by
   obtain ⟨m', hm, w7⟩ := hN σ7 H7 n7
   refine ⟨m', hm, i + 1, σ7, H7, I7.unpinned, T.keep _ _ _ st5 fun b hb o e => (I7.pin (b, o) (List.mem_append_right _ (List.mem_append_right _ (mem_pinsAt hb e)))).1, fun b hb => ?_, w7⟩
   obtain ⟨o, e, d⟩ := T.obj _ _ st5 b hb
   exact (I7.pin (b, o) (List.mem_append_right _ (List.mem_append_right _ (mem_pinsAt hb e)))).2.1
  cases f with
  | next => obtain ⟨σ7, H7, I7, n7⟩ := q7; exact again I7 n7
  | cont => obtain ⟨σ7, H7, I7, n7⟩ := q7; exact again I7 n7
  | brk => obtain ⟨σ7, H7, I7, q7⟩ := q7; exact ⟨σ7, H7, I7.unpinned, q7⟩
  | ret v => obtain ⟨x7, σ7, H7, I7, r7, q7⟩ := q7; exact ⟨x7, σ7, H7, I7.unpinned, r7, q7⟩
end
theorem for_list {K : PySem.W.Frag} {a : Addr} {xs : List V} {g : TG} {tb : TS} {D : Ends} {σ : St} {H : Hp} (Pv : Nat → St → Hp → Prop) (h0 : Pv 0 σ H) (hl : ∀ i σ H, i ≤ xs.length → Pv i σ H → SqL K H a xs)
  (hs : ∀ i x σ H, xs[i]? = some x → Pv i σ H → g x σ H fun σ2 H2 => tb { D with nx := Pv (i + 1), ct := Pv (i + 1), bk := D.nx } σ2 H2) (hd : ∀ σ H, Pv xs.length σ H → D.nx σ H) :
  ∃ W : Nat → Nat → St → Hp → Prop, (∃ m, W 0 m σ H) ∧ ∀ i m σ H, W i m σ H →
   ((Itl K a).stop i H ∧ D.nx σ H) ∨ ((Itl K a).go i H ∧ ∃ N : St → Hp → Prop, (∀ σ' H', N σ' H' → ∃ m', m' < m ∧ W (i + 1) m' σ' H') ∧ ∀ x H', (Itl K a).yld i H x H' → g x σ H' fun σ2 H2 => tb { D with nx := N, ct := N, bk := D.nx } σ2 H2) := by
 refine ⟨fun i m σ H => m = xs.length - i ∧ i ≤ xs.length ∧ Pv i σ H, ⟨xs.length, by simp, Nat.zero_le _, h0⟩, ?_⟩
 rintro i m σ H ⟨rfl, hi, p⟩
 have q := hl i σ H hi p
 by_cases hlt : i < xs.length
 ·refine .inr ⟨⟨xs, xs[i], q, by simp [hlt]⟩, Pv (i + 1), fun σ' H' p' => ⟨xs.length - (i + 1), by omega, rfl, hlt, p'⟩, fun x H' y => ?_⟩
  obtain ⟨e, y⟩ := y
  subst e
  exact hs i x σ _ (y xs q) p
 ·have e : i = xs.length := by omega
  subst e
  exact .inl ⟨⟨xs, q, Nat.le_refl _⟩, hd σ H p⟩
theorem for_tup {K : PySem.W.Frag} {a : Addr} {xs : List V} {g : TG} {tb : TS} {D : Ends} {σ : St} {H : Hp} (Pv : Nat → St → Hp → Prop) (h0 : Pv 0 σ H) (hl : ∀ i σ H, i ≤ xs.length → Pv i σ H → SqT K H a xs)
  (hs : ∀ i x σ H, xs[i]? = some x → Pv i σ H → g x σ H fun σ2 H2 => tb { D with nx := Pv (i + 1), ct := Pv (i + 1), bk := D.nx } σ2 H2) (hd : ∀ σ H, Pv xs.length σ H → D.nx σ H) :
  ∃ W : Nat → Nat → St → Hp → Prop, (∃ m, W 0 m σ H) ∧ ∀ i m σ H, W i m σ H →
   ((Itt K a).stop i H ∧ D.nx σ H) ∨ ((Itt K a).go i H ∧ ∃ N : St → Hp → Prop, (∀ σ' H', N σ' H' → ∃ m', m' < m ∧ W (i + 1) m' σ' H') ∧ ∀ x H', (Itt K a).yld i H x H' → g x σ H' fun σ2 H2 => tb { D with nx := N, ct := N, bk := D.nx } σ2 H2) := by
 refine ⟨fun i m σ H => m = xs.length - i ∧ i ≤ xs.length ∧ Pv i σ H, ⟨xs.length, by simp, Nat.zero_le _, h0⟩, ?_⟩
 rintro i m σ H ⟨rfl, hi, p⟩
 have q := hl i σ H hi p
 by_cases hlt : i < xs.length
 ·refine .inr ⟨⟨xs, xs[i], q, by simp [hlt]⟩, Pv (i + 1), fun σ' H' p' => ⟨xs.length - (i + 1), by omega, rfl, hlt, p'⟩, fun x H' y => ?_⟩
  obtain ⟨e, y⟩ := y
  subst e
  exact hs i x σ _ (y xs q) p
 ·have e : i = xs.length := by omega
  subst e
  exact .inl ⟨⟨xs, q, Nat.le_refl _⟩, hd σ H p⟩
theorem for_range {lo : Int} {n : Nat} {g : TG} {tb : TS} {D : Ends} {σ : St} {H : Hp} (Pv : Nat → St → Hp → Prop) (h0 : Pv 0 σ H)
  (hs : ∀ i σ H, i < n → Pv i σ H → g (.int (lo + i)) σ H fun σ2 H2 => tb { D with nx := Pv (i + 1), ct := Pv (i + 1), bk := D.nx } σ2 H2) (hd : ∀ σ H, Pv n σ H → D.nx σ H) :
  ∃ W : Nat → Nat → St → Hp → Prop, (∃ m, W 0 m σ H) ∧ ∀ i m σ H, W i m σ H →
   ((Itr lo n).stop i H ∧ D.nx σ H) ∨ ((Itr lo n).go i H ∧ ∃ N : St → Hp → Prop, (∀ σ' H', N σ' H' → ∃ m', m' < m ∧ W (i + 1) m' σ' H') ∧ ∀ x H', (Itr lo n).yld i H x H' → g x σ H' fun σ2 H2 => tb { D with nx := N, ct := N, bk := D.nx } σ2 H2) := by
 refine ⟨fun i m σ H => m = n - i ∧ i ≤ n ∧ Pv i σ H, ⟨n, by simp, Nat.zero_le _, h0⟩, ?_⟩
 rintro i m σ H ⟨rfl, hi, p⟩
 by_cases hlt : i < n
 ·refine .inr ⟨hlt, Pv (i + 1), fun σ' H' p' => ⟨n - (i + 1), by omega, rfl, hlt, p'⟩, fun x H' y => ?_⟩
  obtain ⟨e, y⟩ := y
  subst e y
  exact hs i σ _ hlt p
 ·have e : i = n := by omega
  subst e
  exact .inl ⟨Nat.le_refl _, hd σ H p⟩
end L2
namespace L2
open PySem PySem.Spec PyProof.Rows
abbrev R2 := V → V → Hp → VK → Prop
def OpR (X : Cx) (f : Value → Value → Sem Value) (r : R2) : Prop :=
 ∀ (pins : List (Addr × Obj)) (s : Shared) (σ : St) (H : Hp) (x y : V) (v u : Value) (Q : VK), Inv X pins σ H s → RelV x v → RelV y u → r x y H Q →
  wpAny (model X.prog X.w) X.A (f v u) (EP X pins σ Q) X.xe s
def CallR (X : Cx) (f : Value) (r : List V → Hp → VK → Prop) : Prop :=
 ∀ (pins : List (Addr × Obj)) (s : Shared) (σ : St) (H : Hp) (xs : List V) (us : List Value) (Q : VK), Inv X pins σ H s → Vals xs us → r xs H Q →
  wpAny (model X.prog X.w) X.A (call f us) (EP X pins σ Q) X.xe s
def tOp (r : R2) (ta tb : TE) : TE := fun σ H Q => ta σ H fun x H1 => tb σ H1 fun y H2 => r x y H2 Q
def rI (C : Int → Int → Prop) (g : Int → Int → V) : R2 := fun x y H Q => ∃ i j, x = .int i ∧ y = .int j ∧ C i j ∧ Q (g i j) H
def rI0 (g : Int → Int → V) : R2 := fun x y H Q => ∃ i j, x = .int i ∧ y = .int j ∧ Q (g i j) H
section
variable {X : Cx} {a b c : Expr} {ta tb tc : TE} {pos : Pos}
theorem binT (ha : PE X a ta) (hb : PE X b tb) {pins : List (Addr × Obj)} {s : Shared} {σ : St} {H : Hp} {R : V → V → Hp → Prop} (I : Inv X pins σ H s)
  (h : ta σ H fun x H1 => tb σ H1 fun y H2 => R x y H2) {Q : Value → Shared → Prop} {f : Value → Value → Sem Value}
  (hf : ∀ v u s2 x y H2, Inv X pins σ H2 s2 → RelV x v → RelV y u → R x y H2 → wpAny (model X.prog X.w) X.A (f v u) Q X.xe s2) :
  wpAny (model X.prog X.w) X.A (eval a X.env) (fun v s₁ => wpAny (model X.prog X.w) X.A (eval b X.env) (fun u s₂ => wpAny (model X.prog X.w) X.A (f v u) Q X.xe s₂) X.xe s₁) X.xe s := by
 refine thn (ha pins s σ H _ I h) fun v s1 ho_ => ?_
 obtain ⟨x, H1, I1, r1, q1⟩ := ho_
 refine thn (hb pins s1 σ H1 _ I1 q1) fun u s2 ho_ => ?_
 obtain ⟨y, H2, I2, r2, q2⟩ := ho_
 exact hf v u s2 x y H2 I2 r1 r2 q2
theorem pe_op {op : Operator} {r : R2} (ho : OpR X (binaryOp op) r) (ha : PE X a ta) (hb : PE X b tb) : PE X (.BinOp a op b pos) (tOp r ta tb) := by
 intro pins s σ H Q I h
 exact wpAny_BinOp (binT ha hb I h fun v u s2 x y H2 I2 rx ry q => ho pins s2 σ H2 x y v u Q I2 rx ry q)
theorem opI {f : Value → Value → Sem Value} {C : Int → Int → Prop} {g : Int → Int → Int}
  (rule : ∀ (i j : Int) (t u : Tok) (s : Shared) (Q : Value → Shared → Prop) (E : Value → Shared → Prop), C i j → Q (.int (g i j) s.toks) { s with toks := s.toks + 1 } → wpAny (model X.prog X.w) X.A (f (.int i t) (.int j u)) Q E s) :
  OpR X f (rI C fun i j => .int (g i j)) := by
 intro pins s σ H x y v u Q I rx ry h
 obtain ⟨i, j, rfl, rfl, hc, q⟩ := h
 obtain ⟨t, rfl⟩ := rx
 obtain ⟨t', rfl⟩ := ry
 exact rule i j t t' s _ _ hc ⟨.int (g i j), H, I.tok _, ⟨_, rfl⟩, q⟩
theorem opI0 {f : Value → Value → Sem Value} {g : Int → Int → Int}
  (rule : ∀ (i j : Int) (t u : Tok) (s : Shared) (Q : Value → Shared → Prop) (E : Value → Shared → Prop), Q (.int (g i j) s.toks) { s with toks := s.toks + 1 } → wpAny (model X.prog X.w) X.A (f (.int i t) (.int j u)) Q E s) :
  OpR X f (rI0 fun i j => .int (g i j)) := by
 intro pins s σ H x y v u Q I rx ry h
 obtain ⟨i, j, rfl, rfl, q⟩ := h
 obtain ⟨t, rfl⟩ := rx
 obtain ⟨t', rfl⟩ := ry
 exact rule i j t t' s _ _ ⟨.int (g i j), H, I.tok _, ⟨_, rfl⟩, q⟩
theorem opB0 {f : Value → Value → Sem Value} {g : Int → Int → Bool}
  (rule : ∀ (i j : Int) (t u : Tok) (s : Shared) (Q : Value → Shared → Prop) (E : Value → Shared → Prop), Q (.bool (g i j)) s → wpAny (model X.prog X.w) X.A (f (.int i t) (.int j u)) Q E s) :
  OpR X f (rI0 fun i j => .bl (g i j)) := by
 intro pins s σ H x y v u Q I rx ry h
 obtain ⟨i, j, rfl, rfl, q⟩ := h
 obtain ⟨t, rfl⟩ := rx
 obtain ⟨t', rfl⟩ := ry
 exact rule i j t t' s _ _ ⟨.bl (g i j), H, I, rfl, q⟩
def CPow (i j : Int) : Prop := 0 ≤ j ∧ j ≤ 1000000 ∧ i.natAbs < 2 ^ 64
def CMul (i j : Int) : Prop := (-(2 ^ 64) < i ∧ i < 2 ^ 64) ∨ (-(2 ^ 64) < j ∧ j < 2 ^ 64)
theorem CMul.ok {i j : Int} (h : CMul i j) : IntMulOk i j := by
 rcases h with ⟨h1, h2⟩ | ⟨h1, h2⟩
 ·exact .of_left (intBits_le_64 h1 h2)
 ·exact .of_right (intBits_le_64 h1 h2)
theorem op_add : OpR X (binaryOp .Add) (rI0 fun i j => .int (i + j)) := opI0 fun _ _ _ _ _ _ _ q => add_int q
theorem op_mul : OpR X (binaryOp .Mult) (rI CMul fun i j => .int (i * j)) := opI fun _ _ _ _ _ _ _ hc q => mul_int q hc.ok
theorem op_mod : OpR X (binaryOp .Mod) (rI (fun _ j => 0 < j) fun i j => .int (i % j)) := opI fun i j _ _ _ _ _ hc q => by
 have h1 : (0 : Int) < j := hc
 exact mod_int' (by omega) (by rw [Int.fmod_eq_emod_of_nonneg i (by omega)]; exact q)
theorem op_pow : OpR X (binaryOp .Pow) (rI CPow fun i j => .int (i ^ j.toNat)) := opI fun _ _ _ _ _ _ _ hc q => pow_int_small hc.1 hc.2.1 hc.2.2 q
end
def scal : V → V → Bool
 | .non, .non => true | .non, .int _ => true | .int _, .non => true | .non, .bl _ => true | .bl _, .non => true | .non, .str _ => true | .str _, .non => true
 | .int _, .int _ => true | .bl _, .bl _ => true | .str _, .str _ => true | .byt _, .byt _ => true
 | .int _, .str _ => true | .str _, .int _ => true | .bl _, .str _ => true | .str _, .bl _ => true
 | _, _ => false
def rEq : R2 := fun x y H Q => scal x y = true ∧ Q (.bl (decide (x = y))) H
def rNe : R2 := fun x y H Q => scal x y = true ∧ Q (.bl (!decide (x = y))) H
theorem dec_int {i j : Int} : decide (V.int i = V.int j) = (i == j) := by
 rw [Bool.eq_iff_iff]
 simp
theorem dec_bl {i j : Bool} : decide (V.bl i = V.bl j) = (i == j) := by
 rw [Bool.eq_iff_iff]
 simp
theorem dec_str {i j : Str} : decide (V.str i = V.str j) = (i == j) := by
 rw [Bool.eq_iff_iff]
 simp
theorem dec_byt {i j : Array UInt8} : decide (V.byt i = V.byt j) = (i.toList == j.toList) := by
 rw [Bool.eq_iff_iff]
 cases i
 cases j
 simp
section
variable {X : Cx} {a b c : Expr} {ta tb tc : TE} {pos : Pos}
theorem fin_bl {pins : List (Addr × Obj)} {σ : St} {H : Hp} {s : Shared} {Q : VK} {k k' : Bool} (I : Inv X pins σ H s) (q : Q (.bl k) H) (e : k = k') : EP X pins σ Q (.bool k') s := by
 subst e
 exact ⟨.bl k, H, I, rfl, q⟩
theorem op_eq : OpR X (compareOp .Eq) rEq := by
 intro pins s σ H x y v u Q I rx ry h
 obtain ⟨hs, q⟩ := h
 cases x with
 | non =>
  cases rx
  cases y with
  | non => cases ry; exact PySem.EqNone.eq_none_none (fin_bl I q (by simp))
  | bl j => cases ry; exact PySem.EqNone.eq_none_bool (fin_bl I q (by simp))
  | int j => obtain ⟨t', rfl⟩ := ry; exact PySem.EqNone.eq_none_int (fin_bl I q (by simp))
  | str j => obtain ⟨t', rfl⟩ := ry; exact PySem.EqNone.eq_none_str (fin_bl I q (by simp))
  | _ => exact absurd (show false = true from hs) Bool.false_ne_true
 | bl i =>
  cases rx
  cases y with
  | non => cases ry; exact PySem.EqNone.eq_bool_none (fin_bl I q (by simp))
  | bl j => cases ry; exact eq_bool (fin_bl I q dec_bl)
  | str j => obtain ⟨t', rfl⟩ := ry; exact PySem.EqMixed.eq_bool_str (fin_bl I q (by simp))
  | _ => exact absurd (show false = true from hs) Bool.false_ne_true
 | int i =>
  obtain ⟨t, rfl⟩ := rx
  cases y with
  | non => cases ry; exact PySem.EqNone.eq_int_none (fin_bl I q (by simp))
  | int j => obtain ⟨t', rfl⟩ := ry; exact eq_int (fin_bl I q dec_int)
  | str j => obtain ⟨t', rfl⟩ := ry; exact PySem.EqMixed.eq_int_str (fin_bl I q (by simp))
  | _ => exact absurd (show false = true from hs) Bool.false_ne_true
 | str i =>
  obtain ⟨t, rfl⟩ := rx
  cases y with
  | non => cases ry; exact PySem.EqNone.eq_str_none (fin_bl I q (by simp))
  | bl j => cases ry; exact PySem.EqMixed.eq_str_bool (fin_bl I q (by simp))
  | int j => obtain ⟨t', rfl⟩ := ry; exact PySem.EqMixed.eq_str_int (fin_bl I q (by simp))
  | str j => obtain ⟨t', rfl⟩ := ry; exact eq_str (fin_bl I q dec_str)
  | _ => exact absurd (show false = true from hs) Bool.false_ne_true
 | byt i =>
  obtain ⟨t, rfl⟩ := rx
  cases y with
  | byt j => obtain ⟨t', rfl⟩ := ry; exact PySem.W.eq_bytes (fin_bl I q dec_byt)
  | _ => exact absurd (show false = true from hs) Bool.false_ne_true
 | _ => cases y <;> exact absurd (show false = true from hs) Bool.false_ne_true
theorem op_ne : OpR X (compareOp .NotEq) rNe := by
 intro pins s σ H x y v u Q I rx ry h
 obtain ⟨hs, q⟩ := h
 cases x with
 | non =>
  cases rx
  cases y with
  | non => cases ry; exact PySem.EqNone.ne_none_none (fin_bl I q (by simp))
  | bl j => cases ry; exact PySem.EqNone.ne_none_bool (fin_bl I q (by simp))
  | int j => obtain ⟨t', rfl⟩ := ry; exact PySem.EqNone.ne_none_int (fin_bl I q (by simp))
  | str j => obtain ⟨t', rfl⟩ := ry; exact PySem.EqNone.ne_none_str (fin_bl I q (by simp))
  | _ => exact absurd (show false = true from hs) Bool.false_ne_true
 | bl i =>
  cases rx
  cases y with
  | non => cases ry; exact PySem.EqNone.ne_bool_none (fin_bl I q (by simp))
  | bl j => cases ry; exact ne_bool (fin_bl I q (congrArg not dec_bl))
  | str j => obtain ⟨t', rfl⟩ := ry; exact PySem.EqMixed.ne_bool_str (fin_bl I q (by simp))
  | _ => exact absurd (show false = true from hs) Bool.false_ne_true
 | int i =>
  obtain ⟨t, rfl⟩ := rx
  cases y with
  | non => cases ry; exact PySem.EqNone.ne_int_none (fin_bl I q (by simp))
  | int j => obtain ⟨t', rfl⟩ := ry; exact ne_int (fin_bl I q (congrArg not dec_int))
  | str j => obtain ⟨t', rfl⟩ := ry; exact PySem.EqMixed.ne_int_str (fin_bl I q (by simp))
  | _ => exact absurd (show false = true from hs) Bool.false_ne_true
 | str i =>
  obtain ⟨t, rfl⟩ := rx
  cases y with
  | non => cases ry; exact PySem.EqNone.ne_str_none (fin_bl I q (by simp))
  | bl j => cases ry; exact PySem.EqMixed.ne_str_bool (fin_bl I q (by simp))
  | int j => obtain ⟨t', rfl⟩ := ry; exact PySem.EqMixed.ne_str_int (fin_bl I q (by simp))
  | str j => obtain ⟨t', rfl⟩ := ry; exact ne_str (fin_bl I q (congrArg not dec_str))
  | _ => exact absurd (show false = true from hs) Bool.false_ne_true
 | byt i =>
  obtain ⟨t, rfl⟩ := rx
  cases y with
  | byt j => obtain ⟨t', rfl⟩ := ry; exact PySem.W.ne_bytes (fin_bl I q (congrArg not dec_byt))
  | _ => exact absurd (show false = true from hs) Bool.false_ne_true
 | _ => cases y <;> exact absurd (show false = true from hs) Bool.false_ne_true
theorem op_lt : OpR X (compareOp .Lt) (rI0 fun i j => .bl (decide (i < j))) := opB0 fun _ _ _ _ _ _ _ q => lt_int q
theorem op_le : OpR X (compareOp .LtE) (rI0 fun i j => .bl (decide (i ≤ j))) := opB0 fun _ _ _ _ _ _ _ q => le_int q
theorem op_gt : OpR X (compareOp .Gt) (rI0 fun i j => .bl (decide (j < i))) := opB0 fun _ _ _ _ _ _ _ q => gt_int q
theorem op_ge : OpR X (compareOp .GtE) (rI0 fun i j => .bl (decide (j ≤ i))) := opB0 fun _ _ _ _ _ _ _ q => ge_int q
theorem op_in_str : OpR X (compareOp .In) (fun x y H Q => ∃ i j, x = .str i ∧ y = .str j ∧ Q (.bl (!(Builtin.Str.occurrences j i 0 j.length 1).isEmpty)) H) := by
 intro pins s σ H x y v u Q I rx ry h
 obtain ⟨i, j, rfl, rfl, q⟩ := h
 obtain ⟨t, rfl⟩ := rx
 obtain ⟨t', rfl⟩ := ry
 exact in_str (fin_bl I q rfl)
theorem nomark (b : Expr) {op : CmpOp} (h : op ≠ .In := by decide) (h2 : op ≠ .NotIn := by decide) : behindInMarks op b = false := by
 have e1 : (op == CmpOp.In) = false := by cases op <;> first | rfl | exact absurd rfl h
 have e2 : (op == CmpOp.NotIn) = false := by cases op <;> first | rfl | exact absurd rfl h2
 cases b <;> simp [behindInMarks, e1, e2]
theorem pe_cmpR {op : CmpOp} {r : R2} (ho : OpR X (compareOp op) r) (ha : PE X a ta) (hb : PE X b tb) (hm : behindInMarks op b = false) : PE X (.Compare a [op] [b] pos) (tOp r ta tb) := by
 intro pins s σ H Q I h
 exact wpAny_Compare1 (binT ha hb I h fun v u s2 x y H2 I2 rx ry q => ho pins s2 σ H2 x y v u Q I2 rx ry q) hm
def tTest (t : TE) : TT := fun σ H Q => t σ H fun x H' => ∃ k, x = .bl k ∧ Q k H'
theorem pt_cmpR {op : CmpOp} {r : R2} (ho : OpR X (compareOp op) r) (ha : PE X a ta) (hb : PE X b tb) (hm : behindInMarks op b = false) : PT X (.Compare a [op] [b] pos) (tTest (tOp r ta tb)) := by
 intro pins s σ H Q I h
 refine wpAny_isTrue_Compare1 (thn (ha pins s σ H _ I h) fun v s1 ⟨x, H1, I1, r1, q1⟩ => thn (hb pins s1 σ H1 _ I1 q1) fun u s2 ⟨y, H2, I2, r2, q2⟩ =>
  thn (ho pins s2 σ H2 x y v u _ I2 r1 r2 q2) fun c s3 ⟨z, H3, I3, r3, k, e, q3⟩ => ?_) hm
 subst e
 cases r3
 exact wpAny_truthy_bool ⟨H3, I3, q3⟩
def tChain (r r' : R2) (ta tb tc : TE) : TE := fun σ H Q => ta σ H fun x H1 => tb σ H1 fun y H2 => r x y H2 fun z H3 => ∃ k, z = .bl k ∧
 (if k = true then tc σ H3 fun w' H4 => r' y w' H4 Q else Q (.bl false) H3)
theorem pe_chain {op op' : CmpOp} {r r' : R2} (ho : OpR X (compareOp op) r) (ho' : OpR X (compareOp op') r') (ha : PE X a ta) (hb : PE X b tb) (hc : PE X c tc)
  (hm : lastMarks [op, op'] [b, c] = false := by with_unfolding_all rfl) : PE X (.Compare a [op, op'] [b, c] pos) (tChain r r' ta tb tc) := by
 intro pins s σ H Q I h
 refine Compare_chain (thn (ha pins s σ H _ I h) fun v s1 ⟨x, H1, I1, r1, q1⟩ => chain_link (thn (hb pins s1 σ H1 _ I1 q1) fun u s2 ⟨y, H2, I2, r2, q2⟩ =>
  thn (ho pins s2 σ H2 x y v u _ I2 r1 r2 q2) fun d s3 ⟨z, H3, I3, r3, k, e, q3⟩ => ?_)) hm
 subst e
 cases r3
 refine wpAny_truthy_bool ?_
 cases k with
 | false => exact ite_ff ⟨.bl false, H3, I3, rfl, q3⟩
 | true => exact ite_tt (chain_last (thn (hc pins s3 σ H3 _ I3 q3) (by rintro w' s4 ⟨z', H4, I4, r4, q4⟩; exact ho' pins s4 σ H4 y z' u w' Q I4 r2 r4 q4)))
theorem pt_chain {op op' : CmpOp} {r r' : R2} (ho : OpR X (compareOp op) r) (ho' : OpR X (compareOp op') r') (ha : PE X a ta) (hb : PE X b tb) (hc : PE X c tc)
  (hm : lastMarks [op, op'] [b, c] = false := by with_unfolding_all rfl) : PT X (.Compare a [op, op'] [b, c] pos) (tTest (tChain r r' ta tb tc)) := by
 intro pins s σ H Q I h
 refine isTrue_chain (thn (ha pins s σ H _ I h) fun v s1 ⟨x, H1, I1, r1, q1⟩ => test_link (thn (hb pins s1 σ H1 _ I1 q1) fun u s2 ⟨y, H2, I2, r2, q2⟩ =>
  thn (ho pins s2 σ H2 x y v u _ I2 r1 r2 q2) fun d s3 ⟨z, H3, I3, r3, k, e, q3⟩ => ?_)) hm
 subst e
 cases r3
 refine wpAny_truthy_bool ?_
 cases k with
 | false =>
  obtain ⟨k', e', q'⟩ := q3
  cases e'
  exact ite_ff ⟨H3, I3, q'⟩
 | true =>
  refine ite_tt (test_last (thn (hc pins s3 σ H3 _ I3 q3) fun w' s4 ⟨z', H4, I4, r4, q4⟩ => thn (ho' pins s4 σ H4 y z' u w' _ I4 r2 r4 q4) fun d' s5 ho_ => ?_))
  obtain ⟨z2, H5, I5, r5, k2, e2, q5⟩ := ho_
  subst e2
  cases r5
  exact wpAny_truthy_bool ⟨H5, I5, q5⟩
theorem line63 : (sizeLine : Nat) < 2 ^ 63 := by rw [sizeLine_eq]; decide
theorem vals1 {x : V} {us : List Value} (r : Vals [x] us) : ∃ u, us = [u] ∧ RelV x u := by
 cases r with
 | cons r1 r2 => cases r2; exact ⟨_, rfl, r1⟩
theorem vals2 {x y : V} {us : List Value} (r : Vals [x, y] us) : ∃ u w', us = [u, w'] ∧ RelV x u ∧ RelV y w' := by
 cases r with
 | cons r1 r2 =>
  cases r2 with
  | cons r3 r4 => cases r4; exact ⟨_, _, rfl, r1, r3⟩
end
end L2
namespace L2
open PySem PySem.Spec PyProof.Rows
structure ObjM (h : Heap) (x dx C : Addr) (mA : Str → Option Value) : Prop where
 obj : h.get? x = some (PySem.W.instObj C dx)
 ns : h.Ns1 dx mA
 ne : dx ≠ x
theorem lookIn_ns {h : Heap} {dx : Addr} {mA : Str → Option Value} (n : h.Ns1 dx mA) : ∃ od, h.get? dx = some od ∧ ∀ name, PySem.W.lookIn name od = some (mA name) := by
 obtain ⟨o, es, ep, ho, hd, hk, _, hm⟩ := n
 refine ⟨o, ho, fun name => ?_⟩
 have e := hm name
 unfold nsFind findBy at e
 rw [← Array.find?_toList] at e
 unfold PySem.W.lookIn
 rw [hd]
 dsimp only
 split
 ·rename_i y q
  rw [q] at e
  exact congrArg some e
 ·rename_i q
  rw [q] at e
  have a : es.toList.any (·.refKey) = false := by
   rw [List.any_eq_false]
   intro y hy
   obtain ⟨z, t, hkey⟩ := hk y (Array.mem_toList_iff.mp hy)
   simp [DictEntry.refKey, hkey]
  have a' : ¬ es.toList.any (·.refKey) = true := by rw [a]; exact Bool.false_ne_true
  rw [if_neg a']
  exact congrArg some e
theorem ObjM.look {h : Heap} {x dx C : Addr} {mA : Str → Option Value} (I : ObjM h x dx C mA) : ∃ od, PySem.W.InstAt h x (PySem.W.instObj C dx) C (some od) ∧ ∀ name, PySem.W.lookIn name od = some (mA name) :=
 let ⟨od, ho, hl⟩ := lookIn_ns I.ns
 ⟨od, ⟨I.obj, rfl, rfl, ho⟩, hl⟩
section
variable {prog : Program} {w : World} {A : Around} {E : Value → Shared → Prop} {s : Shared} {K : PySem.W.Frag} {x dx C f : Addr} {mA : Str → Option Value} {name : Str} {v : Value}
theorem get_map {expr : Bool} {Q : Value → Shared → Prop} (X : K.In s.heap) (I : ObjM s.heap x dx C mA) (hg : PySem.W.plainGet K C name = true) (hh : PySem.W.hasDictIn K C = true)
  (ha : PySem.W.findIn K (.ref C) name = some none) (hv : mA name = some v) (hv' : PySem.W.handedIn v = true) (h : Q v { s with toks := s.toks + 1 }) :
  wpAny (model prog w) A (getAttr (.ref x) name expr) Q E s := by
 obtain ⟨od, J, hl⟩ := I.look
 exact PySem.W.get_value X J (PySem.W.plainGet_of hg).1 (PySem.W.findObj_own hh ha rfl (by rw [hl, hv])) hv' h
theorem get_meth {pl : Sem Bool} {Q : Value × List Value → Shared → Prop} (X : K.In s.heap) (I : ObjM s.heap x dx C mA) (hg : PySem.W.plainGet K C name = true)
  (hf : PySem.W.findIn K (.ref C) name = some (some (.ref f))) (ht : PySem.W.isFn K (.ref f) = true) (hv : mA name = none) (h : Q (.ref f, [.ref x]) s) :
  wpAny (model prog w) A (getMethod (.ref x) name pl) Q E s := by
 obtain ⟨od, J, hl⟩ := I.look
 exact PySem.W.method_fn X J (PySem.W.plainGet_of hg).1 (PySem.W.plainGet_of hg).2 hf (beq_iff_eq.mp ht) (by show (PySem.W.lookIn name od).map (·.isSome) = some false; rw [hl, hv]; rfl) h
theorem set_map {ns : List Str} {Q : Unit → Shared → Prop} (X : K.In s.heap) (I : ObjM s.heap x dx C mA)
  (hs : PySem.W.findIn K (.ref C) "__setattr__" = some (some (.builtin "object.__setattr__"))) (hp : PySem.W.plainOver K C = true) (ht : PySem.W.takerIn K C name = some none) (hh : PySem.W.hasDictIn K C = true)
  (hw : PySem.Within mA ns) (hsz : ns.length ≤ sizeLine)
  (h : ∀ h', ObjM h' x dx C (fun y => if y = name then some v else mA y) → Heap.SameBut dx s.heap h' → Q () { s with heap := h', toks := s.toks + 2 }) :
  wpAny (model prog w) A (setAttr (.ref x) name v) Q E s := by
 obtain ⟨od, J, hl⟩ := I.look
 refine PySem.W.set_plain X J hs (PySem.W.osa_open (s := { s with toks := s.toks + 1 }) (r := none) X J hp ht fun b => ?_)
 obtain ⟨cd, hc, hd'⟩ := PySem.W.any_some hh
 have hx : s.heap.get? x = some ⟨.ref C, some dx, .plain, #[]⟩ := I.obj
 refine wpAny_bind (wpAny_pure (wpAny_bind (wpAny_bind (wpAny_loadPart hx (wpAny_bind (PySem.W.Looks.here (s := { s with toks := s.toks + 1 }) (PySem.W.looks_clsIn X hc) ?_))))))
 rw [hd']
 refine wpAny_pure (a := some dx) (wpAny_bind (wpAny_pure (wpAny_bind ?_)))
 refine wpAny_nsSet1 (s := { s with toks := s.toks + 1 }) I.ns fun h' hn2 hs2 => ?_
 obtain ⟨oD, esD, epD, hoD, hdD, hcD⟩ := hn2.count (PySem.Within.cons name v hw)
 refine wpAny_bind (wpAny_lookBehind hoD (by rw [hdD]; exact pastItsLine_dict (Nat.le_trans hcD (by rw [List.length_cons]; omega))) ?_)
 exact wpAny_pure (h _ ⟨(hs2.2 _ (Ne.symm I.ne)).trans I.obj, hn2, I.ne⟩ hs2)
theorem make_map {R : Result → Shared → Prop} {vs : List Value} {kw : List (Str × Value)} (X : K.In s.heap) (hm : PySem.W.makesIn K C = true)
  (hi : PySem.W.findIn K (.ref C) "__init__" = some (some (.ref f))) (hf : PySem.W.typeIn K (.ref f) = some (.type "function"))
  (h : codeAny (model prog w) (A.under (.builtin "type.__call__" ⟨.ref C :: vs, kw⟩)) (.call (.ref f) ⟨.ref (s.heap.objs.size + 1) :: vs, kw⟩) (PySem.W.InitBack (s.heap.objs.size + 1) R)
   { s with heap := (s.heap.push PySem.W.emptyDict).push (PySem.W.instObj C s.heap.objs.size) }) :
  codeAny (model prog w) A (.call (.ref C) ⟨vs, kw⟩) R s := by
 obtain ⟨hh, g, d, t, os⟩ := s
 exact PySem.W.make_core (PySem.W.makes_of X hm) (PySem.W.looks_findIn X hi) (fun self => PySem.W.bind_fn X self hf) (.inl rfl) h
end
def putF (f : Str) (v : V) : List (Str × V) → List (Str × V)
 | [] => [(f, v)]
 | (g, x) :: r => if g = f then (g, v) :: r else (g, x) :: putF f v r
theorem lookup_putF (f g : Str) (v : V) : ∀ fs : List (Str × V), (putF f v fs).lookup g = if g = f then some v else fs.lookup g
 | [] => by
  show List.lookup g [(f, v)] = _
  by_cases h : g = f
  ·have hb : (g == f) = true := beq_iff_eq.mpr h
   simp only [List.lookup, hb, if_pos h]
  ·have hb : (g == f) = false := beq_eq_false_iff_ne.mpr h
   simp only [List.lookup, hb, if_neg h]
 | (k, x) :: r => by
  have ih := lookup_putF f g v r
  rw [show putF f v ((k, x) :: r) = (if k = f then (k, v) :: r else (k, x) :: putF f v r) from rfl]
  by_cases hk : k = f
  ·rw [if_pos hk]
   by_cases h : g = k
   ·have hb : (g == k) = true := beq_iff_eq.mpr h
    simp only [List.lookup, hb, if_pos (h.trans hk)]
   ·have hb : (g == k) = false := beq_eq_false_iff_ne.mpr h
    simp only [List.lookup, hb, if_neg (fun e : g = f => h (e.trans hk.symm))]
  ·rw [if_neg hk]
   by_cases h : g = k
   ·have hb : (g == k) = true := beq_iff_eq.mpr h
    simp only [List.lookup, hb, if_neg (fun e : g = f => hk (h.symm.trans e))]
   ·have hb : (g == k) = false := beq_eq_false_iff_ne.mpr h
    simp only [List.lookup, hb]
    exact ih
theorem keys_putF (f : Str) (v : V) : ∀ fs : List (Str × V), f ∈ (putF f v fs).map (·.1) ∧ ∀ g, g ∈ fs.map (·.1) → g ∈ (putF f v fs).map (·.1)
 | [] => ⟨by simp [putF], fun g h => by simp at h⟩
 | (k, x) :: r => by
  obtain ⟨i1, i2⟩ := keys_putF f v r
  rw [show putF f v ((k, x) :: r) = (if k = f then (k, v) :: r else (k, x) :: putF f v r) from rfl]
  by_cases hk : k = f
  ·rw [if_pos hk]
   subst hk
   exact ⟨by simp, fun g h => by simpa using h⟩
  ·rw [if_neg hk]
   refine ⟨?_, fun g h => ?_⟩
   ·rw [List.map_cons]
    exact List.mem_cons_of_mem _ i1
   ·rw [List.map_cons] at h ⊢
    rcases List.mem_cons.mp h with e | e
    ·exact List.mem_cons.mpr (.inl e)
    ·exact List.mem_cons_of_mem _ (i2 g e)
theorem length_putF (f : Str) (v : V) : ∀ fs : List (Str × V), (putF f v fs).length ≤ fs.length + 1
 | [] => by simp [putF]
 | (k, x) :: r => by
  have ih := length_putF f v r
  rw [show putF f v ((k, x) :: r) = (if k = f then (k, v) :: r else (k, x) :: putF f v r) from rfl]
  by_cases hk : k = f
  ·rw [if_pos hk, List.length_cons, List.length_cons]; omega
  ·rw [if_neg hk, List.length_cons, List.length_cons]; omega
theorem RelO.some_of {v : V} {o : Option Value} (r : RelO (some v) o) : ∃ u, o = some u ∧ RelV v u := by
 cases o with
 | none => exact (show False from r).elim
 | some u => exact ⟨u, rfl, r⟩
theorem RelO.none_of {o : Option Value} (r : RelO none o) : o = none := by
 cases o with
 | none => rfl
 | some u => exact (show False from r).elim
theorem handed_of {v : V} {u : Value} (r : RelV v u) : PySem.W.handedIn u = true := by
 cases v with
 | non => cases (show u = Value.none from r); rfl
 | bl b => cases (show u = Value.bool b from r); rfl
 | int i => obtain ⟨t, e⟩ := (show ∃ t, u = Value.int i t from r); cases e; rfl
 | str x => obtain ⟨t, e⟩ := (show ∃ t, u = Value.str x t from r); cases e; rfl
 | byt b => obtain ⟨t, e⟩ := (show ∃ t, u = Value.bytes b t from r); cases e; rfl
 | flt b => obtain ⟨t, e⟩ := (show ∃ t, u = Value.float b t from r); cases e; rfl
 | ref a => cases (show u = Value.ref a from r); rfl
 | ty n => cases (show u = Value.type n from r); rfl
section
variable {P : Program} {w : World} {H H' : Hp} {h h' : Heap} {a C dx : Addr} {fs fs' : List (Str × V)}
theorem ins_get (hok : HOk P w H h) (e : H a = some (.ins C dx fs)) : ∃ mA, ObjM h a dx C mA ∧ (∀ f, RelO (fs.lookup f) (mA f)) ∧ PySem.Within mA (fs.map (·.1)) ∧ fs.length ≤ 1000 ∧ H dx = some (.own a) := by
 obtain ⟨d, z, ne, ob, mA, n, r, q⟩ := (show ObjOk P w H h a (.ins C dx fs) from hok a _ e)
 exact ⟨mA, ⟨ob, n, ne⟩, r, q, z, d⟩
end
structure Cls (K : PySem.W.Frag) (C : Addr) : Prop where
 pg : PySem.W.plainGet K C Str.empty = true
 hd : PySem.W.hasDictIn K C = true
 po : PySem.W.plainOver K C = true
 sa : PySem.W.findIn K (.ref C) "__setattr__" = some (some (.builtin "object.__setattr__"))
theorem Cls.get {K : PySem.W.Frag} {C : Addr} (c : Cls K C) (f : Str) : PySem.W.plainGet K C f = true := c.pg
def NoAttr (K : PySem.W.Frag) (C : Addr) (f : Str) : Prop := PySem.W.findIn K (.ref C) f = some none
theorem NoAttr.taker {K : PySem.W.Frag} {C : Addr} {f : Str} (n : NoAttr K C f) : PySem.W.takerIn K C f = some none := by
 unfold PySem.W.takerIn
 rw [show PySem.W.findIn K (.ref C) f = some none from n]
 rfl
structure Meth (K : PySem.W.Frag) (C : Addr) (m : Str) (f : Addr) : Prop where
 at_ : PySem.W.findIn K (.ref C) m = some (some (.ref f))
 fn : PySem.W.isFn K (.ref f) = true
 kp : PySem.W.keepIn K (.ref f) = true
section
variable {X : Cx} {pins : List (Addr × Obj)} {σ : St} {H : Hp} {s : Shared} {a C dx : Addr} {fs : List (Str × V)} {f : Str} {v : V} {A : Around} {E : Value → Shared → Prop}
theorem getattr_ok {b : Bool} {Q : Value → Shared → Prop} (I : Inv X pins σ H s) (e : H a = some (.ins C dx fs)) (c : Cls X.K C) (n : NoAttr X.K C f) (l : fs.lookup f = some v)
  (h : ∀ u s', Inv X pins σ H s' → RelV v u → Q u s') : wpAny (model X.prog X.w) A (getAttr (.ref a) f b) Q E s := by
 obtain ⟨mA, O, r, _, _, _⟩ := ins_get I.hok e
 obtain ⟨u, hu, ru⟩ := RelO.some_of (v := v) (o := mA f) (by rw [← l]; exact r f)
 exact get_map I.kIn O (c.get f) c.hd n hu (handed_of ru) (h u _ (I.tok _) ru)
theorem getmeth_ok {m : Str} {g : Addr} {pl : Sem Bool} {Q : Value × List Value → Shared → Prop} (I : Inv X pins σ H s) (e : H a = some (.ins C dx fs)) (c : Cls X.K C) (k : Meth X.K C m g) (l : fs.lookup m = none)
  (h : Q (.ref g, [.ref a]) s) : wpAny (model X.prog X.w) A (getMethod (.ref a) m pl) Q E s := by
 obtain ⟨mA, O, r, _, _, _⟩ := ins_get I.hok e
 have hn : mA m = none := RelO.none_of (by rw [← l]; exact r m)
 exact get_meth I.kIn O (c.get m) k.at_ k.fn hn h
theorem setattr_ok {y : V} {u : Value} {Q : Unit → Shared → Prop} (I : Inv X pins σ H s) (e : H a = some (.ins C dx fs)) (c : Cls X.K C) (n : NoAttr X.K C f) (hl : fs.length < 1000) (ry : RelV y u)
  (h : ∀ s', Inv X pins σ (upd H a (.ins C dx (putF f y fs))) s' → Q () s') : wpAny (model X.prog X.w) A (setAttr (.ref a) f u) Q E s := by
 obtain ⟨mA, O, r, wi, _, ho⟩ := ins_get I.hok e
 have hz : (fs.map (·.1)).length ≤ sizeLine := by rw [List.length_map, sizeLine_eq]; omega
 refine set_map I.kIn O c.sa c.po n.taker c.hd wi hz fun h' O' sb => h _ ?_
 have hd : ∃ o, h'.get? dx = some o := let ⟨o, _, _, e', _⟩ := O'.ns; ⟨o, e'⟩
 refine I.write (x := a) (e := dx) (by rw [e]; exact True.intro) (.inr ho) (fun b q hb z => (sb.2 b hb).trans z) hd ?_
 refine ⟨by rw [upd_ne O.ne]; exact ho, ?_, O.ne, O'.obj, _, O'.ns, fun g => ?_, fun g hg => ?_⟩
 ·have := length_putF f y fs; omega
 ·show RelO ((putF f y fs).lookup g) (if g = f then some u else mA g)
  rw [lookup_putF]
  by_cases q : g = f
  ·rw [if_pos q, if_pos q]; exact ry
  ·rw [if_neg q, if_neg q]; exact r g
 ·by_cases q : g = f
  ·rw [q]; exact (keys_putF f y fs).1
  ·refine (keys_putF f y fs).2 g (wi g fun z => hg ?_)
   show (if g = f then some u else mA g) = none
   rw [if_neg q]; exact z
theorem Inv.made (I : Inv X pins σ H s) : Inv X pins σ (upd (upd H s.heap.objs.size (.own (s.heap.objs.size + 1))) (s.heap.objs.size + 1) (.ins C s.heap.objs.size []))
  { s with heap := (s.heap.push PySem.W.emptyDict).push (PySem.W.instObj C s.heap.objs.size) } := by
 have e1 : (s.heap.push PySem.W.emptyDict).get? s.heap.objs.size = some PySem.W.emptyDict := Heap.get?_push_size s.heap rfl
 have e2 : ((s.heap.push PySem.W.emptyDict).push (PySem.W.instObj C s.heap.objs.size)).get? (s.heap.objs.size + 1) = some (PySem.W.instObj C s.heap.objs.size) := by
  have := Heap.get?_push_size (s.heap.push PySem.W.emptyDict) (o := PySem.W.instObj C s.heap.objs.size) rfl
  rwa [Heap.size_push] at this
 have e3 : (s.heap.push PySem.W.emptyDict).Ns s.heap.objs.size (fun _ => none) := ⟨PySem.W.emptyDict, #[], _, e1, rfl, (fun e he => absurd he (by simp)), fun _ => rfl⟩
 have I1 := I.laid (a := s.heap.objs.size) (o := .own (s.heap.objs.size + 1)) (h' := s.heap.push PySem.W.emptyDict) (t' := s.toks) (fun b u q => Heap.get?_push_of_some _ q) (Nat.le_refl _) ⟨_, e1⟩
 refine I1.laid (a := s.heap.objs.size + 1) (o := .ins C s.heap.objs.size []) (t' := s.toks) (fun b u q => Heap.get?_push_of_some _ q) (Nat.le_of_eq (Heap.size_push _ _)) ?_
 have ne : s.heap.objs.size ≠ s.heap.objs.size + 1 := Nat.ne_of_lt (Nat.lt_succ_self _)
 refine ⟨by rw [upd_ne ne, upd_same], Nat.zero_le _, ne, e2, fun _ => none, (Heap.Ns1.of_empty e3).at fun o q => Heap.get?_push_of_some _ q, fun _ => True.intro, fun y hy => absurd rfl hy⟩
theorem attr_of {prog : Program} {w : World} {env : Env} {e : Expr} {f : Str} {pos : Pos} {s : Shared} {Q : Value → Shared → Prop} (hb : attributeBase e f env (eval e env) = eval e env)
  (h : wpAny (model prog w) A (eval e env) (fun o s₁ => wpAny (model prog w) A (getAttr o f true) Q E s₁) E s) : wpAny (model prog w) A (eval (.Attribute e f pos) env) Q E s :=
 Attribute_any_ h (by rw [arm_eval_Attribute, hb])
end
def tFld (K : PySem.W.Frag) (ta : TE) (f : Str) : TE := fun σ H Q => ta σ H fun x H1 => ∃ a C dx fs v, x = .ref a ∧ H1 a = some (.ins C dx fs) ∧ Cls K C ∧ NoAttr K C f ∧ fs.lookup f = some v ∧ Q v H1
def sFld (K : PySem.W.Frag) (ta tv : TE) (f : Str) : TS := fun D σ H => tv σ H fun y H1 => ta σ H1 fun x H2 => ∃ a C dx fs, x = .ref a ∧ H2 a = some (.ins C dx fs) ∧ Cls K C ∧ NoAttr K C f ∧ fs.length < 1000 ∧
 D.nx σ (upd H2 a (.ins C dx (putF f y fs)))
def InOp (X : Cx) (op : Operator) (rd : V → V → Hp → VK → Prop) : Prop :=
 ∀ (pins : List (Addr × Obj)) (s : Shared) (σ : St) (H : Hp) (x y : V) (u v : Value) (Q : VK), Inv X pins σ H s → RelV x u → RelV y v → rd x y H Q → wpAny (model X.prog X.w) X.A (inplaceOp op u v) (EP X pins σ Q) X.xe s
def sFldAug (K : PySem.W.Frag) (ta tv : TE) (rd : V → V → Hp → VK → Prop) (f : Str) : TS := fun D σ H => ta σ H fun x H1 => ∃ a C dx fs v, x = .ref a ∧ H1 a = some (.ins C dx fs) ∧ Cls K C ∧ NoAttr K C f ∧ fs.lookup f = some v ∧
 tv σ H1 fun y H2 => rd v y H2 fun z H3 => ∃ dx' fs', H3 a = some (.ins C dx' fs') ∧ fs'.length < 1000 ∧ D.nx σ (upd H3 a (.ins C dx' (putF f z fs')))
section
variable {X : Cx} {o e value : Expr} {f : Str} {pos pos' tpos : Pos} {ta tv : TE}
theorem pe_fld (he : PE X e ta) (hb : attributeBase e f X.env (eval e X.env) = eval e X.env) : PE X (.Attribute e f pos) (tFld X.K ta f) := by
 intro pins s σ H Q I h
 refine attr_of hb (thn (he pins s σ H _ I h) fun u s1 ho_ => ?_)
 obtain ⟨x, H1, I1, rx, a, C, dx, fs, v, ex, ea, c, n, l, q⟩ := ho_
 subst ex
 obtain rfl : u = Value.ref a := rx
 exact getattr_ok I1 ea c n l fun u' s2 I2 ru => ⟨v, H1, I2, ru, q⟩
theorem ps_fld (ha : PE X o ta) (hv : PE X value tv) (hs : swapsWith value (some (.Attribute o f pos')) pos.line X.env = pure false) : PS X (.Assign [.Attribute o f pos'] value pos) (sFld X.K ta tv f) := by
 intro pins s σ H D I h
 refine plainObj_wpAny_Assign_Attribute (thn (hv pins s σ H _ I h) fun u s1 ⟨y, H1, I1, ry, q⟩ => thn (ha pins s1 σ H1 _ I1 q) fun ov s2 ho_ => ?_) hs
 obtain ⟨x, H2, I2, rx, a, C, dx, fs, ex, ea, c, n, l, q2⟩ := ho_
 subst ex
 obtain rfl : ov = Value.ref a := rx
 exact setattr_ok I2 ea c n l ry fun s3 I3 => ⟨σ, _, I3, q2⟩
theorem ps_fldaug {op : Operator} {rd : V → V → Hp → VK → Prop} (ha : PE X o ta) (hv : PE X value tv) (hop : InOp X op rd) : PS X (.AugAssign (.Attribute o f tpos) op value pos) (sFldAug X.K ta tv rd f) := by
 intro pins s σ H D I h
 refine wpAny_AugAssign_AttributeAny (thn (ha pins s σ H _ I h) fun ov s1 ho_ => ?_)
 obtain ⟨x, H1, I1, rx, a, C, dx, fs, v, ex, ea, c, n, l, q⟩ := ho_
 subst ex
 obtain rfl : ov = Value.ref a := rx
 refine getattr_ok I1 ea c n l fun u s2 I2 ru => thn (hv pins s2 σ H1 _ I2 q) fun w3 s3 ⟨y, H2, I3, ry, q3⟩ => thn (hop pins s3 σ H2 v y u w3 _ I3 ru ry q3) fun w4 s4 ho_ => ?_
 obtain ⟨z, H3, I4, rz, dx', fs', ea', l', q4⟩ := ho_
 exact setattr_ok I4 ea' c n l' rz fun s5 I5 => ⟨σ, _, I5, q4⟩
def rAdd : V → V → Hp → VK → Prop := fun x y H Q => ∃ i j, x = .int i ∧ y = .int j ∧ Q (.int (i + j)) H
theorem in_add : InOp X .Add rAdd := by
 rintro pins s σ H x y u v Q I rx ry ⟨i, j, rfl, rfl, q⟩
 obtain ⟨t, rfl⟩ := (show ∃ t, u = Value.int i t from rx)
 obtain ⟨t', rfl⟩ := (show ∃ t', v = Value.int j t' from ry)
 exact PyProof.Rows.iadd_int ⟨.int (i + j), H, I.tok _, ⟨_, rfl⟩, q⟩
end
section
variable {X : Cx} {pins : List (Addr × Obj)} {σ : St} {H : Hp} {s : Shared} {A : Around} {E : Value → Shared → Prop} {Q : Value → Shared → Prop} {c : Value} {b : Bool}
inductive TyOf (K : PySem.W.Frag) (H : Hp) : V → Value → Prop where
 | non : TyOf K H .non (.type "NoneType")
 | bl (x : Bool) : TyOf K H (.bl x) (.type "bool")
 | int (i : Int) : TyOf K H (.int i) (.type "int")
 | str (x : Str) : TyOf K H (.str x) (.type "str")
 | flt (x : UInt64) : TyOf K H (.flt x) (.type "float")
 | lst {a : Addr} {xs : List V} (e : H a = some (.lst xs)) : TyOf K H (.ref a) (.type "list")
 | frz {a : Addr} {o : Obj} {xs : List V} (e : H a = some (.frz o (.lst xs))) : TyOf K H (.ref a) (.type "list")
 | tup {a : Addr} {xs : List V} (e : H a = some (.tup xs)) : TyOf K H (.ref a) (.type "tuple")
 | dK {a : Addr} {kvs : List (Key × V)} (e : H a = some (.dK kvs)) : TyOf K H (.ref a) (.type "dict")
 | dT {a : Addr} {kvs : List (List Key × V)} (e : H a = some (.dT kvs)) : TyOf K H (.ref a) (.type "dict")
 | ins {a C dx : Addr} {fs : List (Str × V)} (e : H a = some (.ins C dx fs)) (cl : Cls K C) (ha : PySem.W.findIn K (.ref C) "__class__" = some (some (.builtin "object.__class__")))
   (hn : PySem.W.specialIn K (.builtin "object.__class__") "__get__" = some (some (.builtin "getset_descriptor.__get__"))) (htk : PySem.W.takesIn K (.builtin "object.__class__") = some true)
   (hm : PySem.W.mroIn K C (.type "object") = some true) : TyOf K H (.ref a) (.ref C)
theorem isinst_ok {x : V} {u t : Value} (I : Inv X pins σ H s) (rx : RelV x u) (ty : TyOf X.K H x t) (e : PySem.W.kitOne X.K t c = some b) (h : ∀ tk, Q (.bool b) { s with toks := tk }) :
  wpAny (model X.prog X.w) A (call (.builtin "isinstance") [u, c]) Q E s := by
 cases ty with
 | non => cases (show u = Value.none from rx); exact PySem.W.kia_one PySem.W.kitx_none I.kIn True.intro e (fun z => nomatch z) h
 | bl y => cases (show u = Value.bool y from rx); exact PySem.W.kia_one PySem.W.kitx_bool I.kIn True.intro e (fun z => nomatch z) h
 | int i => obtain ⟨t, q⟩ := (show ∃ t, u = Value.int i t from rx); cases q; exact PySem.W.kia_one PySem.W.kitx_int I.kIn True.intro e (fun z => nomatch z) h
 | str y => obtain ⟨t, q⟩ := (show ∃ t, u = Value.str y t from rx); cases q; exact PySem.W.kia_one PySem.W.kitx_str I.kIn True.intro e (fun z => nomatch z) h
 | flt y => obtain ⟨t, q⟩ := (show ∃ t, u = Value.float y t from rx); cases q; exact PySem.W.kia_one PySem.W.kitx_float I.kIn True.intro e (fun z => nomatch z) h
 | @lst a xs ea =>
  cases (show u = Value.ref a from rx)
  obtain ⟨_, _, n, _, h1⟩ := (show ObjOk X.prog X.w H s.heap a (.lst xs) from I.hok a _ ea)
  exact PySem.W.kia_one PySem.W.kitx_list I.kIn ⟨_, h1, rfl⟩ e (fun z => nomatch z) h
 | @frz a ob xs ea =>
  cases (show u = Value.ref a from rx)
  obtain ⟨_, _, _, n, _, h1⟩ := (show ObjOk X.prog X.w H s.heap a (.frz ob (.lst xs)) from I.hok a _ ea)
  exact PySem.W.kia_one PySem.W.kitx_list I.kIn ⟨_, h1, rfl⟩ e (fun z => nomatch z) h
 | @tup a xs ea =>
  cases (show u = Value.ref a from rx)
  obtain ⟨_, _, _, p⟩ := (show ObjOk X.prog X.w H s.heap a (.tup xs) from I.hok a _ ea)
  obtain ⟨o, h1, h2, _⟩ := p
  exact PySem.W.kia_one PySem.W.kitx_tuple I.kIn ⟨o, h1, h2⟩ e (fun z => nomatch z) h
 | @dK a kvs ea =>
  cases (show u = Value.ref a from rx)
  obtain ⟨_, _, vs, _, p⟩ := (show ObjOk X.prog X.w H s.heap a (.dK kvs) from I.hok a _ ea)
  obtain ⟨o, es, ep, h1, h2, _⟩ := p
  exact PySem.W.kia_one PySem.W.kitx_dict I.kIn ⟨o, h1, h2.1⟩ e (fun z => nomatch z) h
 | @dT a kvs ea =>
  cases (show u = Value.ref a from rx)
  obtain ⟨_, _, xs, _, o, es, ep, h1, h2, _⟩ := (show ObjOk X.prog X.w H s.heap a (.dT kvs) from I.hok a _ ea)
  exact PySem.W.kia_one PySem.W.kitx_dict I.kIn ⟨o, h1, h2.1⟩ e (fun z => nomatch z) h
 | @ins a C dx fs ea cl ha hn htk hm =>
  cases (show u = Value.ref a from rx)
  obtain ⟨mA, O, _⟩ := ins_get I.hok ea
  obtain ⟨od, J, _⟩ := O.look
  exact PySem.W.kia_one (PySem.W.kitx_own (cl.get _) cl.hd ha hn htk hm) I.kIn J e (fun z => nomatch z) h
end
end L2
namespace L2
open PySem PySem.Spec PyProof.Rows
structure Room (k : Nat) (A : Around) : Prop where
 hd : A.handled = none
 dp : A.depth + 3 * k + 5 < recursionLimit
 un : A.units + 16 * k + 200 < cLine
 gd : A.guards = some []
theorem Room.mono {j k : Nat} {A : Around} (r : Room k A) (h : j ≤ k) : Room j A := ⟨r.hd, by have := r.dp; omega, by have := r.un; omega, r.gd⟩
theorem Room.deeper {k : Nat} {A : Around} (r : Room (k + 1) A) (env : Env) : Room k (A.deeper env) :=
 ⟨r.hd, by have := r.dp; show A.depth + 1 + 3 * k + 5 < _; omega, by have := r.un; show A.units + 3 + 16 * k + 200 < _; omega, r.gd⟩
theorem make_depth {A : Around} {C : Addr} {us : List Value} {kw : List (Str × Value)} : (A.under (.builtin "type.__call__" ⟨.ref C :: us, kw⟩)).depth = A.depth + 1 := by
 first | rfl | simp [Around.under, Code.weight, Code.isCreation, Code.isGuard, Code.isCaller, Code.frames, Code.isFrame, guardIds]
theorem make_units {A : Around} {C : Addr} {us : List Value} {kw : List (Str × Value)} : (A.under (.builtin "type.__call__" ⟨.ref C :: us, kw⟩)).units = A.units + 1 := by
 first | rfl | simp [Around.under, Code.cUnits, Code.frames, Code.isFrame]
theorem Room.make {k : Nat} {A : Around} (r : Room (k + 1) A) (C : Addr) (us : List Value) (kw : List (Str × Value)) : Room k (A.under (.builtin "type.__call__" ⟨.ref C :: us, kw⟩)) :=
 ⟨r.hd, by have := r.dp; rw [make_depth]; omega, by have := r.un; rw [make_units]; omega, r.gd⟩
theorem Room.depth {k : Nat} {A : Around} (r : Room k A) : A.depth < recursionLimit := by have := r.dp; omega
theorem Room.units {k : Nat} {A : Around} (r : Room k A) : A.units + 64 < cLine := by have := r.un; omega
theorem Room.units0 {k : Nat} {A : Around} (r : Room k A) : A.units < cLine := by have := r.un; omega
def tNil : TA := fun _ H Q => Q [] H
def tCons (ta : TE) (tr : TA) : TA := fun σ H Q => ta σ H fun x H1 => tr σ H1 fun xs H2 => Q (x :: xs) H2
section
variable {X : Cx} {e : Expr} {es : List Expr} {te : TE} {t : TA} {pos : Pos}
theorem pa_nil : PA X [] tNil := fun _ _ _ _ H Q I h => Calls.spliced_nil ⟨[], H, I, .nil, h⟩
theorem pa_cons (ha : PE X e te) (hr : PA X es t) (hs : starEach (e :: es) X.env = (false, eval e X.env) :: starEach es X.env := by rfl) : PA X (e :: es) (tCons te t) := by
 intro pos pins s σ H Q I h
 rw [hs]
 show wpAny _ _ (spliced ((false, eval e X.env) :: backTo pos (starEach es X.env))) _ _ s
 refine Calls.spliced_cons (thn (ha pins s σ H _ I h) fun u s1 ho_ => ?_)
 obtain ⟨x, H1, I1, r1, q1⟩ := ho_
 exact thn (hr pos pins s1 σ H1 _ I1 q1) (by rintro us s2 ⟨xs, H2, I2, r2, q2⟩; exact ⟨x :: xs, H2, I2, .cons r1 r2, q2⟩)
def tTup (t : TA) : TE := fun σ H Q => t σ H fun xs H1 => xs.length ≤ sizeLine ∧ ∀ p, H1 p = none → Q (.ref p) (upd H1 p (.tup xs))
def tLst (t : TA) : TE := fun σ H Q => t σ H fun xs H1 => xs.length ≤ sizeLine ∧ ∀ p, H1 p = none → Q (.ref p) (upd H1 p (.lst xs))
theorem pe_tup {x1} (h : PA X es t) : PE X (.Tuple es x1 pos) (tTup t) := by
 intro pins s σ H Q I hq
 refine wpAny_Tuple_spliced (thn (h pos pins s σ H _ I hq) fun us s1 ⟨xs, H1, I1, r, z, q⟩ => ⟨by rw [← r.length]; exact z, ?_⟩)
 have hf : H1 s1.heap.objs.size = none := I1.hok.fresh (Nat.le_refl _)
 refine ⟨.ref s1.heap.objs.size, upd H1 s1.heap.objs.size (.tup xs), I1.laid (t' := s1.toks) (fun b u e => Heap.get?_push_of_some _ e) (Nat.le_refl _) ?_, rfl, q _ hf⟩
 exact ⟨z, us, r, ⟨_, Heap.get?_push_size _ rfl, rfl, _, rfl⟩⟩
theorem pe_lst (h : PA X es t) : PE X (.List es pos) (tLst t) := by
 intro pins s σ H Q I hq
 refine wpAny_List_spliced (thn (h pos pins s σ H _ I hq) fun us s1 ⟨xs, H1, I1, r, z, q⟩ => ⟨by rw [← r.length]; exact z, ?_⟩)
 have hf : H1 s1.heap.objs.size = none := I1.hok.fresh (Nat.le_refl _)
 refine ⟨.ref s1.heap.objs.size, upd H1 s1.heap.objs.size (.lst xs), I1.laid (t' := s1.toks) (fun b u e => Heap.get?_push_of_some _ e) (Nat.le_refl _) ?_, rfl, q _ hf⟩
 exact ⟨z, us, 0, r, Heap.get?_push_size _ rfl⟩
end
abbrev Sp := List V → Hp → VK → XK → Prop
abbrev CXT := List Env → Hp → Shared → XK → Value → Shared → Prop
structure Env0 (P : Program) (w : World) (K : PySem.W.Frag) (mg : Str → Option Value) (base : Heap) (A : Around) (outer : List Env) (s : Shared) (H : Hp) : Prop where
 frames : A.frames = some outer
 mod : Mod K mg base
 bs : ∀ b o, base.get? b = some o → s.heap.get? b = some o ∧ H b = none
 bsz : base.objs.size ≤ s.heap.objs.size
 funs : s.heap.FunFrames base outer
 frf : ∀ b ∈ frs outer, H b = none
 hok : HOk P w H s.heap
 bare : AllBare s.gens
def CE (outer : List Env) (P : Program) (w : World) (H : Hp) (s : Shared) (Q : VK) (u : Value) (s' : Shared) : Prop :=
 ∃ v H', s'.os = s.os ∧ AllBare s'.gens ∧ Un (frs outer) [] H H' s.heap s'.heap ∧ HOk P w H' s'.heap ∧ RelV v u ∧ Q v H'
def CR (CX : CXT) (outer : List Env) (P : Program) (w : World) (H : Hp) (s : Shared) (Q : VK) (E : XK) (r : Result) (s' : Shared) : Prop :=
 match r with
 | .ok (.ret u) => CE outer P w H s Q u s'
 | .ok _ => False
 | .error e => CX outer H s E e s'
structure FnOk (P : Program) (w : World) (K : PySem.W.Frag) (mg : Str → Option Value) (base : Heap) (CX : CXT) (k : Nat) (f : Addr) (fd : FuncData) (ps : List Str) (sp : Sp) : Prop where
 len : ∀ vs H Q E, sp vs H Q E → vs.length = ps.length
 run : ∀ (A : Around) (outer : List Env) (s : Shared) (H : Hp) (args : Args) (us : List Value) (vs : List V) (Q : VK) (E : XK), Room k A → Env0 P w K mg base A outer s H → BindsTo s fd args (ps.zip us) → Vals vs us → sp vs H Q E →
  codeAny (model P w) A (.call (.ref f) args) (CR CX outer P w H s Q E) s
theorem Env0.make {P : Program} {w : World} {K : PySem.W.Frag} {mg : Str → Option Value} {base : Heap} {A : Around} {outer : List Env} {s : Shared} {H : Hp} (e : Env0 P w K mg base A outer s H) (C : Addr) (us : List Value) (kw : List (Str × Value)) :
  Env0 P w K mg base (A.under (.builtin "type.__call__" ⟨.ref C :: us, kw⟩)) outer s H := ⟨by first | exact e.frames | (simpa [Around.under, Code.envs, Code.isFrame, pushEnvs] using e.frames), e.mod, e.bs, e.bsz, e.funs, e.frf, e.hok, e.bare⟩
section
variable {X : Cx} {pins : List (Addr × Obj)} {σ : St} {H : Hp} {s s' : Shared}
theorem Inv.env0 (I : Inv X pins σ H s) : Env0 X.prog X.w X.K X.mg X.base X.A X.stack s H :=
 ⟨I.ok.frames, I.ok.mod, I.bs, Nat.le_trans I.ok.bsz I.sz, I.stack, I.stkFree, I.hok, I.bare⟩
theorem Inv.after {Q : VK} {u : Value} (I : Inv X pins σ H s) (h : CE X.stack X.prog X.w H s Q u s') : EP X pins σ Q u s' := by
 obtain ⟨v, H', os, bare, un, hok, r, q⟩ := h
 obtain ⟨hh, g, d, t, os'⟩ := s'
 obtain rfl : os' = s.os := os
 exact ⟨v, H', I.call (h' := hh) (g' := g) (d' := d) (t' := t) (ch := []) un hok bare (fun b z => absurd z (by simp)), r, q⟩
end
def tCall (sp : Sp) (dvs : List V) (E : XK) (t : TA) : TE := fun σ H Q => t σ H fun vs H1 => sp (vs ++ dvs) H1 Q E
def tMeth (C : Addr) (m : Str) (sp : Sp) (dvs : List V) (E : XK) (ta : TE) (t : TA) : TE := fun σ H Q => ta σ H fun x H1 => ∃ a dx fs, x = .ref a ∧ H1 a = some (.ins C dx fs) ∧ fs.lookup m = none ∧
 t σ H1 fun vs H2 => sp (x :: (vs ++ dvs)) H2 Q E
def tMake (C : Addr) (sp : Sp) (dvs : List V) (E : XK) (t : TA) : TE := fun σ H Q => t σ H fun vs H1 => ∀ x dx, H1 x = none → H1 dx = none → dx ≠ x →
 sp (.ref x :: (vs ++ dvs)) (upd (upd H1 dx (.own x)) x (.ins C dx [])) (fun v H2 => v = .non ∧ Q (.ref x) H2) E
def Binds (K : PySem.W.Frag) (fd : FuncData) (ps : List Str) (ds : List Value) : Prop :=
 ∀ (s : Shared) (us : List Value), K.In s.heap → (us ++ ds).length = ps.length → BindsTo s fd ⟨us, []⟩ (ps.zip (us ++ ds))
theorem Binds.all {K : PySem.W.Frag} {fd : FuncData} {ps : List Str} (h : ∀ us : List Value, us.length = ps.length → bindArgs fd ⟨us, []⟩ = pure (ps.zip us)) : Binds K fd ps [] := fun s us _ hl => by
 rw [List.append_nil] at hl ⊢
 exact .of_eq (h us hl)
def Passes (CX : CXT) (X : Cx) (E : XK) : Prop := ∀ (pins : List (Addr × Obj)) (σ : St) (H : Hp) (s : Shared) (e : Value) (s' : Shared), Inv X pins σ H s → CX X.stack H s E e s' → X.xe e s'
section
variable {X : Cx} {CX : CXT} {k : Nat} {f C : Addr} {fd : FuncData} {ps : List Str} {sp : Sp} {dvs : List V} {ds : List Value} {E : XK} {x m : Str} {p pos apos : Pos} {e o : Expr} {es : List Expr} {ta : TE} {t : TA}
theorem run_fn {pins : List (Addr × Obj)} {σ : St} {H : Hp} {s : Shared} {Q : VK} {us : List Value} {vs : List V} (F : FnOk X.prog X.w X.K X.mg X.base CX k f fd ps sp) (hr : Room k X.A) (hb : Binds X.K fd ps ds) (hd : Vals dvs ds) (hx : Passes CX X E)
  (I : Inv X pins σ H s) (r : Vals vs us) (h : sp (vs ++ dvs) H Q E) : wpAny (model X.prog X.w) X.A (call (.ref f) us) (EP X pins σ Q) X.xe s := by
 have r2 : Vals (vs ++ dvs) (us ++ ds) := r.append hd
 have hl : (us ++ ds).length = ps.length := by rw [← r2.length]; exact F.len _ _ _ _ h
 refine wpAny_call (codeAny_mono (F.run X.A X.stack s H ⟨us, []⟩ (us ++ ds) (vs ++ dvs) Q E hr I.env0 (hb s us I.kIn hl) r2 h) fun r s' hq => ?_)
 cases r with
 | error e => exact hx pins σ H s e s' I hq
 | ok fl =>
  cases fl with
  | ret u => exact I.after hq
  | next => exact False.elim hq
  | brk => exact False.elim hq
  | cont => exact False.elim hq
theorem pe_call (F : FnOk X.prog X.w X.K X.mg X.base CX k f fd ps sp) (hr : Room k X.A) (hg : Gl X x) (hm : X.mg x = some (.ref f)) (hk : PySem.W.keepIn X.K (.ref f) = true) (hb : Binds X.K fd ps ds) (hd : Vals dvs ds) (hx : Passes CX X E)
  (ha : PA X (e :: es) t) (hdb : (x == ("__debug__" : Str)) = false := by decide) (he : starEach (e :: es) X.env = (false, eval e X.env) :: starEach es X.env := by rfl) (hpl : (backTo pos (starEach es X.env)).any (·.1) = false := by rfl) :
  PE X (.Call (.Name x p) (e :: es) [] pos) (tCall sp dvs E t) := by
 intro pins s σ H Q I h
 refine wpAny_Call_Name_kw (ld_glob I hg hm ?_ hdb)
 refine PySem.W.callWith_K (h₀ := X.base) I.ok.mod.kin hk (thn (ha pos pins s σ H _ I h) fun us s1 ⟨vs, H1, I1, r, q⟩ => ⟨I1.kIn, ?_⟩) he hpl
 exact run_fn F hr hb hd hx I1 r q
theorem pe_meth {pl : Sem Bool} (he : PE X o ta) (c : Cls X.K C) (hm : Meth X.K C m f) (F : FnOk X.prog X.w X.K X.mg X.base CX k f fd ps sp) (hr : Room k X.A) (hb : Binds X.K fd ps ds) (hd : Vals dvs ds) (hx : Passes CX X E) (ha : PA X (e :: es) t)
  (hst : starEach (e :: es) X.env = (false, eval e X.env) :: starEach es X.env := by rfl) (hpl : (backTo pos (starEach es X.env)).any (·.1) = false := by rfl)
  (ht : eval (.Call (.Attribute o m apos) (e :: es) [] pos) X.env = (do
   let ov ← eval o X.env
   standAt apos.atName
   let (f, first) ← holding [ov] (getMethod ov m pl)
   callWith pos f first (backTo pos (starEach (e :: es) X.env)) (backToKw pos (keywordEach [] X.env))) := by rfl) :
  PE X (.Call (.Attribute o m apos) (e :: es) [] pos) (tMeth C m sp dvs E ta t) := by
 intro pins s σ H Q I h
 refine PySem.W.methodCall_KW (pl := pl) (thn (he pins s σ H _ I h) fun u s1 ho_ => ?_) ht
 obtain ⟨x, H1, I1, rx, a, dx, fs, ex, ea, l, q⟩ := ho_
 subst ex
 obtain rfl : u = Value.ref a := rx
 refine getmeth_ok I1 ea c hm l ?_
 refine PySem.W.callWith_K (first := [.ref a]) (h₀ := X.base) I.ok.mod.kin hm.kp (thn (ha pos pins s1 σ H1 _ I1 q) fun us s2 ⟨vs, H2, I2, r, q2⟩ => ⟨I2.kIn, ?_⟩) hst hpl
 exact run_fn (us := .ref a :: us) (vs := .ref a :: vs) F hr hb hd hx I2 (.cons rfl r) q2
theorem pe_meth0 {pl : Sem Bool} (he : PE X o ta) (c : Cls X.K C) (hm : Meth X.K C m f) (F : FnOk X.prog X.w X.K X.mg X.base CX k f fd ps sp) (hr : Room k X.A) (hb : Binds X.K fd ps ds) (hd : Vals dvs ds) (hx : Passes CX X E)
  (ht : eval (.Call (.Attribute o m apos) [] [] pos) X.env = (do
   let ov ← eval o X.env
   standAt apos.atName
   let (f, first) ← holding [ov] (getMethod ov m pl)
   callWith pos f first (backTo pos (starEach [] X.env)) (backToKw pos (keywordEach [] X.env))) := by rfl) :
  PE X (.Call (.Attribute o m apos) [] [] pos) (tMeth C m sp dvs E ta tNil) := by
 intro pins s σ H Q I h
 refine PySem.W.methodCall_KW (pl := pl) (thn (he pins s σ H _ I h) fun u s1 ho_ => ?_) ht
 obtain ⟨x, H1, I1, rx, a, dx, fs, ex, ea, l, q⟩ := ho_
 subst ex
 obtain rfl : u = Value.ref a := rx
 refine getmeth_ok I1 ea c hm l ?_
 exact PySem.W.callWith_K0 (first := [.ref a]) I1.kIn hm.kp (run_fn (us := [.ref a]) (vs := [.ref a]) F hr hb hd hx I1 (.cons rfl .nil) q)
structure Mk (K : PySem.W.Frag) (C f : Addr) : Prop where
 makes : PySem.W.makesIn K C = true
 init : PySem.W.findIn K (.ref C) "__init__" = some (some (.ref f))
 fn : PySem.W.isFn K (.ref f) = true
 kp : PySem.W.keepIn K (.ref C) = true
theorem run_make {pins : List (Addr × Obj)} {σ : St} {H : Hp} {s : Shared} {Q : VK} {us : List Value} {vs : List V} (M : Mk X.K C f) (F : FnOk X.prog X.w X.K X.mg X.base CX k f fd ps sp) (hr : Room (k + 1) X.A) (hb : Binds X.K fd ps ds) (hd : Vals dvs ds)
  (hx : Passes CX X E) (I : Inv X pins σ H s) (r : Vals vs us)
  (h : ∀ x dx, H x = none → H dx = none → dx ≠ x → sp (.ref x :: (vs ++ dvs)) (upd (upd H dx (.own x)) x (.ins C dx [])) (fun v H2 => v = .non ∧ Q (.ref x) H2) E) :
  wpAny (model X.prog X.w) X.A (call (.ref C) us) (EP X pins σ Q) X.xe s := by
 have hq := h (s.heap.objs.size + 1) s.heap.objs.size (I.hok.fresh (Nat.le_succ _)) (I.hok.fresh (Nat.le_refl _)) (Nat.ne_of_lt (Nat.lt_succ_self _))
 have I2 := Inv.made (C := C) I
 have r2 : Vals (V.ref (s.heap.objs.size + 1) :: (vs ++ dvs)) (Value.ref (s.heap.objs.size + 1) :: (us ++ ds)) := .cons rfl (r.append hd)
 have hl : (Value.ref (s.heap.objs.size + 1) :: us ++ ds).length = ps.length := by
  have e := r2.length
  rw [F.len _ _ _ _ hq] at e
  exact e.symm
 refine wpAny_call (make_map (f := f) I.kIn M.makes M.init (beq_iff_eq.mp M.fn) (codeAny_mono (F.run _ X.stack _ _ ⟨Value.ref (s.heap.objs.size + 1) :: us, []⟩ (Value.ref (s.heap.objs.size + 1) :: (us ++ ds)) _ _ E (hr.make C us [])
  (I2.env0.make C us []) (hb _ (Value.ref (s.heap.objs.size + 1) :: us) I2.kIn hl) r2 hq) fun r s' hq' => ?_))
 cases r with
 | error e => exact hx pins σ _ _ e s' I2 hq'
 | ok fl =>
  cases fl with
  | ret u =>
   obtain ⟨v, H', I3, rv, ev, q3⟩ := I2.after hq'
   subst ev
   exact ⟨rv, ⟨V.ref (s.heap.objs.size + 1), H', I3, rfl, q3⟩⟩
  | next => exact False.elim hq'
  | brk => exact False.elim hq'
  | cont => exact False.elim hq'
theorem pe_make (M : Mk X.K C f) (F : FnOk X.prog X.w X.K X.mg X.base CX k f fd ps sp) (hr : Room (k + 1) X.A) (hg : Gl X x) (hm : X.mg x = some (.ref C)) (hb : Binds X.K fd ps ds) (hd : Vals dvs ds) (hx : Passes CX X E)
  (ha : PA X (e :: es) t) (hdb : (x == ("__debug__" : Str)) = false := by decide) (he : starEach (e :: es) X.env = (false, eval e X.env) :: starEach es X.env := by rfl) (hpl : (backTo pos (starEach es X.env)).any (·.1) = false := by rfl) :
  PE X (.Call (.Name x p) (e :: es) [] pos) (tMake C sp dvs E t) := by
 intro pins s σ H Q I h
 refine wpAny_Call_Name_kw (ld_glob I hg hm ?_ hdb)
 refine PySem.W.callWith_K (h₀ := X.base) I.ok.mod.kin M.kp (thn (ha pos pins s σ H _ I h) fun us s1 ⟨vs, H1, I1, r, q⟩ => ⟨I1.kIn, ?_⟩) he hpl
 exact run_make M F hr hb hd hx I1 r q
end
section
variable {X : Cx} {CX : CXT} {k : Nat} {f C : Addr} {fd : FuncData} {ps ks : List Str} {sp : Sp} {E : XK} {x m : Str} {p pos apos kpos : Pos} {e o : Expr} {es : List Expr} {kws : List Keyword} {te ta : TE} {t tk : TA} {nm : Option Str}
variable {g : List Value → List Value → List Value} {gV : List V → List V → List V}
end
structure FnScope (N P : List Str) (sc : Scope) : Prop where
 kind : sc.kind = .function
 co : sc.isCoroutine = false
 gen : sc.isGenerator = false
 nd : N.Nodup
 pre : N.take P.length = P
 par : ∀ x ∈ P, sc.names.lookup x = some .local ∨ sc.names.lookup x = some .cell
 nofree : ∀ y ∈ sc.names, y.2 ≠ .free
theorem bindL_out {kindOf : Str → Option NameKind} {x : Str} : ∀ {binds : List (Str × Value)} {m : Str → Option Value}, (∀ v, (x, v) ∉ binds) → bindL kindOf binds m x = m x
 | [], _, _ => rfl
 | (n, v) :: r, m, h => by
  unfold bindL
  rw [bindL_out fun w hw => h w (List.mem_cons_of_mem _ hw)]
  split
  ·have : x ≠ n := by rintro rfl; exact h v List.mem_cons_self
   simp [this]
  ·rfl
theorem bindC_out {kindOf : Str → Option NameKind} {x : Str} : ∀ {binds : List (Str × Value)} {m : Str → Option Value}, (∀ v, (x, v) ∉ binds) → bindC kindOf binds m x = m x
 | [], _, _ => rfl
 | (n, v) :: r, m, h => by
  unfold bindC
  rw [bindC_out fun w hw => h w (List.mem_cons_of_mem _ hw)]
  split
  ·rfl
  ·have : x ≠ n := by rintro rfl; exact h v List.mem_cons_self
   simp [this]
theorem bindL_get {kindOf : Str → Option NameKind} {x : Str} {v : Value} : ∀ {P : List Str} {vs : List Value} {i : Nat} {m : Str → Option Value}, P.Nodup → P[i]? = some x → vs[i]? = some v → kindOf x = some .local →
  bindL kindOf (P.zip vs) m x = some v
 | [], _, _, _, _, h, _, _ => by simp at h
 | _ :: _, [], _, _, _, _, h, _ => by simp at h
 | p :: P, w :: vs, 0, m, nd, h1, h2, hk => by
  simp at h1 h2; subst h1; subst h2
  show bindL kindOf ((p, w) :: P.zip vs) m p = _
  unfold bindL
  rw [bindL_out fun v hv => (List.nodup_cons.mp nd).1 (List.of_mem_zip hv).1, if_pos hk]
  simp
 | p :: P, w :: vs, i + 1, m, nd, h1, h2, hk => by
  show bindL kindOf ((p, w) :: P.zip vs) m x = _
  unfold bindL
  exact bindL_get (i := i) (List.nodup_cons.mp nd).2 (by simpa using h1) (by simpa using h2) hk
theorem bindC_get {kindOf : Str → Option NameKind} {x : Str} {v : Value} : ∀ {P : List Str} {vs : List Value} {i : Nat} {m : Str → Option Value}, P.Nodup → P[i]? = some x → vs[i]? = some v → kindOf x ≠ some .local →
  bindC kindOf (P.zip vs) m x = some v
 | [], _, _, _, _, h, _, _ => by simp at h
 | _ :: _, [], _, _, _, _, h, _ => by simp at h
 | p :: P, w :: vs, 0, m, nd, h1, h2, hk => by
  simp at h1 h2; subst h1; subst h2
  show bindC kindOf ((p, w) :: P.zip vs) m p = _
  unfold bindC
  rw [bindC_out fun v hv => (List.nodup_cons.mp nd).1 (List.of_mem_zip hv).1, if_neg hk]
  simp
 | p :: P, w :: vs, i + 1, m, nd, h1, h2, hk => by
  show bindC kindOf ((p, w) :: P.zip vs) m x = _
  unfold bindC
  exact bindC_get (i := i) (List.nodup_cons.mp nd).2 (by simpa using h1) (by simpa using h2) hk
def start (N : List Str) (vs : List V) : St := vs.map some ++ List.replicate (N.length - vs.length) none
def cxOf (CX : CXT) (P : Program) (w : World) (K : PySem.W.Frag) (mg : Str → Option Value) (base : Heap) (N : List Str) (qual : Str) (scope : Scope) (f : Addr) (cd : Value) (A : Around) (outer : List Env) (s : Shared) (H : Hp) (E : XK) : Cx where
 prog := P
 w := w
 K := K
 mg := mg
 base := base
 A := A.deeper (envOfC qual scope s.heap.objs.size f cd)
 N := N
 s₀ := s
 H₀ := H
 env := envOfC qual scope s.heap.objs.size f cd
 outer := outer
 stack := envOfC qual scope s.heap.objs.size f cd :: outer
 ex := []
 calm := true
 fn := fun _ => true
 pn := []
 xe := fun e s' => wpAny (model P w) (A.deeper (envOfC qual scope s.heap.objs.size f cd)) (leaving (envOfC qual scope s.heap.objs.size f cd) e) (fun _ s'' => CX outer H s E e s'') (fun e' s'' => CX outer H s E e' s'') s'
theorem cell_has {sc : Scope} {n : Nat} {x : Str} (h : sc.names.lookup x = some .cell) : ∃ c, (cellsFrom n sc.names []).lookup x = some c := by
 have q := PySem.W.cellsFrom_some sc.names n [] (.inl h)
 exact Option.isSome_iff_exists.mp q
theorem inv_start {CX : CXT} {P : Program} {w : World} {K : PySem.W.Frag} {mg : Str → Option Value} {base : Heap} {N ps : List Str} {qual : Str} {scope : Scope} {f : Addr} {cd : Value} {A : Around} {outer : List Env} {s s1 : Shared} {H : Hp} {E : XK} {us : List Value} {vs : List V}
  (S : FnScope N ps scope) (hd : A.handled = none) (e0 : Env0 P w K mg base A outer s H) (hl : vs.length = ps.length) (r : Vals vs us)
  (x : InCallC s s.heap.objs.size (bindL (envOfC qual scope s.heap.objs.size f cd).kindOf (ps.zip us) fun _ => none) (cellsFrom (s.heap.objs.size + 1) scope.names []) (bindC (envOfC qual scope s.heap.objs.size f cd).kindOf (ps.zip us) fun _ => none) s1) :
  Inv (cxOf CX P w K mg base N qual scope f cd A outer s H E) [] (start N vs) H s1 := by
 have hpl : ps.length ≤ N.length := by have := congrArg List.length S.pre; rw [List.length_take] at this; omega
 obtain ⟨h1, tk, rfl, hk⟩ := x.done
 have noA : ∀ b : Addr, b ∉ (cxOf CX P w K mg base N qual scope f cd A outer s H E).ex := fun b z => absurd (show b ∈ ([] : List Addr) from z) (by simp)
 refine ⟨⟨e0.mod, S.kind, rfl, rfl, Nat.le_refl _, fun y z c h1 h2 => ?_, fun y hy => ?_, fun y c _ h => ?_, fun _ => hd, Around.frames_deeper e0.frames, .inr ⟨rfl, rfl⟩, fun b z => absurd z (noA b), e0.bs, e0.bsz, fun b _ _ => noA b, fun b z => absurd z (noA b), e0.funs, e0.frf⟩,
  rfl, e0.bare, Un.kept hk, ⟨_, x.toInCall.ns, fun i y v h1 h2 h3 => ?_⟩, fun y c h => ⟨_, x.cell y c h⟩, e0.hok.fresh (Nat.le_refl _), fun y c h => ?_, fun p hp => absurd (show p ∈ ([] : List (Addr × Obj)) from hp) (by simp), e0.hok.kept hk, ?_⟩
 ·exact name_of_addr x.apart (PySem.mem_of_lookup h1) (PySem.mem_of_lookup h2)
 ·have hy : scope.names.lookup y = some .cell ∨ scope.names.lookup y = some .free := hy
  rcases hy with hy | hy
  ·exact cell_has hy
  ·exact absurd rfl (S.nofree _ (PySem.mem_of_lookup hy))
 ·exact Nat.le_of_lt (x.above y c (PySem.mem_of_lookup h))
 ·have hi : i < vs.length := by
   unfold start at h2
   by_cases hi : i < vs.length
   ·exact hi
   ·rw [List.getElem?_append_right (by simpa using hi)] at h2
    rw [List.getElem?_replicate] at h2
    split at h2 <;> cases h2
  have ha : vs[i]? = some v := by
   unfold start at h2
   rw [List.getElem?_append_left (by simpa using hi), List.getElem?_map] at h2
   cases e : vs[i]? with
   | none => rw [e] at h2; cases h2
   | some a => rw [e] at h2; cases h2; rfl
  obtain ⟨u, hu, rv⟩ := r.get ha
  have hp : ps[i]? = some y := by
   rw [← S.pre, List.getElem?_take_of_lt (by omega)]; exact h1
  have ndP : ps.Nodup := by rw [← S.pre]; exact S.nd.sublist (List.take_sublist _ _)
  refine ⟨u, rv, ?_⟩
  rcases S.par y (List.mem_of_getElem? hp) with k | k
  ·exact .inl ⟨k, bindL_get ndP hp hu k⟩
  ·obtain ⟨c, e⟩ := cell_has (n := s.heap.objs.size + 1) k
   refine .inr ⟨.inl k, c, e, ?_⟩
   have q := x.cell y c e
   rw [bindC_get ndP hp hu (by show scope.names.lookup y ≠ _; rw [k]; decide)] at q
   exact q
 ·exact e0.hok.fresh (Nat.le_of_lt (x.above y c (PySem.mem_of_lookup h)))
 ·unfold start
  show _ = N.length
  rw [List.length_append, List.length_map, List.length_replicate]
  omega
theorem fn_of {CX : CXT} {P : Program} {w : World} {K : PySem.W.Frag} {mg : Str → Option Value} {base : Heap} {k : Nat} {f : Addr} {name qual : Str} {params : Arguments} {body : List Stmt} {scope : Scope} {dV kV doc pm cdv ct oc : Value} {an od : Option Addr}
  {osl : Array (Option Value)} {N ps : List Str} {sp : Sp} (lk : K.lookup f = some ⟨oc, od, .func (PySem.W.fnOf name qual params body scope dV kV doc pm an cdv ct), osl⟩) (hcd : PySem.W.codeIn K cdv qual = true) (S : FnScope N ps scope)
  (len : ∀ vs H Q E, sp vs H Q E → vs.length = ps.length)
  (hbody : ∀ (A : Around) (outer : List Env) (s : Shared) (H : Hp) (vs : List V) (Q : VK) (E : XK), Room k (A.deeper (envOfC qual scope s.heap.objs.size f cdv)) → sp vs H Q E →
   ∃ t, PSs (cxOf CX P w K mg base N qual scope f cdv A outer s H E) body t ∧ t { nx := fun _ H' => Q .non H', rt := Q } (start N vs) H) :
  FnOk P w K mg base CX (k + 1) f (PySem.W.fnOf name qual params body scope dV kV doc pm an cdv ct) ps sp := by
 refine ⟨len, fun A outer s H args us vs Q E hr e0 hb r hsp => ?_⟩
 have hl := len _ _ _ _ hsp
 have KX : K.In s.heap := e0.mod.kin.keeps fun b o e => (e0.bs b o e).1
 have lim : s.heap.NoLimit := e0.mod.nolimit.keeps fun b o e => (e0.bs b o e).1
 have hkind : ∀ y ∈ ps.zip us, scope.names.lookup y.1 = some .local ∨ (scope.names.lookup y.1 = some .cell ∧ ((cellsFrom (s.heap.objs.size + 1) scope.names []).lookup y.1).isSome = true) := by
  rintro ⟨n, v⟩ hy
  rcases S.par n (List.of_mem_zip hy).1 with q | q
  ·exact .inl q
  ·exact .inr ⟨q, PySem.W.cellsFrom_some _ _ _ (.inl q)⟩
 refine codeAny_call_function hr.depth (KX _ _ lk) rfl S.co S.gen rfl (PySem.W.codeRec_of KX hcd) (hb _ _ _ _ ?_)
 refine wpAny_newFunctionEnv_cells S.kind hkind fun env he s1 x => ?_
 subst he
 refine ⟨lim.keeps x.toInCall.keep, codeAny_func ?_⟩
 obtain ⟨t, ht, hq⟩ := hbody A outer s H vs Q E (hr.deeper _) hsp
 have I : Inv (cxOf CX P w K mg base N qual scope f cdv A outer s H E) [] (start N vs) H s1 := inv_start S hr.hd e0 hl r x
 refine wpAny_mono (ht [] s1 (start N vs) H _ I hq) (fun fl s' hs => ?_) fun e s' hs => hs
 have fin : ∀ {σ' : St} {H' : Hp} {v : V} {u : Value}, Inv (cxOf CX P w K mg base N qual scope f cdv A outer s H E) [] σ' H' s' → RelV v u → Q v H' → CE outer P w H s Q u s' :=
  fun {σ' H' v u} J rv q => ⟨v, H', J.os, J.bare, J.base, J.hok, rv, q⟩
 cases fl with
 | ret u =>
  obtain ⟨v, σ', H', J, rv, q⟩ := hs
  exact fin J rv q
 | next =>
  obtain ⟨σ', H', J, q⟩ := hs
  exact fin (v := V.non) (u := Value.none) J rfl q
 | brk =>
  obtain ⟨_, _, _, q⟩ := hs
  exact False.elim q
 | cont =>
  obtain ⟨_, _, _, q⟩ := hs
  exact False.elim q
end L2
namespace L2
open PySem PySem.Spec PyProof.Rows
section
variable {X : Cx} {x : Str} {p pos : Pos} {e : Expr} {es : List Expr} {t : TA} {id T : String} {r : List V → Hp → VK → Prop}
def tCB (r : List V → Hp → VK → Prop) (t : TA) : TE := fun σ H Q => t σ H fun vs H1 => r vs H1 Q
theorem pe_callB (hc : CallR X (.builtin id) r) (hg : Gl X x) (hm : X.mg x = none) (hv : bootBuiltins x = some (.builtin id)) (ha : PA X (e :: es) t) (hn : x ≠ "__name__" := by decide) (hdb : (x == ("__debug__" : Str)) = false := by decide)
  (he : starEach (e :: es) X.env = (false, eval e X.env) :: starEach es X.env := by rfl) (hpl : (backTo pos (starEach es X.env)).any (·.1) = false := by rfl) : PE X (.Call (.Name x p) (e :: es) [] pos) (tCB r t) := by
 intro pins s σ H Q I h
 refine wpAny_Call_Name_kw (ld_blt I hg hm hv ?_ hn hdb)
 exact PyProof.Rows.callWith_builtin1 (thn (ha pos pins s σ H _ I h) (by rintro us s1 ⟨vs, H1, I1, r1, q1⟩; exact hc pins s1 σ H1 vs us Q I1 r1 q1)) he hpl
theorem pe_callTy (hc : CallR X (.type T) r) (hg : Gl X x) (hm : X.mg x = none) (hv : bootBuiltins x = some (.type T)) (ha : PA X (e :: es) t) (hn : x ≠ "__name__" := by decide) (hdb : (x == ("__debug__" : Str)) = false := by decide)
  (he : starEach (e :: es) X.env = (false, eval e X.env) :: starEach es X.env := by rfl) (hpl : (backTo pos (starEach es X.env)).any (·.1) = false := by rfl) : PE X (.Call (.Name x p) (e :: es) [] pos) (tCB r t) := by
 intro pins s σ H Q I h
 refine wpAny_Call_Name_kw (ld_blt I hg hm hv ?_ hn hdb)
 exact PyProof.Rows.callWith_type1 (thn (ha pos pins s σ H _ I h) (by rintro us s1 ⟨vs, H1, I1, r1, q1⟩; exact hc pins s1 σ H1 vs us Q I1 r1 q1)) he hpl
end
end L2
namespace HT
open PySem PyProof.Rows
section
open PySem.SeqAt
open PySem.AutoSeq1 (wpAny_loadPart')
open PySem.MeetsSeq PySem.MeetsSeq2 PySem.MeetsSeq3
end
section
variable {prog : Program} {w : World} {A : Around} {E : Value → Shared → Prop} {s : Shared}
def sIx (n d : Nat) : Option Int → Nat
 | none => d
 | some v => if v < 0 then (v + (n : Int)).toNat else min v.toNat n
theorem sIx_le (n d : Nat) (hd : d ≤ n) (o : Option Int) : sIx n d o ≤ n := by
 cases o with
 | none => exact hd
 | some v =>
  show (if v < 0 then (v + (n : Int)).toNat else min v.toNat n) ≤ n
  by_cases hv : v < 0
  ·rw [if_pos hv]; omega
  ·rw [if_neg hv]; exact Nat.min_le_right _ _
theorem clip_eq (v : Int) (n d : Nat) : (if v < 0 then max (v + (n : Int)) 0 else min v (n : Int)) = ((sIx n d (some v) : Nat) : Int) := by
 show (if v < 0 then max (v + (n : Int)) 0 else min v (n : Int)) = (((if v < 0 then (v + (n : Int)).toNat else min v.toNat n) : Nat) : Int)
 by_cases hv : v < 0
 ·simp only [if_pos hv]; omega
 ·simp only [if_neg hv]; omega
theorem adjust_gen (lo hi : Option Int) (n : Nat) : Builtin.Slice.sliceAdjust lo hi 1 (n : Int) = (((sIx n 0 lo : Nat) : Int), ((sIx n n hi : Nat) : Int)) := by
 have h1 : ¬ ((1 : Int) < 0) := by omega
 unfold Builtin.Slice.sliceAdjust
 simp only [h1, if_false]
 refine Prod.ext ?_ ?_
 ·cases lo with
  | none => rfl
  | some v => exact clip_eq v n 0
 ·cases hi with
  | none => rfl
  | some v => exact clip_eq v n n
theorem places_gen (i j : Nat) : Builtin.Slice.slicePlaces (i : Int) (j : Int) 1 = j - i := by
 unfold Builtin.Slice.slicePlaces
 have h1 : (1 : Int) > 0 := by omega
 simp only [h1, if_true, Int.ediv_one]
 split <;> omega
theorem slicePart_ {v : Value} {o : Option Int} {Q : Option Int → Shared → Prop} (p : IsPart v o) (h : Q o s) : wpAny (model prog w) A (Builtin.Slice.slicePartIndex v) Q E s := by
 cases p with
 | none => exact slicePart_none h
 | int i t => exact slicePart_int h
theorem sliceApplied_gen {sl : Addr} {vl vu : Value} {lo hi : Option Int} {n : Nat} {Q : Int × Int × Nat → Shared → Prop} (hs : s.heap.IsSliceOf sl vl vu .none) (pl : IsPart vl lo) (pu : IsPart vu hi)
  (h : Q (((sIx n 0 lo : Nat) : Int), 1, sIx n n hi - sIx n 0 lo) s) : wpAny (model prog w) A (Builtin.Slice.sliceApplied (.ref sl) (pure (n : Int))) Q E s := by
 obtain ⟨os, hos, hcs, hds⟩ := id hs
 unfold Builtin.Slice.sliceApplied Builtin.Slice.sliceFields
 refine wpAny_bind (wpAny_bind (wpAny_field hos hds (x := vl) rfl (wpAny_bind (wpAny_field hos hds (x := vu) rfl (wpAny_bind (wpAny_field hos hds (x := .none) rfl (wpAny_pure ?_)))))))
 refine wpAny_bind (slicePart_none ?_)
 show wpAny _ _ (if ((1 : Int) == 0) = true then _ else _) _ _ s
 rw [if_neg (by decide)]
 refine wpAny_bind (slicePart_ pl (wpAny_bind (slicePart_ pu (wpAny_bind (wpAny_pure ?_)))))
 show wpAny _ _ (match Builtin.Slice.sliceAdjust lo hi 1 (n : Int) with | (lo, hi) => pure (lo, (1 : Int), Builtin.Slice.slicePlaces lo hi 1)) _ _ s
 rw [adjust_gen lo hi n]
 show wpAny _ _ (pure (((sIx n 0 lo : Nat) : Int), (1 : Int), Builtin.Slice.slicePlaces ((sIx n 0 lo : Nat) : Int) ((sIx n n hi : Nat) : Int) 1)) _ _ s
 rw [places_gen]
 exact wpAny_pure h
theorem pick_gen (xs : Array Value) (i k : Nat) : ((List.range k).filterMap fun (m : Nat) => xs[((i : Int) + (m : Int) * 1).toNat]?).toArray = ((xs.toList.drop i).take k).toArray := by
 have e : (fun (m : Nat) => xs[((i : Int) + (m : Int) * 1).toNat]?) = fun m => xs[i + m]? := by
  funext m
  have : ((i : Int) + (m : Int) * 1).toNat = i + m := by omega
  rw [this]
 rw [e]
 have := pick_run xs i k
 rw [List.filterMap_map] at this
 have e2 : ((fun x => xs[x]?) ∘ fun x => i + x) = fun m => xs[i + m]? := rfl
 rw [e2] at this
 rw [this]
theorem getItem_tuple_cut {t sl : Addr} {items : Array Value} {vl vu : Value} {lo hi : Option Int} {Q : Value → Shared → Prop} (ht : IsTup s.heap t items) (hs : s.heap.IsSliceOf sl vl vu .none) (pl : IsPart vl lo) (pu : IsPart vu hi)
  (hw : ¬ (sIx items.size 0 lo = 0 ∧ sIx items.size items.size hi = items.size))
  (h : Q (.ref s.heap.objs.size) { s with heap := s.heap.push { cls := .type "tuple", data := .seq ((items.toList.drop (sIx items.size 0 lo)).take (sIx items.size items.size hi - sIx items.size 0 lo)).toArray } })
  (hsz : items.size ≤ sizeLine) : wpAny (model prog w) A (getItem (.ref t) (.ref sl)) Q E s := by
 have htake : sizeOk (.seq ((items.toList.drop (sIx items.size 0 lo)).take (sIx items.size items.size hi - sIx items.size 0 lo)).toArray) := by
  show ((items.toList.drop (sIx items.size 0 lo)).take (sIx items.size items.size hi - sIx items.size 0 lo)).toArray.size ≤ sizeLine
  rw [List.size_toArray, List.length_take, List.length_drop, Array.length_toList]
  omega
 have hj : sIx items.size items.size hi ≤ items.size := sIx_le _ _ (Nat.le_refl _) hi
 obtain ⟨os, hos, hcs, hds⟩ := id hs
 have hTs : s.TypeIs (.ref sl) "slice" := ⟨os, hos, hcs⟩
 unfold getItem
 try with_reducible refine wpAny_holding ?_
 first | refine wpAny_bind (wpAny_pure ?_) | skip
 refine wpAny_bind (wpAny_sequenceKey ht.typeIs (by decide) ?_)
 refine wpAny_bind (wpAny_callSpecial?_slot (name := Str.ofString "__getitem__") ht.typeIs PyProof.Rows.slot_tuple_getitem
  (wpAny_call_entry PyProof.Rows.slot_tuple_getitem ht.typeIs entry_tuple_getitem ?_ (args_tuple_getitem _ _)))
 show wpAny _ _ (Builtin.Tuple.tupleItemsOf (.ref t) >>= _) _ _ s
 refine wpAny_bind (tupleItemsOf_ ht ?_)
 refine wpAny_bind (wpAny_typeOf hTs ?_)
 rw [if_pos (by decide)]
 refine wpAny_bind (sliceApplied_gen hs pl pu ?_)
 have hno : ¬ ((((sIx items.size 0 lo : Nat) : Int) == 0 && (1 : Int) == 1 && (sIx items.size items.size hi - sIx items.size 0 lo) == items.size) = true) := by
  intro q
  rw [Bool.and_eq_true, Bool.and_eq_true] at q
  have q1 : ((sIx items.size 0 lo : Nat) : Int) = 0 := eq_of_beq q.1.1
  have q2 : sIx items.size items.size hi - sIx items.size 0 lo = items.size := eq_of_beq q.2
  exact hw ⟨by omega, by omega⟩
 show wpAny _ _ (if (((sIx items.size 0 lo : Nat) : Int) == 0 && (1 : Int) == 1 && (sIx items.size items.size hi - sIx items.size 0 lo) == items.size) = true then _ else _) _ _ s
 rw [if_neg hno, pick_gen]
 first
  | exact wpAny_bind (m := Builtin.Tuple.tupleExact _) (wpAny_newObj_type (wpAny_pure ⟨_, rfl, wpAny_pure h⟩) htake)
  | exact wpAny_bind (m := Builtin.Tuple.tupleExact _) (wpAny_newObj_type (wpAny_bind (wpAny_pure (wpAny_pure ⟨_, rfl, wpAny_pure h⟩))) htake)
  | exact wpAny_bind (wpAny_bind (m := Builtin.Tuple.tupleExact _) (wpAny_newObj_type (wpAny_pure (wpAny_pure ⟨_, rfl, wpAny_pure h⟩)) htake))
  | exact wpAny_bind (wpAny_bind (m := Builtin.Tuple.tupleExact _) (wpAny_newObj_type (wpAny_pure ⟨_, rfl, wpAny_pure h⟩) htake))
end
end HT
namespace L2
open PySem PySem.Spec PyProof.Rows
abbrev TO := St → Hp → (Option Int → Hp → Prop) → Prop
def PO (X : Cx) (e : Option Expr) (t : TO) : Prop :=
 ∀ (pins : List (Addr × Obj)) (s : Shared) (σ : St) (H : Hp) (Q : Option Int → Hp → Prop), Inv X pins σ H s → t σ H Q →
  wpAny (model X.prog X.w) X.A (evalPart e X.env) (fun u s' => ∃ o H', Inv X pins σ H' s' ∧ IsPart u o ∧ Q o H') X.xe s
def tNoPart : TO := fun _ H Q => Q none H
def tPart (t : TE) : TO := fun σ H Q => t σ H fun x H1 => ∃ i, x = .int i ∧ Q (some i) H1
section
variable {X : Cx} {e : Expr} {te : TE} {lo hi : Option Expr} {tl th : TO} {pos p2 : Pos}
theorem po_none : PO X none tNoPart := by
 intro pins s σ H Q I h
 rw [evalPart_none]
 exact wpAny_pure ⟨none, H, I, .none, h⟩
theorem po_some (h : PE X e te) : PO X (some e) (tPart te) := by
 intro pins s σ H Q I hw
 rw [evalPart_some]
 refine thn (h pins s σ H _ I hw) fun u s1 ho_ => ?_
 obtain ⟨x, H1, I1, r1, q1⟩ := ho_
 obtain ⟨i, rfl, q⟩ := q1
 obtain ⟨t, rfl⟩ := r1
 exact ⟨some i, H1, I1, .int i t, q⟩
def SlR (X : Cx) (r : V → Option Int → Option Int → Hp → VK → Prop) : Prop :=
 ∀ (pins : List (Addr × Obj)) (s : Shared) (σ : St) (H : Hp) (x : V) (v vl vu : Value) (lo hi : Option Int) (sl : Addr) (Q : VK), Inv X pins σ H s → RelV x v → s.heap.IsSliceOf sl vl vu .none → IsPart vl lo → IsPart vu hi → r x lo hi H Q →
  ∃ T id, typeLookup (.type T) "__getitem__" = pure (some (.builtin id)) ∧ s.TypeIs v T ∧ wpAny (model X.prog X.w) X.A (getItem v (.ref sl)) (EP X pins σ Q) X.xe s
def tSl (r : V → Option Int → Option Int → Hp → VK → Prop) (te : TE) (tl th : TO) : TE := fun σ H Q => te σ H fun x H1 => tl σ H1 fun l H2 => th σ H2 fun u H3 => r x l u H3 Q
theorem pe_slice {r : V → Option Int → Option Int → Hp → VK → Prop} (hr : SlR X r) (he : PE X e te) (hl : PO X lo tl) (hu : PO X hi th) : PE X (.Subscript e (.Slice lo hi none p2) pos) (tSl r te tl th) := by
 intro pins s σ H Q I h
 refine Subscript_ (thn (he pins s σ H _ I h) fun v s1 ho_ => ?_)
 obtain ⟨x, H1, I1, r1, q1⟩ := ho_
 refine wpAny_Slice (thn (hl pins s1 σ H1 _ I1 q1) fun vl s2 ⟨l, H2, I2, pl, q2⟩ => thn (hu pins s2 σ H2 _ I2 q2) fun vu s3 ho_ => ?_)
 obtain ⟨u, H3, I3, pu, q3⟩ := ho_
 rw [evalPart_none]
 refine wpAny_pure ?_
 have I4 : Inv X pins σ H3 { s3 with heap := s3.heap.push { cls := .type "slice", data := .fields #[vl, vu, .none] } } := I3.kept (t' := s3.toks) fun b ob q => Heap.get?_push_of_some _ q
 obtain ⟨T, id, hT, ht, hg⟩ := hr pins { s3 with heap := s3.heap.push { cls := .type "slice", data := .fields #[vl, vu, .none] } } σ H3 x v vl vu l u s3.heap.objs.size Q I4 r1 (Heap.IsSliceOf.new ..) pl pu q3
 show wpAny (model X.prog X.w) X.A (subscriptTail e (.Slice lo hi none p2) v (.ref s3.heap.objs.size)) (EP X pins σ Q) X.xe { s3 with heap := s3.heap.push { cls := .type "slice", data := .fields #[vl, vu, .none] } }
 exact tail_any (ops := [.ref s3.heap.objs.size, v]) ht hT hg (by with_unfolding_all rfl)
def cutV (xs : List V) (lo hi : Option Int) : List V := (xs.drop (HT.sIx xs.length 0 lo)).take (HT.sIx xs.length xs.length hi - HT.sIx xs.length 0 lo)
theorem cutV_length (xs : List V) (lo hi : Option Int) : (cutV xs lo hi).length ≤ xs.length := by
 unfold cutV
 rw [List.length_take, List.length_drop]
 omega
def rSlT (K : PySem.W.Frag) : V → Option Int → Option Int → Hp → VK → Prop := fun x lo hi H Q => ∃ a xs, x = .ref a ∧ SqT K H a xs ∧
 ¬ (HT.sIx xs.length 0 lo = 0 ∧ HT.sIx xs.length xs.length hi = xs.length) ∧ ∀ p, H p = none → Q (.ref p) (upd H p (.tup (cutV xs lo hi)))
theorem sl_tup : SlR X (rSlT X.K) := by
 intro pins s σ H x v vl vu lo hi sl Q I rx hs pl pu h
 obtain ⟨a, xs, rfl, hx, hw, q⟩ := h
 cases rx
 obtain ⟨its, r, ht, hz⟩ := I.tuple hx
 have hlen : its.toArray.size = xs.length := by rw [List.size_toArray]; exact r.length.symm
 refine ⟨"tuple", _, PyProof.Rows.slot_tuple_getitem.lookup, ht.typeIs, ?_⟩
 refine HT.getItem_tuple_cut ht hs pl pu (by rw [hlen]; exact hw) ?_ (by rw [hlen]; exact hz)
 rw [hlen]
 refine ⟨.ref s.heap.objs.size, _, I.laid (t' := s.toks) (o := .tup (cutV xs lo hi)) (fun b ob q => Heap.get?_push_of_some _ q) (Nat.le_refl _) ?_, rfl, q _ (I.hok.fresh (Nat.le_refl _))⟩
 exact ⟨Nat.le_trans (cutV_length xs lo hi) hz, _, (r.drop (HT.sIx xs.length 0 lo)).take (HT.sIx xs.length xs.length hi - HT.sIx xs.length 0 lo), IsTup.new _ _⟩
end
end L2
namespace L2
open PySem PySem.Spec PyProof.Rows
def ixN (n : Nat) (i : Int) : Option Nat := if 0 ≤ i then (if i < n then some i.toNat else none) else if -(n : Int) ≤ i then some (i + n).toNat else none
def atI {α : Type} (xs : List α) (i : Int) : Option α := (ixN xs.length i).bind fun j => xs[j]?
theorem ixN_seq {n : Nat} {i : Int} {j : Nat} (h : ixN n i = some j) : seqIndex? i n = some j ∧ j < n ∧ -(n : Int) ≤ i ∧ i < n := by
 unfold ixN at h
 by_cases h0 : 0 ≤ i
 ·rw [if_pos h0] at h
  by_cases h1 : i < n
  ·rw [if_pos h1] at h
   have e : i.toNat = j := Option.some.inj h
   exact ⟨by rw [seqIndex_of h0 h1, e], by omega, by omega, h1⟩
  ·rw [if_neg h1] at h; cases h
 ·rw [if_neg h0] at h
  by_cases h1 : -(n : Int) ≤ i
  ·rw [if_pos h1] at h
   have e : (i + n).toNat = j := Option.some.inj h
   exact ⟨by rw [seqIndex_neg (by omega) h1, e], by omega, h1, by omega⟩
  ·rw [if_neg h1] at h; cases h
theorem atI_get {α : Type} {xs : List α} {i : Int} {v : α} (h : atI xs i = some v) : ∃ j, seqIndex? i xs.length = some j ∧ xs[j]? = some v ∧ j < xs.length ∧ -(xs.length : Int) ≤ i ∧ i < xs.length := by
 unfold atI at h
 cases e : ixN xs.length i with
 | none => rw [e] at h; cases h
 | some j =>
  rw [e] at h
  obtain ⟨h1, h2, h3, h4⟩ := ixN_seq e
  exact ⟨j, h1, h, h2, h3, h4⟩
theorem atI_nat {α : Type} {xs : List α} {j : Nat} {v : α} (h : xs[j]? = some v) : atI xs (j : Int) = some v := by
 have hj : j < xs.length := (List.getElem?_eq_some_iff.mp h).1
 have e : ixN xs.length (j : Int) = some j := by
  unfold ixN
  rw [if_pos (by omega), if_pos (by omega)]; simp
 unfold atI; rw [e]; exact h
def PlainIx (b : Expr) : Prop := ∀ o i, subscripted b false o i = operate [o, i] (getItem o i)
def IxR (X : Cx) (r : R2) : Prop :=
 ∀ (value slice : Expr) (pins : List (Addr × Obj)) (s : Shared) (σ : St) (H : Hp) (x y : V) (v u : Value) (Q : VK), Inv X pins σ H s → RelV x v → RelV y u → r x y H Q →
  subscripted slice false v u = operate [v, u] (getItem v u) → wpAny (model X.prog X.w) X.A (subscriptTail value slice v u) (EP X pins σ Q) X.xe s
def MtR (X : Cx) (id : String) (r : V → List V → Hp → VK → Prop) : Prop :=
 ∀ (pins : List (Addr × Obj)) (s : Shared) (σ : St) (H : Hp) (x : V) (xs : List V) (v : Value) (us : List Value) (Q : VK), Inv X pins σ H s → RelV x v → Vals xs us → r x xs H Q →
  wpAny (model X.prog X.w) X.A (call (.builtin id) (v :: us)) (EP X pins σ Q) X.xe s
section
variable {X : Cx} {a b : Expr} {ta tb : TE} {pos : Pos}
theorem pe_ix {r : R2} (hr : IxR X r) (ha : PE X a ta) (hb : PE X b tb) (hs : PlainIx b) : PE X (.Subscript a b pos) (tOp r ta tb) := by
 intro pins s σ H Q I h
 exact Subscript_ (binT ha hb I h fun v u s2 x y H2 I2 rx ry q => hr a b pins s2 σ H2 x y v u Q I2 rx ry q (hs _ _))
def rIxL (K : PySem.W.Frag) : R2 := fun x y H Q => ∃ p xs i v, x = .ref p ∧ y = .int i ∧ SqL K H p xs ∧ atI xs i = some v ∧ Q v H
def rIxT (K : PySem.W.Frag) : R2 := fun x y H Q => ∃ p xs i v, x = .ref p ∧ y = .int i ∧ SqT K H p xs ∧ atI xs i = some v ∧ Q v H
theorem ix_list : IxR X (rIxL X.K) := by
 intro value slice pins s σ H x y v u Q I rx ry h hs
 obtain ⟨p, xs, i, z, rfl, rfl, hq, he, q⟩ := h
 cases rx
 obtain ⟨t, rfl⟩ := ry
 obtain ⟨its, r, pl, hz⟩ := I.list hq
 obtain ⟨j, h1, h2, h3, h4, h5⟩ := atI_get he
 obtain ⟨w, ew, rw'⟩ := r.get h2
 have hl := r.length
 have hn := line63
 have fin : EP X pins σ Q w s := ⟨z, H, I, rw', q⟩
 by_cases h0 : 0 ≤ i
 ·have hj : i.toNat = j := by
   rw [seqIndex_of h0 h5] at h1
   exact Option.some.inj h1
  exact item_listR pl.isList h0 (by omega) (by rw [hj]; simpa using ew) fin hs
 ·have hj : (i + (its.toArray.size : Int)).toNat = j := by
   rw [seqIndex_neg (by omega) h4] at h1
   rw [List.size_toArray, ← hl]
   exact Option.some.inj h1
  exact subscriptTail_builtinR (x := w) pl.isList.typeIs slot_list_getitem.lookup
   (wpAny_getItem_list_neg (Q := fun r s' => r = w ∧ EP X pins σ Q r s') pl.isList (by omega) (by rw [List.size_toArray] <;> omega) (by omega) (by rw [hj]; simpa using ew) ⟨rfl, fin⟩) hs
theorem ix_tup : IxR X (rIxT X.K) := by
 intro value slice pins s σ H x y v u Q I rx ry h hs
 obtain ⟨p, xs, i, z, rfl, rfl, hq, he, q⟩ := h
 cases rx
 obtain ⟨t, rfl⟩ := ry
 obtain ⟨its, r, pl, hz⟩ := I.tuple hq
 obtain ⟨j, h1, h2, h3, h4, h5⟩ := atI_get he
 obtain ⟨w, ew, rw'⟩ := r.get h2
 have hl := r.length
 have hn := line63
 have fin : EP X pins σ Q w s := ⟨z, H, I, rw', q⟩
 exact subscriptTail_builtinR (x := w) pl.typeIs slot_tuple_getitem.lookup
  (getItem_tuple (j := j) (Q := fun r s' => r = w ∧ EP X pins σ Q r s') pl (by omega) (by omega) (by rw [List.size_toArray, ← hl]; exact h1) (by simpa using ew) ⟨rfl, fin⟩) hs
theorem slice_bounds (lo hi : Option Int) (n : Nat) : (sliceBounds lo hi none n).1 = ((HT.sIx n 0 lo : Nat) : Int) ∧ (sliceBounds lo hi none n).2.1 = ((HT.sIx n n hi : Nat) : Int) ∧ (sliceBounds lo hi none n).2.2 = 1 := by
 refine ⟨?_, ?_, rfl⟩
 ·cases lo with
  | none => simp [sliceBounds, HT.sIx]
  | some i =>
   simp only [sliceBounds, HT.sIx, Option.getD_none, show (1 : Int) > 0 by decide, if_true]
   by_cases h : i < 0
   ·simp only [h, if_true] <;> omega
   ·simp only [h, if_false] <;> omega
 ·cases hi with
  | none => simp [sliceBounds, HT.sIx]
  | some i =>
   simp only [sliceBounds, HT.sIx, Option.getD_none, show (1 : Int) > 0 by decide, if_true]
   by_cases h : i < 0
   ·simp only [h, if_true] <;> omega
   ·simp only [h, if_false] <;> omega
theorem slicePick_cut (its : List Value) (lo hi : Option Int) : slicePick its.toArray lo hi none = ((its.drop (HT.sIx its.length 0 lo)).take (HT.sIx its.length its.length hi - HT.sIx its.length 0 lo)).toArray := by
 obtain ⟨h1, h2, h3⟩ := slice_bounds lo hi its.toArray.size
 unfold slicePick
 rw [h1, h2, h3]
 simp only [sliceRange_one, pick_run, List.size_toArray] <;> rfl
def rSlL (K : PySem.W.Frag) : V → Option Int → Option Int → Hp → VK → Prop := fun x lo hi H Q => ∃ a xs, x = .ref a ∧ SqL K H a xs ∧ ∀ p, H p = none → Q (.ref p) (upd H p (.lst (cutV xs lo hi)))
theorem sl_list : SlR X (rSlL X.K) := by
 intro pins s σ H x v vl vu lo hi sl Q I rx hs pl pu h
 obtain ⟨a, xs, rfl, hx, q⟩ := h
 cases rx
 obtain ⟨its, r, ht, hz⟩ := I.list hx
 have hlen := r.length
 refine ⟨"list", _, slot_list_getitem.lookup, ht.isList.typeIs, ?_⟩
 refine wpAny_getItem_list_slice ht.isList hs pl pu .none (by simp) ?_ (by rw [List.size_toArray] <;> omega)
 rw [slicePick_cut, ← hlen]
 refine ⟨.ref s.heap.objs.size, _, I.laid (t' := s.toks) (o := .lst (cutV xs lo hi)) (fun b ob q => Heap.get?_push_of_some _ q) (Nat.le_refl _) ?_, rfl, q _ (I.hok.fresh (Nat.le_refl _))⟩
 exact ⟨Nat.le_trans (cutV_length xs lo hi) hz, _, 0, (r.drop (HT.sIx xs.length 0 lo)).take (HT.sIx xs.length xs.length hi - HT.sIx xs.length 0 lo), Heap.get?_push_size _ rfl⟩
def flatV : V → Bool
 | .non => true
 | .bl _ => true
 | .int _ => true
 | .str _ => true
 | _ => false
def eqV : V → V → Bool
 | .non, .non => true
 | .bl a, .bl b => a == b
 | .bl a, .int b => (if a then 1 else 0) == b
 | .int a, .bl b => a == (if b then 1 else 0)
 | .int a, .int b => a == b
 | .str a, .str b => a == b
 | _, _ => false
theorem eqAt_V {A : Around} {s : Shared} {y x : V} {u v : Value} (ry : RelV y u) (rx : RelV x v) (fy : flatV y = true) (fx : flatV x = true) : SeqAt.EqAt A s u v (eqV y x) := by
 cases y with
 | non =>
  cases ry
  cases x with
  | non => cases rx; exact SeqAt.EqAt.same _
  | bl b => cases rx; exact SeqAt.EqAt.none_bool b
  | int b => obtain ⟨t, rfl⟩ := rx; exact SeqAt.EqAt.none_int b t
  | str b => obtain ⟨t, rfl⟩ := rx; exact SeqAt.EqAt.none_str b t
  | _ => exact absurd (show false = true from fx) Bool.false_ne_true
 | bl a =>
  cases ry
  cases x with
  | non => cases rx; exact SeqAt.EqAt.bool_none a
  | bl b => cases rx; exact SeqAt.EqAt.bool_bool a b
  | int b => obtain ⟨t, rfl⟩ := rx; exact SeqAt.EqAt.bool_int a b t
  | str b => obtain ⟨t, rfl⟩ := rx; exact SeqAt.EqAt.bool_str a b t
  | _ => exact absurd (show false = true from fx) Bool.false_ne_true
 | int a =>
  obtain ⟨t', rfl⟩ := ry
  cases x with
  | non => cases rx; exact SeqAt.EqAt.int_none a t'
  | bl b => cases rx; exact SeqAt.EqAt.int_bool a t' b
  | int b => obtain ⟨t, rfl⟩ := rx; exact SeqAt.EqAt.int_int a t' b t
  | str b => obtain ⟨t, rfl⟩ := rx; exact SeqAt.EqAt.int_str a t' b t
  | _ => exact absurd (show false = true from fx) Bool.false_ne_true
 | str a =>
  obtain ⟨t', rfl⟩ := ry
  cases x with
  | non => cases rx; exact SeqAt.EqAt.str_none a t'
  | bl b => cases rx; exact SeqAt.EqAt.str_bool a t' b
  | int b => obtain ⟨t, rfl⟩ := rx; exact SeqAt.EqAt.str_int a t' b t
  | str b => obtain ⟨t, rfl⟩ := rx; exact SeqAt.EqAt.str_str a t' b t
  | _ => exact absurd (show false = true from fx) Bool.false_ne_true
 | _ => exact absurd (show false = true from fy) Bool.false_ne_true
def eqU (x : V) (u : Value) : Bool := match u with
 | .none => eqV .non x
 | .bool b => eqV (.bl b) x
 | .int i _ => eqV (.int i) x
 | .str z _ => eqV (.str z) x
 | _ => false
theorem eqU_of {x y : V} {u : Value} (r : RelV y u) (f : flatV y = true) : eqU x u = eqV y x := by
 cases y with
 | non => cases r; rfl
 | bl b => cases r; rfl
 | int i => obtain ⟨t, rfl⟩ := r; rfl
 | str z => obtain ⟨t, rfl⟩ := r; rfl
 | _ => exact absurd (show false = true from f) Bool.false_ne_true
theorem any_eqU {x : V} : ∀ {xs : List V} {us : List Value}, Vals xs us → xs.all flatV = true → us.any (eqU x) = xs.any fun y => eqV y x
 | _, _, .nil, _ => rfl
 | y :: xs, u :: us, .cons r t, f => by
  rw [List.all_cons, Bool.and_eq_true] at f
  rw [List.any_cons, List.any_cons, eqU_of r f.1, any_eqU t f.2]
theorem mem_eqAt {A : Around} {s : Shared} {x : V} {v : Value} (rx : RelV x v) (fx : flatV x = true) : ∀ {xs : List V} {us : List Value}, Vals xs us → xs.all flatV = true → ∀ u ∈ us, SeqAt.EqAt A s u v (eqU x u)
 | _, _, .nil, _ => fun u hu => by cases hu
 | y :: xs, u :: us, .cons r t, f => fun u' hu => by
  rw [List.all_cons, Bool.and_eq_true] at f
  rcases List.mem_cons.mp hu with rfl | hu
  ·rw [eqU_of r f.1]; exact eqAt_V r rx f.1 fx
  ·exact mem_eqAt rx fx t f.2 u' hu
def inV (x : V) (xs : List V) : Bool := xs.any fun y => eqV y x
def rIn (K : PySem.W.Frag) (neg : Bool) : R2 := fun x y H Q => ∃ p xs, y = .ref p ∧ (SqL K H p xs ∨ SqT K H p xs) ∧ flatV x = true ∧ xs.all flatV = true ∧ Q (.bl (if neg then !inV x xs else inV x xs)) H
theorem op_in_seq : OpR X (compareOp .In) (rIn X.K false) := by
 intro pins s σ H x y v u Q I rx ry h
 obtain ⟨p, xs, rfl, hq, fx, fs, q⟩ := h
 cases ry
 rcases hq with hq | hq
 ·obtain ⟨its, r, pl, hz⟩ := I.list hq
  refine SeqAt.in_listAt (eqU x) pl.isList (fun w hw => mem_eqAt rx fx r fs w (by simpa using hw)) ⟨.bl _, H, I, rfl, ?_⟩
  rw [show its.toArray.any (eqU x) = its.any (eqU x) by simp, any_eqU r fs]
  exact q
 ·obtain ⟨its, r, pl, hz⟩ := I.tuple hq
  refine SeqAt.in_tupleAt (eqU x) pl (fun w hw => mem_eqAt rx fx r fs w (by simpa using hw)) ⟨.bl _, H, I, rfl, ?_⟩
  rw [show its.toArray.any (eqU x) = its.any (eqU x) by simp, any_eqU r fs]
  exact q
theorem op_notIn_seq : OpR X (compareOp .NotIn) (rIn X.K true) := by
 intro pins s σ H x y v u Q I rx ry h
 obtain ⟨p, xs, rfl, hq, fx, fs, q⟩ := h
 cases ry
 rcases hq with hq | hq
 ·obtain ⟨its, r, pl, hz⟩ := I.list hq
  refine SeqAt.notIn_listAt (eqU x) pl.isList (fun w hw => mem_eqAt rx fx r fs w (by simpa using hw)) ⟨.bl _, H, I, rfl, ?_⟩
  rw [show its.toArray.any (eqU x) = its.any (eqU x) by simp, any_eqU r fs]
  exact q
 ·obtain ⟨its, r, pl, hz⟩ := I.tuple hq
  refine SeqAt.notIn_tupleAt (eqU x) pl (fun w hw => mem_eqAt rx fx r fs w (by simpa using hw)) ⟨.bl _, H, I, rfl, ?_⟩
  rw [show its.toArray.any (eqU x) = its.any (eqU x) by simp, any_eqU r fs]
  exact q
theorem call_len_seq : CallR X (.builtin "len") (fun xs H Q => ∃ p ys, xs = [.ref p] ∧ (SqL X.K H p ys ∨ SqT X.K H p ys) ∧ Q (.int ys.length) H) := by
 intro pins s σ H xs us Q I r h
 obtain ⟨p, ys, rfl, hq, q⟩ := h
 obtain ⟨u, rfl, rx⟩ := vals1 r
 cases rx
 have hn := line63
 rcases hq with hq | hq
 ·obtain ⟨its, r', pl, hz⟩ := I.list hq
  have hlen := r'.length
  exact Calls.call_len_list pl.isList (by simp only [List.size_toArray] <;> omega) ⟨.int ys.length, H, I.tok _, ⟨s.toks + 1, by rw [List.size_toArray, hlen]⟩, q⟩
 ·obtain ⟨its, r', pl, hz⟩ := I.tuple hq
  have hlen := r'.length
  exact len_tuple pl (by simp only [List.size_toArray] <;> omega) ⟨.int ys.length, H, I.tok _, ⟨s.toks + 1, by rw [List.size_toArray, hlen]⟩, q⟩
theorem call_len_str : CallR X (.builtin "len") (fun xs H Q => ∃ z, xs = [.str z] ∧ z.length ≤ sizeLine ∧ Q (.int z.length) H) := by
 intro pins s σ H xs us Q I r h
 obtain ⟨z, rfl, hz, q⟩ := h
 obtain ⟨u, rfl, t, rfl⟩ := vals1 r
 have hn := line63
 exact len_str (by omega) ⟨.int z.length, H, I.tok _, ⟨_, rfl⟩, q⟩
theorem CallR.or {f : Value} {r r' : List V → Hp → VK → Prop} (h : CallR X f r) (h' : CallR X f r') : CallR X f (fun xs H Q => r xs H Q ∨ r' xs H Q) := by
 intro pins s σ H xs us Q I rs q
 rcases q with q | q
 ·exact h pins s σ H xs us Q I rs q
 ·exact h' pins s σ H xs us Q I rs q
theorem call_tuple_of : CallR X (.type "tuple") (fun xs H Q => ∃ p ys, xs = [.ref p] ∧ ((SqL X.K H p ys ∧ ∀ l, H l = none → Q (.ref l) (upd H l (.tup ys))) ∨ (SqT X.K H p ys ∧ Q (.ref p) H))) := by
 intro pins s σ H xs us Q I r h
 obtain ⟨p, ys, rfl, h⟩ := h
 obtain ⟨u, rfl, rx⟩ := vals1 r
 cases rx
 rcases h with ⟨hq, q⟩ | ⟨hq, q⟩
 ·obtain ⟨its, r', pl, hz⟩ := I.list hq
  have hlen := r'.length
  refine call_tuple_list pl.isList (fun h' kp => ?_) (by simp only [List.size_toArray] <;> omega)
  have I1 : Inv X pins σ H { s with heap := h' } := I.kept (t' := s.toks) kp
  have I2 : Inv X pins σ (upd H h'.objs.size (.tup ys)) { s with heap := h'.push { cls := .type "tuple", data := .seq its.toArray } } :=
   I1.laid (t' := s.toks) (fun b o e => Heap.get?_push_of_some _ e) (Nat.le_refl _) (show ObjOk X.prog X.w _ _ _ (.tup ys) from ⟨hz, its, r', IsTup.new _ _⟩)
  exact ⟨.ref h'.objs.size, _, I2, rfl, q _ (I1.hok.fresh (Nat.le_refl _))⟩
 ·obtain ⟨its, r', pl, hz⟩ := I.tuple hq
  exact call_tuple_same pl ⟨.ref p, H, I, rfl, q⟩
def tyV (K : PySem.W.Frag) (T : String) (x : V) (H : Hp) : Prop := match x with
 | .str _ => T = "str"
 | .int _ => T = "int"
 | .ref p => (T = "list" ∧ ∃ xs, SqL K H p xs) ∨ (T = "tuple" ∧ ∃ o, K.lookup p = some o ∧ o.cls = .type "tuple" ∧ o.dict = none) ∨
   (T = "dict" ∧ ((∃ kvs, H p = some (.dK kvs)) ∨ ∃ kvs, H p = some (.dT kvs))) ∨ (T = "set" ∧ ∃ S n, H p = some (.set S n))
 | _ => False
theorem tyV_is {pins : List (Addr × Obj)} {σ : St} {H : Hp} {s : Shared} {T : String} {x : V} {v : Value} (I : Inv X pins σ H s) (r : RelV x v) (ty : tyV X.K T x H) :
  s.TypeIs v T ∧ ∀ a, v = .ref a → ∃ ob, s.heap.get? a = some ob ∧ ob.dict = none := by
 cases x with
 | str z =>
  obtain ⟨t, rfl⟩ := r
  cases (show T = "str" from ty)
  exact ⟨typeIs_str s z t, fun _ e => nomatch e⟩
 | int i =>
  obtain ⟨t, rfl⟩ := r
  cases (show T = "int" from ty)
  exact ⟨typeIs_int s i t, fun _ e => nomatch e⟩
 | ref p =>
  cases r
  rcases ty with ⟨rfl, xs, hq⟩ | ⟨rfl, o, hk, hc, hd⟩ | ⟨rfl, hk⟩ | ⟨rfl, S, n, hk⟩
  ·obtain ⟨its, _, pl, _⟩ := I.list hq
   refine ⟨pl.isList.typeIs, fun a e => ?_⟩
   cases e
   obtain ⟨o, n, e, c, hd, _⟩ := pl
   exact ⟨o, e, hd⟩
  ·refine ⟨⟨o, I.kIn p o hk, hc⟩, fun a e => ?_⟩
   cases e
   exact ⟨o, I.kIn _ o hk, hd⟩
  ·have z : ∃ o, s.heap.get? p = some o ∧ o.ExactDict := by
    rcases hk with ⟨kvs, hk⟩ | ⟨kvs, hk⟩
    ·obtain ⟨_, _, _, _, o, _, _, e, ex, _⟩ := I.hok p _ hk
     exact ⟨o, e, ex⟩
    ·obtain ⟨_, _, _, _, o, _, _, e, ex, _⟩ := I.hok p _ hk
     exact ⟨o, e, ex⟩
   obtain ⟨o, e, ex⟩ := z
   refine ⟨⟨o, e, ex.1⟩, fun a e2 => ?_⟩
   cases e2
   exact ⟨o, e, ex.2.1⟩
  ·obtain ⟨o, _, _, _, e, ex, _⟩ := I.hok p _ hk
   refine ⟨⟨o, e, ex.1⟩, fun a e2 => ?_⟩
   cases e2
   exact ⟨o, e, ex.2.1⟩
 | _ => exact False.elim ty
def tBM (K : PySem.W.Frag) (T : String) (r : V → List V → Hp → VK → Prop) (to : TE) (t : TA) : TE := fun σ H Q => to σ H fun x H1 => tyV K T x H1 ∧ t σ H1 fun xs H2 => r x xs H2 Q
variable {o e : Expr} {es : List Expr} {to : TE} {t : TA} {name : Str} {apos cpos : Pos} {T id : String} {r : V → List V → Hp → VK → Prop}
theorem pe_bm (pa : PlainAttrs T) (slot : Slot T name id) (hty : typeOf (.builtin id) = pure (.type "method_descriptor")) (hm : MtR X id r) (ho : PE X o to) (ha : PA X (e :: es) t)
  (hbase : attributeBase o name X.env (eval o X.env) = eval o X.env := by rfl)
  (hfew : ((backTo cpos (starEach (e :: es) X.env)).all (fun x => !x.1) && (backToKw cpos (keywordEach [] X.env)).all (fun x => x.1.isSome)
   && decide ((e :: es).length + ([] : List Keyword).length + (if ([] : List Keyword).isEmpty then 0 else 1) < 30)) = true := by rfl)
  (hline : (apos.endLine == cpos.line) = true := by rfl) (hs : starEach (e :: es) X.env = (false, eval e X.env) :: starEach es X.env := by rfl) (hplain : (backTo cpos (starEach es X.env)).any (·.1) = false := by rfl) :
  PE X (.Call (.Attribute o name apos) (e :: es) [] cpos) (tBM X.K T r to t) := by
 intro pins s σ H Q I h
 refine wpAny_Call_method_late hbase hfew hline rfl (thn (ho pins s σ H _ I h) fun v s1 ho_ => ?_)
 obtain ⟨x, H1, I1, r1, ty, q1⟩ := ho_
 obtain ⟨h1, h2⟩ := tyV_is I1 r1 ty
 refine ⟨T, id, pa, slot, hty, h1, h2, ?_⟩
 have hA := ha cpos pins s1 σ H1 _ I1 q1
 rw [hs] at hA ⊢
 refine Calls.callWith_builtin (by show (false || (backTo cpos (starEach es X.env)).any (·.1)) = false; rw [hplain] <;> rfl) (Calls.evalArgs_plain ?_)
 exact thn hA (by rintro us s2 ⟨vs, H2, I2, r2, q2⟩; exact hm pins s2 σ H2 x vs v us Q I2 r1 r2 q2)
end
end L2
namespace L2
open PySem PySem.Spec PyProof.Rows
def MtM (X : Cx) (id : String) (r : V → List V → Hp → VK → Prop) : Prop :=
 ∀ (pins : List (Addr × Obj)) (s : Shared) (σ : St) (H : Hp) (x : V) (xs : List V) (v : Value) (us : List Value) (Q : VK), Inv X pins σ H s → RelV x v → Vals xs us → r x xs H Q →
  wpAny (model X.prog X.w) X.A (call (.builtin id) (v :: us)) (EP X pins σ Q) X.xe s
theorem Vals.one : ∀ {x : V} {us : List Value}, Vals [x] us → ∃ u, us = [u] ∧ RelV x u := by
 intro x us h
 cases h with
 | cons r t =>
  cases t
  exact ⟨_, rfl, r⟩
theorem Vals.eraseIdx : ∀ {xs : List V} {us : List Value} (i : Nat), Vals xs us → Vals (xs.eraseIdx i) (us.eraseIdx i)
 | _, _, _, .nil => .nil
 | _, _, 0, .cons _ t => t
 | _, _, i + 1, .cons r t => .cons r (Vals.eraseIdx i t)
theorem len_erase {α : Type} : ∀ (l : List α) (i : Nat), (l.eraseIdx i).length ≤ l.length
 | [], _ => Nat.le_refl _
 | _ :: _, 0 => Nat.le_succ _
 | _ :: r, i + 1 => Nat.succ_le_succ (len_erase r i)
section
variable {X : Cx} {pins : List (Addr × Obj)} {σ : St} {H : Hp} {s : Shared} {l b : Addr} {xs ys zs : List V}
theorem Inv.lset {its its' : List Value} {n : Nat} {f : Array Value → Array Value} {t' : Nat} (I : Inv X pins σ H s) (hH : H l = some (.lst xs))
  (e : s.heap.get? l = some { cls := .type "list", data := .seq its.toArray n }) (hf : f its.toArray = its'.toArray) (hv : Vals ys its') (hz : ys.length ≤ sizeLine) :
  Inv X pins σ (upd H l (.lst ys)) { s with heap := s.heap.update l (Obj.mapSeq f), toks := t' } := by
 have q := PySem.IsL.update e f
 rw [hf] at q
 refine I.write (x := l) (e := l) (by rw [hH]; exact trivial) (.inl rfl) (fun b' u hb hu => (Heap.get?_update_other s.heap (Obj.mapSeq f) (Ne.symm hb)).trans hu) ⟨_, q⟩ ?_
 exact ⟨hz, its', _, hv, q⟩
theorem Inv.lstM (I : Inv X pins σ H s) (hH : H l = some (.lst xs)) : xs.length ≤ sizeLine ∧ ∃ (its : List Value) (n : Nat), Vals xs its ∧ xs.length = its.length ∧ s.heap.get? l = some { cls := .type "list", data := .seq its.toArray n } := by
 obtain ⟨z, its, n, r, e⟩ := I.hok l _ hH
 exact ⟨z, its, n, r, r.length, e⟩
theorem notLongL {n : Nat} (h : n ≤ sizeLine) : Builtin.List.listTooLong n = false := by
 unfold Builtin.List.listTooLong
 exact decide_eq_false (by omega)
end
section
variable {X : Cx}
def rAppend : V → List V → Hp → VK → Prop := fun x vs H Q => ∃ l xs y, x = .ref l ∧ vs = [y] ∧ H l = some (.lst xs) ∧ xs.length < sizeLine ∧ Q .non (upd H l (.lst (xs ++ [y])))
theorem mt_append : MtM X "list.append" rAppend := by
 intro pins s σ H x vs v us Q I rx rv h
 obtain ⟨l, xs, y, rfl, rfl, hH, hz, q⟩ := h
 cases rx
 obtain ⟨u, rfl, ru⟩ := rv.one
 obtain ⟨z, its, n, r, hl, e⟩ := I.lstM hH
 refine call_meets F.slot_list_append ⟨_, e, rfl⟩ F.entry_list_append (F.args_list_append_2 _ _) (PySem.list_append l its.toArray n u (by rw [List.size_toArray]; omega)) ⟨e, ?_⟩
 refine ⟨.non, _, I.lset (its' := its ++ [u]) hH e (by simp) (r.append (.cons ru .nil)) ?_, rfl, q⟩
 rw [List.length_append, List.length_singleton]
 omega
def rExtend : V → List V → Hp → VK → Prop := fun x vs H Q => ∃ l b xs zs, x = .ref l ∧ vs = [.ref b] ∧ H l = some (.lst xs) ∧ H b = some (.lst zs) ∧ xs.length + zs.length ≤ sizeLine ∧ Q .non (upd H l (.lst (xs ++ zs)))
theorem mt_extend : MtM X "list.extend" rExtend := by
 intro pins s σ H x vs v us Q I rx rv h
 obtain ⟨l, b, xs, zs, rfl, rfl, hH, hB, hz, q⟩ := h
 cases rx
 obtain ⟨u, rfl, ru⟩ := rv.one
 cases ru
 obtain ⟨z, its, n, r, hl, e⟩ := I.lstM hH
 obtain ⟨z2, its2, n2, r2, hl2, e2⟩ := I.lstM hB
 have hsz : its.toArray.size + its2.toArray.size ≤ sizeLine := by rw [List.size_toArray, List.size_toArray]; omega
 have hlong : ¬ (!its.toArray.isEmpty && Builtin.List.listTooLong (its.toArray.size + its2.toArray.size)) = true := by
  rw [notLongL hsz, Bool.and_false]
  exact Bool.false_ne_true
 refine call_meets F.slot_list_extend ⟨_, e, rfl⟩ F.entry_list_extend (F.args_list_extend_2 _ _)
  (AutoSeq1.list_extend_list_list_0 l its.toArray n b its2.toArray n2 hlong (by rw [List.size_toArray]; omega) (by omega)) ⟨e, e2, ?_⟩
 refine ⟨.non, _, I.lset (its' := its ++ its2) hH e (by simp) (r.append r2) ?_, rfl, q⟩
 rw [List.length_append]
 omega
def rPopAt : V → List V → Hp → VK → Prop := fun x vs H Q => ∃ l xs i k y, x = .ref l ∧ vs = [.int i] ∧ H l = some (.lst xs) ∧ -(2 ^ 63) ≤ i ∧ i < 2 ^ 63 ∧ seqIndex? i xs.length = some k ∧ xs[k]? = some y ∧ Q y (upd H l (.lst (xs.eraseIdx k)))
theorem mt_popAt : MtM X "list.pop" rPopAt := by
 intro pins s σ H x vs v us Q I rx rv h
 obtain ⟨l, xs, i, k, y, rfl, rfl, hH, h1, h2, hk, hy, q⟩ := h
 cases rx
 obtain ⟨u, rfl, ru⟩ := rv.one
 obtain ⟨t, rfl⟩ := ru
 obtain ⟨z, its, n, r, hl, e⟩ := I.lstM hH
 obtain ⟨w, hw, rw'⟩ := r.get hy
 refine call_meets F.slot_list_pop ⟨_, e, rfl⟩ F.entry_list_pop (F.args_list_pop_2 _ _)
  (MeetsSeq.list_pop_at l its.toArray n i t k w (fitsIndex_both h1 h2) (by rw [List.size_toArray, ← hl]; exact hk) (by rw [← Array.getElem?_toList]; exact hw) (by rw [List.size_toArray]; omega)) ⟨e, ?_⟩
 refine ⟨y, _, I.lset (its' := its.eraseIdx k) hH e ?_ (r.eraseIdx k) ?_, rw', q⟩
 ·show its.toArray.eraseIdxIfInBounds k = (its.eraseIdx k).toArray
  rw [List.eraseIdxIfInBounds_toArray]
 ·have := len_erase xs k
  omega
end
section
variable {prog : Program} {w : World} {A : Around} {E : Value → Shared → Prop} {s : Shared}
end
section
variable {X : Cx}
end
end L2
namespace L2
open PySem PySem.Spec PyProof.Rows
section
variable {κ : Type} [DecidableEq κ]
def valV (kvs : List (κ × V)) (k : κ) : Option V := (kvs.find? fun kv => decide (kv.1 = k)).map (·.2)
def putK (kvs : List (κ × V)) (k : κ) (v : V) : List (κ × V) :=
 if (kvs.any fun kv => decide (kv.1 = k)) = true then kvs.map (fun kv => if kv.1 = k then (kv.1, v) else kv) else kvs ++ [(k, v)]
def dropK (kvs : List (κ × V)) (k : κ) : List (κ × V) := kvs.filter fun kv => decide (kv.1 ≠ k)
theorem valV_pos {p : κ × V} {r : List (κ × V)} {k : κ} (e : p.1 = k) : valV (p :: r) k = some p.2 := by simp [valV, List.find?_cons, e]
theorem valV_neg {p : κ × V} {r : List (κ × V)} {k : κ} (e : ¬ p.1 = k) : valV (p :: r) k = valV r k := by simp [valV, List.find?_cons, e]
theorem valV_any (k : κ) : ∀ kvs : List (κ × V), (kvs.any fun kv => decide (kv.1 = k)) = (valV kvs k).isSome
 | [] => rfl
 | p :: r => by
  rw [List.any_cons]
  by_cases e : p.1 = k
  ·simp only [valV_pos e, decide_eq_true e, Bool.true_or, Option.isSome_some]
  ·rw [valV_neg e, decide_eq_false e, Bool.false_or]; exact valV_any k r
theorem length_putK (kvs : List (κ × V)) (k : κ) (v : V) : (putK kvs k v).length ≤ kvs.length + 1 := by
 unfold putK
 split
 ·rw [List.length_map]; omega
 ·rw [List.length_append, List.length_cons, List.length_nil]; omega
theorem putK_new {kvs : List (κ × V)} {k : κ} (v : V) (h : valV kvs k = none) : putK kvs k v = kvs ++ [(k, v)] := by
 unfold putK
 rw [valV_any, h]
 exact if_neg (by decide)
theorem RelO.isSome_eq {o : Option V} {u : Option Value} (r : RelO o u) : o.isSome = u.isSome := by
 cases o with
 | none => cases u with
  | none => rfl
  | some _ => exact (show False from r).elim
 | some _ => cases u with
  | none => exact (show False from r).elim
  | some _ => rfl
theorem KV.val {kvs : List (κ × V)} {vs : List (κ × Value)} (r : KV kvs vs) (k : κ) : RelO (valV kvs k) (valueAt vs k) := by
 unfold KV at r
 induction r with
 | nil => exact True.intro
 | @cons p q ps qs h t ih =>
  obtain ⟨h1, h2⟩ := h
  by_cases e : p.1 = k
  ·have e' : q.1 = k := h1.symm.trans e
   have b : valueAt (q :: qs) k = some q.2 := by simp [valueAt, List.find?_cons, e']
   rw [valV_pos e, b]; exact h2
  ·have e' : ¬ q.1 = k := fun z => e (h1.trans z)
   have b : valueAt (q :: qs) k = valueAt qs k := by simp [valueAt, List.find?_cons, e']
   rw [valV_neg e, b]; exact ih
theorem KV.any {kvs : List (κ × V)} {vs : List (κ × Value)} (r : KV kvs vs) (k : κ) : (kvs.any fun kv => decide (kv.1 = k)) = vs.any fun kv => decide (kv.1 = k) := by
 unfold KV at r
 induction r with
 | nil => rfl
 | cons h t ih => rw [List.any_cons, List.any_cons, ih, h.1]
theorem KV.repl {kvs : List (κ × V)} {vs : List (κ × Value)} (r : KV kvs vs) (k : κ) {y : V} {u : Value} (ry : RelV y u) :
  KV (kvs.map fun kv => if kv.1 = k then (kv.1, y) else kv) (vs.map fun kv => if kv.1 = k then (kv.1, u) else kv) := by
 unfold KV at r ⊢
 induction r with
 | nil => exact .nil
 | @cons p q ps qs h t ih =>
  rw [List.map_cons, List.map_cons]
  refine .cons ?_ ih
  obtain ⟨h1, h2⟩ := h
  by_cases e : p.1 = k
  ·rw [if_pos e, if_pos (h1.symm.trans e)]; exact ⟨h1, ry⟩
  ·rw [if_neg e, if_neg (fun z => e (h1.trans z))]; exact ⟨h1, h2⟩
theorem KV.put {kvs : List (κ × V)} {vs : List (κ × Value)} (r : KV kvs vs) (k : κ) {y : V} {u : Value} (ry : RelV y u) : KV (putK kvs k y) (stored vs k u) := by
 unfold putK stored
 rw [r.any k]
 by_cases e : (vs.any fun kv => decide (kv.1 = k)) = true
 ·rw [if_pos e, if_pos e]; exact r.repl k ry
 ·rw [if_neg e, if_neg e]; exact Paired.snoc r ⟨rfl, ry⟩
theorem KV.drop {kvs : List (κ × V)} {vs : List (κ × Value)} (r : KV kvs vs) (k : κ) : KV (dropK kvs k) (without vs k) := by
 unfold KV at r ⊢
 unfold dropK without
 induction r with
 | nil => exact .nil
 | @cons p q ps qs h t ih =>
  obtain ⟨h1, h2⟩ := h
  rw [List.filter_cons, List.filter_cons]
  by_cases e : p.1 = k
  ·have a : ¬ decide (p.1 ≠ k) = true := by simp [e]
   have b : ¬ decide (q.1 ≠ k) = true := by simp [h1.symm.trans e]
   rw [if_neg a, if_neg b]; exact ih
  ·have e' : ¬ q.1 = k := fun z => e (h1.trans z)
   have a : decide (p.1 ≠ k) = true := by simp [e]
   have b : decide (q.1 ≠ k) = true := by simp [e']
   rw [if_pos a, if_pos b]; exact .cons ⟨h1, h2⟩ ih
theorem KV.length {kvs : List (κ × V)} {vs : List (κ × Value)} (r : KV kvs vs) : kvs.length = vs.length := Paired.length r
theorem dropK_le (kvs : List (κ × V)) (k : κ) : (dropK kvs k).length ≤ kvs.length := List.length_filter_le _ _
end
theorem kV_is {P : Program} {w : World} {k : Key} {u : Value} (r : RelV (kV k) u) : (mixKind P w).is k u = true := by
 cases k with
 | inl i => obtain ⟨t, e⟩ := (show ∃ t, u = Value.int i t from r); subst e; exact mixKind_int P w i t
 | inr x => obtain ⟨t, e⟩ := (show ∃ t, u = Value.str x t from r); subst e; exact mixKind_str P w x t
theorem items_are {P : Program} {w : World} : ∀ {ks : List Key} {us : List Value}, Vals (ks.map kV) us → ItemsAre (mixKind P w) ks us
 | [], _, r => by rw [List.map_nil] at r; cases r; exact .nil
 | k :: ks, _, r => by
  rw [List.map_cons] at r
  cases r with
  | cons h t => exact .cons (kV_is h) (items_are t)
abbrev KT (H : Hp) : List (List Key × V) → List (List Key × Addr × Value) → Prop := Paired fun p q => p.1 = q.1 ∧ H q.2.1 = some (.tup (p.1.map kV)) ∧ RelV p.2 q.2.2
theorem KT.val {H : Hp} {kvs : List (List Key × V)} {xs : List (List Key × Addr × Value)} (r : KT H kvs xs) (k : List Key) : RelO (valV kvs k) ((atKey xs k).map (·.2)) := by
 induction r with
 | nil => exact True.intro
 | @cons p q ps qs h t ih =>
  obtain ⟨h1, _, h2⟩ := h
  by_cases e : p.1 = k
  ·have e' : q.1 = k := h1.symm.trans e
   have b : atKey (q :: qs) k = some q.2 := by simp [atKey, List.find?_cons, e']
   rw [valV_pos e, b]; exact h2
  ·have e' : ¬ q.1 = k := fun z => e (h1.trans z)
   have b : atKey (q :: qs) k = atKey qs k := by simp [atKey, List.find?_cons, e']
   rw [valV_neg e, b]; exact ih
theorem KT.repl {H : Hp} {kvs : List (List Key × V)} {xs : List (List Key × Addr × Value)} (r : KT H kvs xs) (k : List Key) {y : V} {u : Value} (ry : RelV y u) :
  KT H (kvs.map fun kv => if kv.1 = k then (kv.1, y) else kv) (xs.map (putAt k u)) := by
 induction r with
 | nil => exact .nil
 | @cons p q ps qs h t ih =>
  rw [List.map_cons, List.map_cons]
  refine .cons ?_ ih
  obtain ⟨h1, h2, h3⟩ := h
  unfold putAt
  by_cases e : p.1 = k
  ·rw [if_pos e, if_pos (h1.symm.trans e)]; exact ⟨h1, h2, ry⟩
  ·rw [if_neg e, if_neg (fun z => e (h1.trans z))]; exact ⟨h1, h2, h3⟩
theorem KT.put {H : Hp} {kvs : List (List Key × V)} {xs : List (List Key × Addr × Value)} (r : KT H kvs xs) (k : List Key) {b : Addr} {y : V} {u : Value} (hb : H b = some (.tup (k.map kV))) (ry : RelV y u) :
  KT H (putK kvs k y) (storedH xs k b u) := by
 have e : (kvs.any fun kv => decide (kv.1 = k)) = (atKey xs k).isSome := by
  rw [valV_any, (r.val k).isSome_eq, Option.isSome_map]
 unfold putK storedH
 rw [e]
 by_cases q : (atKey xs k).isSome = true
 ·rw [if_pos q, if_pos q]; exact r.repl k ry
 ·rw [if_neg q, if_neg q]; exact Paired.snoc r ⟨rfl, hb, ry⟩
theorem KT.keeps {H H' : Hp} {kvs : List (List Key × V)} {xs : List (List Key × Addr × Value)} (r : KT H kvs xs) (ht : ∀ b ys, H b = some (.tup ys) → H' b = some (.tup ys)) : KT H' kvs xs :=
 Paired.mapP r fun _ _ z => ⟨z.1, ht _ _ z.2.1, z.2.2⟩
section
variable {P : Program} {w : World} {H : Hp} {h : Heap} {a : Addr}
theorem rd_of {u : HO} (ok : HOk P w H h) (e : Rd H a u) : ObjOk P w H h a u := e.ok ok
theorem dk_rd {kvs : List (Key × V)} (ok : HOk P w H h) (e : Rd H a (.dK kvs)) : kvs.length ≤ sizeLine ∧ (a == sysModules) = false ∧ ∃ vs, KV kvs vs ∧ h.DictOf (mixKind P w) a vs :=
 show ObjOk P w H h a (.dK kvs) from rd_of ok e
theorem dk_of {kvs : List (Key × V)} (ok : HOk P w H h) (e : H a = some (.dK kvs)) : kvs.length ≤ sizeLine ∧ (a == sysModules) = false ∧ ∃ vs, KV kvs vs ∧ h.DictOf (mixKind P w) a vs := dk_rd ok (.inl e)
theorem key_of {ks : List Key} (ok : HOk P w H h) (e : H a = some (.tup (ks.map kV))) : (tupleKind (mixKind P w)).is h ks a := by
 obtain ⟨_, its, r, o, h1, h2, n, h3⟩ := (show ObjOk P w H h a (.tup (ks.map kV)) from ok a _ e)
 exact ⟨o, its.toArray, n, h1, h2, h3, by simpa using items_are r⟩
theorem dt_rd {kvs : List (List Key × V)} (ok : HOk P w H h) (e : Rd H a (.dT kvs)) : kvs.length ≤ sizeLine ∧ (a == sysModules) = false ∧
  ∃ xs, KT H kvs xs ∧ h.DictOfH (tupleKind (mixKind P w)) a xs := by
 obtain ⟨z, y, xs, r, o, es, ep, h1, h2, h3, h4, h5⟩ := (show ObjOk P w H h a (.dT kvs) from rd_of ok e)
 refine ⟨z, y, xs, r, o, es, ep, h1, h2, h3, h4, fun x hx => ?_, h5⟩
 have all : ∀ {l : List (List Key × V)} {m : List (List Key × Addr × Value)}, KT H l m → ∀ x ∈ m, (tupleKind (mixKind P w)).is h x.1 x.2.1 := by
  intro l m q
  induction q with
  | nil => intro x hx; exact nomatch hx
  | @cons p q ps qs hq t ih =>
   intro x hx
   rcases List.mem_cons.mp hx with e | hx
   ·subst e
    exact key_of ok (by rw [← hq.1]; exact hq.2.1)
   ·exact ih x hx
 exact all r x hx
theorem dt_of {kvs : List (List Key × V)} (ok : HOk P w H h) (e : H a = some (.dT kvs)) : kvs.length ≤ sizeLine ∧ (a == sysModules) = false ∧
  ∃ xs, KT H kvs xs ∧ h.DictOfH (tupleKind (mixKind P w)) a xs := dt_rd ok (.inl e)
end
def DGet (H : Hp) (a : Addr) (y : V) (r : Option V) : Prop :=
 (∃ kvs k, Rd H a (.dK kvs) ∧ y = kV k ∧ r = valV kvs k) ∨ ∃ kvs k b, Rd H a (.dT kvs) ∧ y = .ref b ∧ H b = some (.tup (k.map kV)) ∧ r = valV kvs k
def DPut (H : Hp) (a : Addr) (y v : V) (H' : Hp) : Prop :=
 (∃ kvs k, H a = some (.dK kvs) ∧ y = kV k ∧ kvs.length < sizeLine ∧ H' = upd H a (.dK (putK kvs k v))) ∨
 ∃ kvs k b, H a = some (.dT kvs) ∧ y = .ref b ∧ H b = some (.tup (k.map kV)) ∧ kvs.length < sizeLine ∧ H' = upd H a (.dT (putK kvs k v))
theorem DGet.k {H : Hp} {a : Addr} {kvs : List (Key × V)} {k : Key} (e : H a = some (.dK kvs)) : DGet H a (kV k) (valV kvs k) := .inl ⟨kvs, k, .inl e, rfl, rfl⟩
section
variable {X : Cx} {pins : List (Addr × Obj)} {σ : St} {H : Hp} {s : Shared} {a : Addr} {y v : V} {u r : Value} {o : Option V} {A : Around} {E : Value → Shared → Prop}
theorem Inv.big (I : Inv X pins σ H s) : sysModules < s.heap.objs.size := by
 have h : mainGlobals < s.heap.objs.size := (I.mod.glob.keeps I.bk).lt
 exact Nat.lt_trans (by decide) h
theorem d_getItem {Q : Value → Shared → Prop} (hu : A.units + 1 < cLine) (I : Inv X pins σ H s) (g : DGet H a y (some v)) (ry : RelV y u) (h : ∀ w' s', Inv X pins σ H s' → RelV v w' → Q w' s') :
  wpAny (model X.prog X.w) A (getItem (.ref a) u) Q E s := by
 rcases g with ⟨kvs, k, e, ey, l⟩ | ⟨kvs, k, b, e, ey, eb, l⟩
 ·subst ey
  obtain ⟨z, hd, vs, rel, dd⟩ := dk_rd I.hok e
  obtain ⟨w', hw, rw'⟩ := RelO.some_of (v := v) (o := valueAt vs k) (by rw [l]; exact rel.val k)
  exact wpAny_getItem_of (kV_is ry) dd.mapOf hw (h w' _ (I.tok _) rw')
 ·subst ey
  cases (show u = Value.ref b from ry)
  obtain ⟨z, hd, xs, rel, dd⟩ := dt_rd I.hok e
  obtain ⟨w', hw, rw'⟩ := RelO.some_of (v := v) (o := (atKey xs k).map (·.2)) (by rw [l]; exact rel.val k)
  obtain ⟨p, hp, hp2⟩ := Option.map_eq_some_iff.mp hw
  refine wpAny_getItem_heap (tupleKind_room_in1 hu) (key_of I.hok eb) dd hp ?_
  rw [hp2]
  exact h w' _ (I.tok _) rw'
theorem d_write {h' : Heap} {t' : Nat} {ob : HO} (I : Inv X pins σ H s) (mu : Mut (H a)) (hs : Heap.SameBut a s.heap h') (he : ∃ q, h'.get? a = some q) (new : ObjOk X.prog X.w (upd H a ob) h' a ob) :
  Inv X pins σ (upd H a ob) { s with heap := h', toks := t' } :=
 I.write (x := a) (e := a) mu (.inl rfl) (fun b q hb z => (hs.2 b hb).trans z) he new
theorem dk_new {P : Program} {w : World} {H' : Hp} {h' : Heap} {kvs : List (Key × V)} {vs : List (Key × Value)} (z : kvs.length ≤ sizeLine) (hd : (a == sysModules) = false) (rel : KV kvs vs) (dd : h'.DictOf (mixKind P w) a vs) :
  ObjOk P w H' h' a (.dK kvs) := ⟨z, hd, vs, rel, dd⟩
theorem d_setItem {H' : Hp} {Q : Unit → Shared → Prop} (hu : A.units + 1 < cLine) (I : Inv X pins σ H s) (g : DPut H a y v H') (ry : RelV y u) (rv : RelV v r) (h : ∀ s', Inv X pins σ H' s' → Q () s') :
  wpAny (model X.prog X.w) A (setItem (.ref a) u r) Q E s := by
 rcases g with ⟨kvs, k, e, ey, l, eH⟩ | ⟨kvs, k, b, e, ey, eb, l, eH⟩
 ·subst ey eH
  obtain ⟨z, hd, vs, rel, dd⟩ := dk_of I.hok e
  have hz : vs.length ≤ sizeLine := by rw [← rel.length]; exact z
  have hl : (putK kvs k v).length ≤ sizeLine := by have := length_putK kvs k v; omega
  refine wpAny_setItem_pairs (hsz := hz) (kV_is ry) dd fun h' dd' hs => h _ ?_
  have he : ∃ q, h'.get? a = some q := let ⟨q, _, _, hq, _⟩ := dd'; ⟨q, hq⟩
  exact d_write I (by rw [e]; exact True.intro) hs he (dk_new hl hd (rel.put k rv) dd')
 ·subst ey eH
  cases (show u = Value.ref b from ry)
  obtain ⟨z, hd, xs, rel, dd⟩ := dt_of I.hok e
  have hz : xs.length ≤ sizeLine := by rw [← Paired.length rel]; exact z
  have hl : (putK kvs k v).length ≤ sizeLine := by have := length_putK kvs k v; omega
  refine wpAny_setItem_heap (hsz := hz) (tupleKind_room_in1 hu) (key_of I.hok eb) dd fun h' dd' hs => h _ ?_
  obtain ⟨q, es, ep, hq, h2, h3, h4, _, h5⟩ := dd'
  refine d_write I (by rw [e]; exact True.intro) hs ⟨q, hq⟩ ⟨hl, hd, _, (rel.put k eb rv).keeps fun c ys ec => ?_, q, es, ep, hq, h2, h3, h4, h5⟩
  rw [upd_ne (ne_of ec e (fun z => nomatch z))]
  exact ec
end
section
variable {X : Cx} {pins : List (Addr × Obj)} {σ : St} {H : Hp} {s : Shared} {a : Addr} {kvs : List (Key × V)} {k : Key} {u : Value} {A : Around} {E : Value → Shared → Prop}
theorem d_pop {v : V} {more : List Value} {Q : Value → Shared → Prop} (I : Inv X pins σ H s) (e : H a = some (.dK kvs)) (ry : RelV (kV k) u) (l : valV kvs k = some v) (hm : more = [] ∨ ∃ x, more = [x])
  (h : ∀ w' s', Inv X pins σ (upd H a (.dK (dropK kvs k))) s' → RelV v w' → Q w' s') : wpAny (model X.prog X.w) A (call (.builtin "dict.pop") (.ref a :: u :: more)) Q E s := by
 obtain ⟨z, hd, vs, rel, dd⟩ := dk_of I.hok e
 obtain ⟨w', hw, rw'⟩ := RelO.some_of (v := v) (o := valueAt vs k) (by rw [← l]; exact rel.val k)
 have hp : (keyPart u).isSome = true := by
  cases k with
  | inl i => obtain ⟨t, q⟩ := (show ∃ t, u = Value.int i t from ry); subst q; rfl
  | inr x => obtain ⟨t, q⟩ := (show ∃ t, u = Value.str x t from ry); subst q; rfl
 have ha : argsOk "dict.pop" ⟨.ref a :: u :: more, []⟩ := by
  rcases hm with q | ⟨x, q⟩
  ·subst q; exact PySem.F.args_dict_pop_2 _ _
  ·subst q; exact PySem.F.args_dict_pop_3 _ _ _
 refine call_meetsIn PySem.F.slot_dict_pop dd.typeIs PySem.F.entry_dict_pop ha (meets_dict_pop_there (mixKind X.prog X.w) a (kV_is ry) more hm hp)
  ⟨vs, w', dd, by rw [← rel.length]; exact z, hw, fun h' dd' hs => h w' _ ?_ rw'⟩
 have he : ∃ q, h'.get? a = some q := let ⟨q, _, _, hq, _⟩ := dd'; ⟨q, hq⟩
 exact d_write I (by rw [e]; exact True.intro) hs he (dk_new (Nat.le_trans (dropK_le kvs k) z) hd (rel.drop k) dd')
theorem d_len {Q : Value → Shared → Prop} (I : Inv X pins σ H s) (e : Rd H a (.dK kvs)) (h : ∀ t s', Inv X pins σ H s' → Q (.int kvs.length t) s') : wpAny (model X.prog X.w) A (call (.builtin "len") [.ref a]) Q E s := by
 obtain ⟨z, hd, vs, rel, dd⟩ := dk_rd I.hok e
 refine call_len_dict hd dd (by rw [← rel.length]; rw [sizeLine_eq] at z; omega) ?_
 rw [← rel.length]
 exact h _ _ (I.tok _)
end
def NoSl (i : Expr) : Prop := ∀ ov iv, subscripted i false ov iv = operate [ov, iv] (getItem ov iv)
theorem subD_of {prog : Program} {w : World} {A : Around} {E : Value → Shared → Prop} {s : Shared} {env : Env} {value slice : Expr} {pos : Pos} {T id : String} {Q : Value → Shared → Prop}
  (hl : typeLookup (.type T) "__getitem__" = pure (some (.builtin id))) (hs : NoSl slice)
  (h : wpAny (model prog w) A (eval value env) (fun o s₁ => wpAny (model prog w) A (eval slice env) (fun i s₂ => s₂.TypeIs o T ∧ wpAny (model prog w) A (getItem o i) Q E s₂) E s₁) E s) :
  wpAny (model prog w) A (eval (.Subscript value slice pos) env) Q E s := by
 refine Subscript_ (wpAny_mono h (fun o s₁ h₁ => wpAny_mono h₁ (fun i s₂ h₂ => ?_) fun _ _ x => x) fun _ _ x => x)
 obtain ⟨hT, h₂⟩ := h₂
 unfold subscriptTail
 refine wpAny_bind ?_
 rw [getitemInPython_of_ne hT.not_modules]
 refine wpAny_bind (wpAny_specialOf hT hl ?_)
 have fin : wpAny (model prog w) A (subscripted slice false o i) (fun r s₃ => wpAny (model prog w) A (letTemporaryGo value o r >>= fun _ => pure r) Q E s₃) E s₂ := by
  rw [hs o i]
  exact wpAny_operating (wpAny_mono h₂ (fun r s₃ h₃ => wpAny_bind (wpAny_letTemporaryGo (wpAny_pure h₃))) fun _ _ x => x)
 first
  | exact wpAny_pure (wpAny_bind fin)
  | exact wpAny_bind (wpAny_pure (wpAny_bind fin))
  | exact wpAny_bind fin
theorem dict_typeIs {X : Cx} {pins : List (Addr × Obj)} {σ : St} {H : Hp} {s : Shared} {a : Addr} {y : V} {o : Option V} (I : Inv X pins σ H s) (g : DGet H a y o) : s.TypeIs (.ref a) "dict" := by
 rcases g with ⟨kvs, k, e, _, _⟩ | ⟨kvs, k, b, e, _, _, _⟩
 ·obtain ⟨_, _, vs, _, dd⟩ := dk_rd I.hok e
  exact dd.typeIs
 ·obtain ⟨_, _, xs, _, dd⟩ := dt_rd I.hok e
  exact dd.typeIs
def tDGet (td ty : TE) : TE := fun σ H Q => td σ H fun x H1 => ty σ H1 fun y H2 => ∃ a v, x = .ref a ∧ DGet H2 a y (some v) ∧ Q v H2
def sDPut (td ty tv : TE) : TS := fun D σ H => tv σ H fun v H1 => td σ H1 fun x H2 => ty σ H2 fun y H3 => ∃ a H4, x = .ref a ∧ DPut H3 a y v H4 ∧ D.nx σ H4
section
variable {X : Cx} {o i e value : Expr} {pos pos' tpos : Pos} {td ty tv : TE}
theorem pe_dget (hu : X.A.units + 1 < cLine) (ho : PE X o td) (hi : PE X i ty) (hs : NoSl i) : PE X (.Subscript o i pos) (tDGet td ty) := by
 intro pins s σ H Q I h
 refine subD_of PySem.F.slot_dict_getitem.lookup hs (thn (ho pins s σ H _ I h) fun u s1 ⟨x, H1, I1, rx, q1⟩ => thn (hi pins s1 σ H1 _ I1 q1) fun iv s2 ho_ => ?_)
 obtain ⟨y, H2, I2, ry, a, v, ex, g, q2⟩ := ho_
 subst ex
 obtain rfl : u = Value.ref a := rx
 exact ⟨dict_typeIs I2 g, d_getItem hu I2 g ry fun w' s3 I3 rw' => ⟨v, H2, I3, rw', q2⟩⟩
theorem ps_dput (hu : X.A.units + 1 < cLine) (ho : PE X o td) (hi : PE X i ty) (hv : PE X value tv) (hs : swapsWith value (some (.Subscript o i pos')) pos.line X.env = pure false) :
  PS X (.Assign [.Subscript o i pos'] value pos) (sDPut td ty tv) := by
 intro pins s σ H D I h
 refine wpAny_Assign_Subscript (thn (hv pins s σ H _ I h) fun r s1 ⟨v, H1, I1, rv, q1⟩ => thn (ho pins s1 σ H1 _ I1 q1) fun u s2 ⟨x, H2, I2, rx, q2⟩ => thn (hi pins s2 σ H2 _ I2 q2) fun iv s3 ho_ => ?_) hs
 obtain ⟨y, H3, I3, ry, a, H4, ex, g, q3⟩ := ho_
 subst ex
 obtain rfl : u = Value.ref a := rx
 exact d_setItem hu I3 g ry rv fun s4 I4 => ⟨σ, H4, I4, q3⟩
end
theorem dk_empty {P : Program} {w : World} {H : Hp} (h : Heap) (hb : sysModules < h.objs.size) : ObjOk P w H (h.push { cls := .type "dict", data := .dict #[] }) h.objs.size (.dK []) :=
 ⟨Nat.zero_le _, beq_eq_false_iff_ne.mpr (Ne.symm (Nat.ne_of_lt hb)), [], .nil, Heap.DictOf.new h⟩
def tDNewK : TE := fun _ H Q => ∀ p, H p = none → Q (.ref p) (upd H p (.dK []))
section
variable {X : Cx} {pos : Pos}
theorem pe_dnewK : PE X (.Dict [] [] pos) tDNewK := fun pins s σ H Q I h =>
 wpAny_Dict_empty ⟨.ref s.heap.objs.size, _, I.laid (a := s.heap.objs.size) (o := .dK []) (t' := s.toks) (fun _ _ q => Heap.get?_push_of_some _ q) (Nat.le_refl _) (dk_empty s.heap I.big), rfl, h _ (I.hok.fresh (Nat.le_refl _))⟩
end
def tPairs : List (TE × TE) → St → Hp → (List (V × V) → Hp → Prop) → Prop
 | [], _, H, Q => Q [] H
 | (tk, tv) :: r, σ, H, Q => tk σ H fun x H1 => tv σ H1 fun y H2 => tPairs r σ H2 fun ps H3 => Q ((x, y) :: ps) H3
abbrev VV : List (V × V) → List (Value × Value) → Prop := Paired fun p q => RelV p.1 q.1 ∧ RelV p.2 q.2
def PPs (X : Cx) (pos : Pos) (keys : List (Option Expr)) (values : List Expr) (trs : List (TE × TE)) : Prop :=
 ∀ (pins : List (Addr × Obj)) (s : Shared) (σ : St) (H : Hp) (Q : List (V × V) → Hp → Prop), Inv X pins σ H s → tPairs trs σ H Q →
  wpAny (model X.prog X.w) X.A (evalPairs (pairTrees keys values X.env pos)) (fun vs s' => ∃ ps H', Inv X pins σ H' s' ∧ VV ps vs ∧ Q ps H') X.xe s
theorem pps_nil {X : Cx} {pos : Pos} : PPs X pos [] [] [] := fun pins s σ H Q I h => pairTrees_nil_walk ⟨[], H, I, .nil, h⟩
theorem pps_cons {X : Cx} {pos : Pos} {k v : Expr} {ks : List (Option Expr)} {vs : List Expr} {tk tv : TE} {trs : List (TE × TE)} (hk : PE X k tk) (hv : PE X v tv) (hr : PPs X pos ks vs trs) :
  PPs X pos (some k :: ks) (v :: vs) ((tk, tv) :: trs) := fun pins s σ H Q I h =>
 pairTrees_cons_walk (thn (hk pins s σ H _ I h) fun u s1 ⟨x, H1, I1, rx, q1⟩ => thn (hv pins s1 σ H1 _ I1 q1) fun w2 s2 ⟨y, H2, I2, ry, q2⟩ =>
  thn (hr pins s2 σ H2 _ I2 q2) (by rintro ws s3 ⟨ps, H3, I3, rel, q3⟩; exact ⟨(x, y) :: ps, H3, I3, .cons ⟨rx, ry⟩ rel, q3⟩))
def mergeK (kvs more : List (Key × V)) : List (Key × V) := more.foldl (fun acc kv => putK acc kv.1 kv.2) kvs
theorem KV.merge : ∀ {more : List (Key × V)} {rs : List (Key × Value)} {kvs : List (Key × V)} {vs : List (Key × Value)}, KV more rs → KV kvs vs → KV (mergeK kvs more) (merged vs rs) := by
 intro more rs kvs vs r
 unfold KV at r
 induction r generalizing kvs vs with
 | nil => intro q; exact q
 | @cons p q ps qs h t ih =>
  intro r0
  have e : KV (putK kvs p.1 p.2) (stored vs q.1 q.2) := by
   have := r0.put p.1 h.2
   rw [← h.1]; exact this
  exact ih e
theorem length_mergeK : ∀ (more kvs : List (Key × V)), (mergeK kvs more).length ≤ kvs.length + more.length
 | [], kvs => by show kvs.length ≤ kvs.length + 0; omega
 | p :: r, kvs => by
  have h1 := length_mergeK r (putK kvs p.1 p.2)
  have h2 := length_putK kvs p.1 p.2
  show (mergeK (putK kvs p.1 p.2) r).length ≤ _
  rw [List.length_cons]; omega
theorem carries_of {P : Program} {w : World} : ∀ {kvs : List (Key × V)} {ws : List (Value × Value)}, VV (kvs.map fun kv => (kV kv.1, kv.2)) ws → ∃ rs, Carries (mixKind P w) ws rs ∧ KV kvs rs
 | [], _, r => by rw [List.map_nil] at r; cases r; exact ⟨[], True.intro, .nil⟩
 | p :: kvs, _, r => by
  rw [List.map_cons] at r
  cases r with
  | @cons a b as bs h t =>
   obtain ⟨rs, c, q⟩ := carries_of (P := P) (w := w) t
   obtain ⟨b1, b2⟩ := b
   exact ⟨(p.1, b2) :: rs, ⟨kV_is h.1, rfl, c⟩, .cons ⟨rfl, h.2⟩ q⟩
def tDisp (trs : List (TE × TE)) : TE := fun σ H Q => ∀ p, H p = none → tPairs trs σ (upd H p (.dK [])) fun ps H2 => H2 p = some (.dK []) ∧ ∃ kvs : List (Key × V), ps = kvs.map (fun kv => (kV kv.1, kv.2)) ∧ kvs.length ≤ 15 ∧ Q (.ref p) (upd H2 p (.dK (mergeK [] kvs)))
theorem pe_disp {X : Cx} {pos : Pos} {keys : List (Option Expr)} {values : List Expr} {trs : List (TE × TE)} (h : PPs X pos keys values trs) (hall : keys.all (·.isSome) = true) (hl : keys.length = values.length) (h0 : keys ≠ [])
  (h15 : keys.length ≤ 15) : PE X (.Dict keys values pos) (tDisp trs) := by
 intro pins s σ H Q I q
 have hn := I.hok.fresh (Nat.le_refl s.heap.objs.size)
 have I1 := I.laid (a := s.heap.objs.size) (o := .dK []) (h' := s.heap.push { cls := .type "dict", data := .dict #[] }) (t' := s.toks) (fun _ _ q => Heap.get?_push_of_some _ q) (Nat.le_refl _) (dk_empty s.heap I.big)
 refine wpAny_Dict_walk (knd := mixKind X.prog X.w) hall hl h0 h15 (thn (h pins _ σ _ _ I1 (q _ hn)) fun ws s2 ho_ => ?_)
 obtain ⟨ps, H2, I2, rel, e, kvs, ep, lk, q2⟩ := ho_
 subst ep
 obtain ⟨rs, c, rk⟩ := carries_of (P := X.prog) (w := X.w) rel
 obtain ⟨z, hd, vs0, r0, dd⟩ := dk_of I2.hok e
 cases r0
 refine ⟨rs, c, dd, fun h' dd' hs => ⟨.ref s.heap.objs.size, _, ?_, rfl, q2⟩⟩
 have hz : (mergeK [] kvs).length ≤ sizeLine := by
  have h1 := length_mergeK kvs []
  rw [List.length_nil] at h1
  rw [sizeLine_eq]; omega
 have he : ∃ q, h'.get? s.heap.objs.size = some q := let ⟨q, _, _, hq, _⟩ := dd'; ⟨q, hq⟩
 exact d_write I2 (by rw [e]; exact True.intro) hs he (dk_new hz hd (rk.merge .nil) dd')
structure M1 (X : Cx) (o : Expr) (m : Str) (apos : Pos) (e : Expr) (cpos : Pos) : Prop where
 base : attributeBase o m X.env (eval o X.env) = eval o X.env
 few : ((backTo cpos (starEach [e] X.env)).all (fun x => !x.1) && (backToKw cpos (keywordEach [] X.env)).all (fun x => x.1.isSome)
  && decide (([e] : List Expr).length + ([] : List Keyword).length + (if ([] : List Keyword).isEmpty then 0 else 1) < 30)) = true
 line : (apos.endLine == cpos.line) = true
 trees : backTo cpos (starEach [e] X.env) = [(false, eval e X.env)]
def IsD (H : Hp) (a : Addr) : Prop := (∃ kvs, Rd H a (.dK kvs)) ∨ ∃ kvs, Rd H a (.dT kvs)
theorem isD_at {X : Cx} {pins : List (Addr × Obj)} {σ : St} {H : Hp} {s : Shared} {a : Addr} (I : Inv X pins σ H s) (d : IsD H a) :
  s.TypeIs (.ref a) "dict" ∧ (∀ b, Value.ref a = .ref b → ∃ ob, s.heap.get? b = some ob ∧ ob.dict = none) ∧ (a == sysModules) = false := by
 rcases d with ⟨kvs, e⟩ | ⟨kvs, e⟩
 ·obtain ⟨_, hd, vs, _, dd⟩ := dk_rd I.hok e
  refine ⟨dd.typeIs, fun b q => ?_, hd⟩
  cases q
  obtain ⟨ob, _, _, h1, h2, _⟩ := dd
  exact ⟨ob, h1, h2.2.1⟩
 ·obtain ⟨_, hd, xs, _, dd⟩ := dt_rd I.hok e
  refine ⟨dd.typeIs, fun b q => ?_, hd⟩
  cases q
  obtain ⟨ob, _, _, h1, h2, _⟩ := dd
  exact ⟨ob, h1, h2.2.1⟩
section
variable {X : Cx} {pins : List (Addr × Obj)} {σ : St} {H : Hp} {s : Shared} {a : Addr} {y d : V} {u r : Value} {o : Option V} {A : Around} {E : Value → Shared → Prop}
end
def tDPop1 (td ty : TE) : TE := fun σ H Q => td σ H fun x H1 => ∃ a, x = .ref a ∧ IsD H1 a ∧ ty σ H1 fun y H2 => ∃ kvs k v, H2 a = some (.dK kvs) ∧ y = kV k ∧ valV kvs k = some v ∧ Q v (upd H2 a (.dK (dropK kvs k)))
section
variable {X : Cx} {o e f : Expr} {apos cpos : Pos} {td ty tx : TE}
theorem pe_dpop1 (ho : PE X o td) (he : PE X e ty) (m : M1 X o "pop" apos e cpos) : PE X (.Call (.Attribute o "pop" apos) [e] [] cpos) (tDPop1 td ty) := by
 intro pins s σ H Q I h
 refine wpAny_Call_method m.base m.few m.line PySem.F.plainAttrs_dict PySem.F.slot_dict_pop PySem.F.type_dict_pop (thn (ho pins s σ H _ I h) fun u s1 ho_ => ?_)
 obtain ⟨x, H1, I1, rx, a, ex, d, q1⟩ := ho_
 subst ex
 obtain rfl : u = Value.ref a := rx
 obtain ⟨t1, t2, _⟩ := isD_at I1 d
 refine ⟨t1, t2, ?_⟩
 rw [m.trees]
 refine Calls.callWith_builtin rfl (Calls.evalArgs_plain (Calls.spliced_cons (thn (he pins s1 σ H1 _ I1 q1) fun iv s2 ⟨y, H2, I2, ry, kvs, k, v, ea, ey, l, q2⟩ => Calls.spliced_nil ?_)))
 subst ey
 exact d_pop I2 ea ry l (.inl rfl) fun w' s3 I3 rw' => ⟨v, _, I3, rw', q2⟩
end
section
variable {X : Cx} {pins : List (Addr × Obj)} {σ : St} {H : Hp} {s : Shared} {a : Addr} {kvs : List (Key × V)} {A : Around} {E : Value → Shared → Prop}
end
section
variable {X : Cx} {pins : List (Addr × Obj)} {σ : St} {H : Hp} {s : Shared} {a : Addr} {y : V} {u : Value} {A : Around} {E : Value → Shared → Prop}
end
end L2
namespace Att
open PySem PySem.W PySem.Calls PyProof.Rows
theorem ints_of_wellAll {P : Params} {h : Heap} : ∀ (ns : List Int) (vs : List Value), WellAll P h vs (ns.map WData.int) → IntsAre vs ns := by
 intro ns
 induction ns with
 | nil =>
  intro vs w
  rw [List.map_nil] at w
  cases w
  exact .nil
 | cons n ns ih =>
  intro vs w
  rw [List.map_cons] at w
  cases w with
  | cons a b =>
   cases a
   exact .cons _ _ (ih _ b)
theorem script_of {l : OpenLaw} {n : Nat} (hn : l.most = some n) {P : Params} {h : Heap} {args : List WData} {vals : List Value}
  (hpre : l.row.toRowW.claim.pre args = true) (hwl : WellAll P h vals args) :
  ∃ a vs ns, vals = [Value.ref a] ∧ args = [WData.list (ns.map WData.int)] ∧ h.get? a = some { cls := .type "list", data := .seq vs.toArray } ∧ IntsAre vs ns ∧ ns.length ≤ n := by
 have hsh : WShape.hasAll [] args [.list .int] = true := (pre_splitW hpre).1
 have hc : l.pre.holds [] { args := args } = true := (pre_splitW hpre).2
 obtain ⟨d, r, rfl, h1, h2⟩ := hasAllW_cons hsh
 obtain rfl := hasAllW_nil h2
 obtain ⟨xs, rfl, h3⟩ := hasW_list h1
 obtain ⟨ns, rfl⟩ := items_int h3
 have hlen : ns.length ≤ n := by
  unfold OpenLaw.pre at hc
  have h4 : (WTm.not (.lt (.lit (.int (n : Int))) (.len (.arg 0)))).holds [] { args := [.list (ns.map .int)] } = true := by
   have h4 := (holds_andW hc).1
   rw [hn] at h4
   exact h4
  have h5 := condW_of h4 (w_not (w_lt w_lit (w_len_list (w_arg rfl))))
  rw [List.length_map] at h5
  refine Nat.le_of_not_lt fun q => ?_
  have q' : (n : Int) < ((ns.length : Nat) : Int) := by omega
  first
   | (rw [decide_eq_true q'] at h5; exact absurd h5 (by decide))
   | (simp at h5; omega)
 cases hwl with
 | cons w1 w2 =>
  cases w2
  cases w1 with
  | list ho hall => exact ⟨_, _, ns, rfl, rfl, ho, ints_of_wellAll ns _ hall, hlen⟩
theorem post_true (l : OpenLaw) (args : List WData) : l.row.toRowW.claim.post args (.bool true) args = true :=
 postW_of (r := l.row.toRowW) (X := (true == true))
  (show WShape.has [] (.bool true) .bool = true by first | rfl | decide | simp [WShape.has, WShape.arms, WShape.armsAll])
  (show (WTm.eq .res (.lit (.bool true))).value [] { args := args, res := some (.bool true), after := args } = some (.bool (true == true)) from w_eq_bool (w_res rfl) w_lit) rfl
theorem attach_call {l : OpenLaw} {n : Nat} {q : Program} {loose : List Str} {XP : (Str → Option Value) → Heap → Prop} {YP : World → Heap → Prop} {d : DefRec}
  (hn : l.most = some n) (hdf : d.params.defaults = [])
  (call : ∀ (w : World) (s₀ s₁ : Shared) (mg mb : Str → Option Value) (fa : Addr) (o : Obj) (pm cd doc : Value) (a : Addr) (vs : List Value) (ns : List Int),
   Ground q loose [] XP w s₀ mg mb s₁.heap → YP w s₁.heap →
   s₁.heap.get? fa = some o → o.data = .func (docDef d.name d.params d.body d.scope pm cd doc) → s₁.heap.CodeRec cd d.name → mg d.name = some (.ref fa) →
   s₁.heap.get? a = some { cls := .type "list", data := .seq vs.toArray } → IntsAre vs ns → ns.length ≤ n → s₁.gens = #[] →
   codeAny (model l.prog w) callerA (.call (.ref fa) ⟨[.ref a], []⟩) (fun r s' => r = .ok (.ret (.bool true)) ∧ OldK s₁.heap s'.heap ∧ s'.os = s₁.os ∧ AllBare s'.gens) s₁) :
  WalkO q loose XP YP l.row.toRowW d [] (fun f vs => PySem.call f vs) := by
 intro w s₀ s₁ mg mb G Y fa o pm cd doc dV kV ho hd hcd hD hmg hg args vals as hpre hlay hrd hwl hlo
 obtain rfl : dV = .none := Dflts.none hD hdf
 obtain rfl : kV = .none := Dflts.noKw hD
 obtain ⟨a, vs, ns, rfl, rfl, hobj, hints, hlen⟩ := script_of hn hpre hwl
 refine enter_call (codeAny_mono (call w s₀ s₁ mg mb fa o pm cd doc a vs ns G Y ho (fd_plain hd) hcd hmg hobj hints hlen hg) fun r s' hq => ?_)
 obtain ⟨rfl, h2, h3, h4⟩ := hq
 exact ⟨.inl ⟨.bool true, .bool true, [], rfl, fun _ => rfl, .bool true, post_true l _, fun _ => ⟨List.Pairwise.nil, fun _ hm => (nomatch hm)⟩⟩, h2, h3, h4⟩
section
variable {prog : Program} {w : World} {A : Around} {E : Value → Shared → Prop} {s : Shared} {K : Frag}
end
end Att
namespace L2
open PySem PySem.Spec PyProof.Rows
theorem vals_ints : ∀ {vs : List Value} {ns : List Int}, IntsAre vs ns → Vals (ns.map V.int) vs
 | _, _, .nil => .nil
 | _, _, .cons n t h => .cons ⟨t, rfl⟩ (vals_ints h)
end L2
namespace L2
open PySem PySem.Spec PyProof.Rows
end L2
namespace L2
open PySem PySem.Spec PyProof.Rows
def inClass (s : Stmt) (j : Nat) : Stmt := match s with
 | .ClassDef _ _ _ body _ _ _ _ _ _ _ => body.getD j (.Pass ⟨0, 0, 0, 0⟩)
 | _ => .Pass ⟨0, 0, 0, 0⟩
def defArgs (s : Stmt) : Arguments := match s with
 | .FunctionDef _ a _ _ _ _ _ _ _ _ => a
 | _ => { posonlyargs := [], args := [], vararg := none, kwonlyargs := [], kw_defaults := [], kwarg := none, defaults := [] }
def defBody (s : Stmt) : List Stmt := match s with
 | .FunctionDef _ _ b _ _ _ _ _ _ _ => b
 | _ => []
def defScope (s : Stmt) : Scope := match s with
 | .FunctionDef _ _ _ _ _ _ sc _ _ _ => sc
 | _ => { kind := .function, names := [], isGenerator := false, isCoroutine := false }
abbrev CX0 : CXT := fun _ _ _ _ _ _ => False
abbrev E0 : XK := fun _ _ _ => False
theorem pass0 {X : Cx} : Passes CX0 X E0 := fun _ _ _ _ _ _ _ h => h.elim
structure Fun (K : PySem.W.Frag) (x qual : Str) (st : Stmt) (f : Addr) (fd : FuncData) : Prop where
 ex : ∃ (oc : Value) (od : Option Addr) (kV doc pm : Value) (an : Option Addr) (cdv ct : Value) (osl : Array (Option Value)),
  fd = PySem.W.fnOf x qual (defArgs st) (defBody st) (defScope st) .none kV doc pm an cdv ct ∧ K.lookup f = some ⟨oc, od, .func fd, osl⟩ ∧ PySem.W.codeIn K cdv qual = true
 kp : PySem.W.keepIn K (.ref f) = true
section
variable {P : Program} {w : World} {K : PySem.W.Frag} {mg : Str → Option Value} {base : Heap}
theorem Fun.ok {x qual : Str} {st : Stmt} {f : Addr} {fd : FuncData} {N ps : List Str} {k : Nat} {sp : Sp} (F : Fun K x qual st f fd) (S : FnScope N ps (defScope st)) (len : ∀ vs H Q E, sp vs H Q E → vs.length = ps.length)
  (hbody : ∀ (cdv : Value) (A : Around) (outer : List Env) (s : Shared) (H : Hp) (vs : List V) (Q : VK) (E : XK), Room k (A.deeper (envOfC qual (defScope st) s.heap.objs.size f cdv)) → sp vs H Q E →
   ∃ t, PSs (cxOf CX0 P w K mg base N qual (defScope st) f cdv A outer s H E).nox (defBody st) t ∧ t { nx := fun _ H' => Q .non H', rt := Q } (start N vs) H) : FnOk P w K mg base CX0 (k + 1) f fd ps sp := by
 obtain ⟨oc, od, kV, doc, pm, an, cdv, ct, osl, rfl, lk, hcd⟩ := F.ex
 refine fn_of lk hcd S len fun A outer s H vs Q E hr hsp => ?_
 obtain ⟨t, h, q⟩ := hbody cdv A outer s H vs Q E hr hsp
 exact ⟨t, h.nox, q⟩
theorem Fun.binds {x qual : Str} {st : Stmt} {f : Addr} {fd : FuncData} {ps : List Str} (F : Fun K x qual st f fd)
  (h : ∀ (kV doc pm : Value) (an : Option Addr) (cdv ct : Value) (us : List Value), us.length = ps.length → bindArgs (PySem.W.fnOf x qual (defArgs st) (defBody st) (defScope st) .none kV doc pm an cdv ct) ⟨us, []⟩ = pure (ps.zip us)) : Binds K fd ps [] := by
 obtain ⟨oc, od, kV, doc, pm, an, cdv, ct, osl, rfl, lk, hcd⟩ := F.ex
 exact .all (h kV doc pm an cdv ct)
theorem fun_mk {x qual : Str} {st : Stmt} {f : Addr} {oc : Value} {od an : Option Addr} {osl : Array (Option Value)} {kV doc pm cdv ct : Value} (l : K.lookup f = some ⟨oc, od, .func (PySem.W.fnOf x qual (defArgs st) (defBody st) (defScope st) .none kV doc pm an cdv ct), osl⟩)
  (c : PySem.W.codeIn K cdv qual = true) (k : PySem.W.keepIn K (.ref f) = true) : Fun K x qual st f (PySem.W.fnOf x qual (defArgs st) (defBody st) (defScope st) .none kV doc pm an cdv ct) := ⟨⟨oc, od, kV, doc, pm, an, cdv, ct, osl, rfl, l, c⟩, k⟩
end
theorem hu_of {A : Around} {k : Nat} (hr : Room k A) : A.units + 1 < cLine := Nat.lt_of_le_of_lt (Nat.add_le_add_left (by decide : 1 ≤ 64) _) hr.units
section
variable {X : Cx}
theorem pv (i : Nat) {x : Str} {pos : Pos} (hN : X.N[i]? = some x := by rfl) (hv : Vis X.env.scope x := by first | exact Or.inl rfl | exact Or.inr (Or.inl rfl) | exact Or.inr (Or.inr rfl)) (hd : (x == ("__debug__" : Str)) = false := by decide)
  (hcd : (x == ("__classdict__" : Str)) = false := by decide) : PE X (.Name x pos) (tVar i) := pe_var hN hv hd hcd
theorem call_lenD : CallR X (.builtin "len") (fun xs H Q => ∃ a kvs, xs = [V.ref a] ∧ H a = some (.dK kvs) ∧ Q (.int kvs.length) H) := by
 intro pins s σ H xs us Q I r h
 obtain ⟨a, kvs, rfl, ha, q⟩ := h
 obtain ⟨u, rfl, ru⟩ := vals1 r
 cases ru
 exact d_len I (.inl ha) fun t s' I' => ⟨.int kvs.length, H, I', ⟨t, rfl⟩, q⟩
end
theorem iteF {A B : Prop} (h : B) : if false = true then A else B := by
 rw [if_neg Bool.false_ne_true]
 exact h
theorem iteT {A B : Prop} (h : A) : if true = true then A else B := by
 rw [if_pos rfl]
 exact h
theorem ite2 {c A B : Prop} [Decidable c] (h1 : c → A) (h2 : ¬ c → B) : if c then A else B := by
 by_cases h : c
 ·rw [if_pos h]
  exact h1 h
 ·rw [if_neg h]
  exact h2 h
theorem iteNS {c A B : Prop} [Decidable c] (hc : c) (h : B) : if (!decide c) = true then A else B := by
 rw [decide_eq_true hc]
 exact iteF h
def Same (H H' : Hp) : Prop := ∀ b o, H b = some o → H' b = some o
theorem Same.refl (H : Hp) : Same H H := fun _ _ h => h
theorem Same.trans {H H1 H2 : Hp} (a : Same H H1) (b : Same H1 H2) : Same H H2 := fun c o h => b c o (a c o h)
theorem Same.free {H H' : Hp} (e : Same H H') {l : Addr} (h : H' l = Option.none) : H l = Option.none := by
 cases q : H l with
 | none => rfl
 | some o =>
  rw [e l o q] at h
  cases h
theorem Same.seq {K : PySem.W.Frag} {H H' : Hp} {a : Addr} {xs : List V} (e : Same H H') (h : SqL K H a xs) : SqL K H' a xs := by
 rcases h with (h | ⟨o, h⟩) | h
 ·exact .inl (.inl (e _ _ h))
 ·exact .inl (.inr ⟨o, e _ _ h⟩)
 ·exact .inr h
section
variable {κ : Type} [DecidableEq κ]
theorem dropK_pos {p : κ × V} {r : List (κ × V)} {k : κ} (e : p.1 = k) : dropK (p :: r) k = dropK r k := by
 unfold dropK
 rw [List.filter_cons, if_neg (by simp [e])]
theorem dropK_neg {p : κ × V} {r : List (κ × V)} {k : κ} (e : ¬ p.1 = k) : dropK (p :: r) k = p :: dropK r k := by
 unfold dropK
 rw [List.filter_cons, if_pos (by simp [e])]
end
end L2
set_option Elab.async false
set_option linter.all false
set_option maxRecDepth 100000
set_option maxHeartbeats 4000000
namespace L2
open PySem PySem.Spec PyProof.Rows
theorem clos_loop {env : Env} : ∀ (l : List (Str × NameKind)) (cs : List (Str × Addr)), (∀ n, (n, NameKind.free) ∈ l → ∃ c, env.cells.lookup n = some c) → (∀ x c, cs.lookup x = some c → env.cells.lookup x = some c) →
  ∃ cl : List (Str × Addr), (forIn l cs (fun x r => if (x.2 == NameKind.free) = true then do let a ← cellOf env x.1; pure (ForInStep.yield ((x.1, a) :: r)) else pure (ForInStep.yield r)) : Sem (List (Str × Addr))) = pure cl ∧
   (∀ x c, cl.lookup x = some c → env.cells.lookup x = some c) ∧ (∀ n, (n, NameKind.free) ∈ l → ∃ c, cl.lookup n = some c) ∧ ∀ n c, cs.lookup n = some c → ∃ c, cl.lookup n = some c
 | [], cs, _, h2 => ⟨cs, rfl, h2, (fun _ z => nomatch z), fun n c e => ⟨c, e⟩⟩
 | (n, k) :: l, cs, h1, h2 => by
  have h1' : ∀ m, (m, NameKind.free) ∈ l → ∃ c, env.cells.lookup m = some c := fun m hm => h1 m (List.mem_cons_of_mem _ hm)
  by_cases hk : k = NameKind.free
  ·subst hk
   obtain ⟨c, hc⟩ := h1 n (List.mem_cons_self ..)
   have h2' : ∀ x d, ((n, c) :: cs).lookup x = some d → env.cells.lookup x = some d := fun x d e => by
    rw [List.lookup_cons] at e
    cases hx : x == n with
    | true =>
     rw [hx] at e
     have ex : x = n := by simpa using hx
     subst ex
     have : c = d := Option.some.inj e
     rw [← this]; exact hc
    | false => rw [hx] at e; exact h2 x d e
   obtain ⟨cl, e1, e2, e3, e4⟩ := clos_loop l ((n, c) :: cs) h1' h2'
   refine ⟨cl, ?_, e2, fun m hm => ?_, fun m d e => ?_⟩
   ·rw [List.forIn_cons]
    simp only [beq_self_eq_true, if_true]
    have ec : cellOf env n = pure c := by unfold cellOf; rw [hc]
    rw [ec]
    simp only [pure_bind]
    exact e1
   ·rcases List.mem_cons.mp hm with z | z
    ·have : m = n := congrArg Prod.fst z
     subst this
     exact e4 m c (by rw [List.lookup_cons]; simp)
    ·exact e3 m z
   ·by_cases hx : m = n
    ·subst hx
     exact e4 m c (by rw [List.lookup_cons]; simp)
    ·exact e4 m d (by
      rw [List.lookup_cons]
      have : (m == n) = false := by simpa using hx
      rw [this]; exact e)
  ·obtain ⟨cl, e1, e2, e3, e4⟩ := clos_loop l cs h1' h2
   refine ⟨cl, ?_, e2, fun m hm => ?_, e4⟩
   ·rw [List.forIn_cons]
    have hb : (k == NameKind.free) = false := by simpa using hk
    simp only [hb, Bool.false_eq_true, if_false, pure_bind]
    exact e1
   ·rcases List.mem_cons.mp hm with z | z
    ·exact absurd (congrArg Prod.snd z).symm hk
    ·exact e3 m z
theorem clos_of {env : Env} {scope : Scope} (h : ∀ n, (n, NameKind.free) ∈ scope.names → ∃ c, env.cells.lookup n = some c) :
  ∃ cl : List (Str × Addr), closureFor scope env = pure cl ∧ (∀ x c, cl.lookup x = some c → env.cells.lookup x = some c) ∧ ∀ n, (n, NameKind.free) ∈ scope.names → ∃ c, cl.lookup n = some c := by
 obtain ⟨cl, e1, e2, e3, _⟩ := clos_loop (env := env) scope.names [] h ((fun x c e => nomatch e))
 refine ⟨cl, ?_, e2, e3⟩
 unfold closureFor
 refine Eq.trans (bind_pure _) (Eq.trans ?_ e1)
 congr 1
theorem comp_loop {prog : Program} {w : World} {A : Around} {R : Result → Shared → Prop} {s : Shared} {elt target iter : Expr} {ifs : List Expr} {scope : Scope} {pos : Pos} {it acc : Value} {env : Env} (I : Nat → Shared → Prop)
  (turn : ∀ n s, I n s → wpAny (model prog w) A (pyNext it) (fun r s1 => match r with
   | none => R (.ok .next) s1
   | some v => wpAny (model prog w) A (letOwnedTupleGo target it v) (fun _ s2 => wpAny (model prog w) A (assign target env v) (fun _ s3 =>
     wpAny (model prog w) A (forIn ifs true fun c r => if r = true then do let ok ← isTrue c env (eval c env); pure (ForInStep.yield ok) else pure (ForInStep.yield r)) (fun ok s4 =>
      if ok = true then wpAny (model prog w) A (eval elt env) (fun x s5 =>
       wpAny (model prog w) A (call (.builtin "list.append") [acc, x]) (fun _ s6 => ∃ m, m < n ∧ I m s6) (fun _ _ => False) s5) (fun _ _ => False) s4
      else ∃ m, m < n ∧ I m s4) (fun _ _ => False) s3) (fun _ _ => False) s2) (fun _ _ => False) s1) (fun _ _ => False) s)
  (n : Nat) (h : I n s) :
  codeAny (model prog w) A (.compLoop (.ListComp elt [⟨target, iter, ifs, 0⟩] scope pos) 0 it acc env) R s := by
 refine codeAny_loop rfl I (fun n s hI => ?_) n h
 show wpAny _ A ((compTurn (.ListComp elt [⟨target, iter, ifs, 0⟩] scope pos) 0 it acc env).onRaise (fun x => do noteFrame x env; theTreesLotGoes x)) _ _ s
 refine wpAny_noted ?_
 rw [compTurn_list]
 refine wpAny_bind (wpAny_standAt (wpAny_bind (wpAny_mono (turn n s hI) (fun r s1 h1 => ?_) fun _ _ h' => h'.elim)))
 cases r with
 | none => exact wpAny_pure h1
 | some v =>
  refine wpAny_bind (wpAny_mono h1 (fun _ s2 h2 => ?_) fun _ _ h' => h'.elim)
  refine wpAny_bind (wpAny_mono h2 (fun _ s3 h3 => wpAny_bind (wpAny_mono h3 (fun ok s4 h4 => ?_) fun _ _ h' => h'.elim)) fun _ _ h' => h'.elim)
  cases ok with
  | false => exact wpAny_pure ⟨rfl, h4⟩
  | true =>
   exact wpAny_bind (wpAny_bind (wpAny_mono h4 (fun x s5 h5 => wpAny_bind (wpAny_mono h5 (fun _ s6 h6 => wpAny_pure (wpAny_pure ⟨rfl, h6⟩)) fun _ _ h' => h'.elim)) fun _ _ h' => h'.elim))
abbrev Cx.comp (X : Cx) (scope : Scope) (N : List Str) (cl : List (Str × Addr)) (C : Addr) (s0 : Shared) (H0 : Hp) (fp : List Addr) : Cx :=
 { X with N := N, s₀ := s0, H₀ := H0, env := compEnvC scope cl C X.env, outer := X.stack, ex := fp, fn := fun _ => false, pn := [], xe := fun _ _ => False }
def PTs (X : Cx) (ifs : List Expr) (t : TT) : Prop :=
 ∀ (pins : List (Addr × Obj)) (s : Shared) (σ : St) (H : Hp) (Q : Bool → Hp → Prop), Inv X pins σ H s → t σ H Q →
  wpAny (model X.prog X.w) X.A (forIn ifs true fun c r => if r = true then do let ok ← isTrue c X.env (eval c X.env); pure (ForInStep.yield ok) else pure (ForInStep.yield r)) (TP X pins σ Q) X.xe s
def tYes : TT := fun _ H Q => Q true H
theorem pts_nil {X : Cx} : PTs X [] tYes := fun _ _ _ H _ I h => wpAny_tests_nil ⟨H, I, h⟩
def capSt (own : Nat) (caps : List Nat) (σ : St) : St := List.replicate own none ++ caps.map fun i => (σ[i]?).join
def capOk (X : Cx) (scope : Scope) (N : List Str) (own : Nat) (caps : List Nat) : Bool :=
 (N.length == own + caps.length) && (caps.zip (N.drop own)).all fun p => X.N[p.1]? == some p.2 && scope.names.lookup p.2 == some NameKind.free && (X.env.kindOf p.2 == some .cell || X.env.kindOf p.2 == some .free)
def scOk (X : Cx) (scope : Scope) : Bool :=
 (scope.kind == .function) && scope.names.all fun p => (p.2 != .cell) && (p.2 != .local || scope.names.lookup p.1 == some .local) && (p.2 != .free || X.env.kindOf p.1 == some .cell || X.env.kindOf p.1 == some .free)
def tComp (own : Nat) (caps : List Nat) (wi : TI) (g : TG) (tt : TT) (te : TE) : TE := fun σ H Q => wi σ H fun J H1 => ∀ D, H1 D = none →
 ∃ W : Nat → Nat → St → Hp → Prop, (∃ m, W 0 m (capSt own caps σ) (upd H1 D (.lst []))) ∧ ∀ i m τ H2, W i m τ H2 →
  (J.stop i H2 ∧ Q (.ref D) H2) ∨ (J.go i H2 ∧ ∃ N : St → Hp → Prop, (∀ τ' H', N τ' H' → ∃ m', m' < m ∧ W (i + 1) m' τ' H') ∧
   ∀ x H3, J.yld i H2 x H3 → g x τ H3 fun τ4 H4 => tt τ4 H4 fun b H5 => if b = true then te τ4 H5 fun v H6 => ∃ xs, H6 D = some (.lst xs) ∧ xs.length < sizeLine ∧ N τ4 (upd H6 D (.lst (xs ++ [v]))) else N τ4 H5)
structure CF (X : Cx) (pins : List (Addr × Obj)) (H : Hp) (C : Addr) : Prop where
 free : H C = none
 loc : C ≠ X.env.locals
 old : X.s₀.heap.objs.size ≤ C
 cel : ∀ x c, X.env.cells.lookup x = some c → c ≠ C
 pin : ∀ p ∈ X.pn ++ pins, p.1 ≠ C
section
variable {X : Cx} {elt tg iter : Expr} {ifs : List Expr} {scope : Scope} {pos : Pos} {N : List Str} {own : Nat} {caps : List Nat} {g : TG} {tt : TT} {te : TE}
theorem comp_block {pins : List (Addr × Obj)} {σ : St} {H2 : Hp} {s2 : Shared} {Q : VK} {it : Addr} {fp : List Addr} {tn : Nat → Heap → Prop} {J : It} {cl : List (Str × Addr)} {E : Value → Shared → Prop} {RR : Value → Addr → Result → Shared → Prop}
  (hc : X.calm = true) (hsc : scOk X scope = true) (hcap : capOk X scope N own caps = true)
  (hg : ∀ cl C s0 H0 fp, PG (X.comp scope N cl C s0 H0 fp) tg g) (ht : ∀ cl C s0 H0 fp, PTs (X.comp scope N cl C s0 H0 fp) ifs tt) (he : ∀ cl C s0 H0 fp, PE (X.comp scope N cl C s0 H0 fp) elt te)
  (hcl1 : ∀ x c, cl.lookup x = some c → X.env.cells.lookup x = some c) (hcl2 : ∀ n, (n, NameKind.free) ∈ scope.names → ∃ c, cl.lookup n = some c)
  (I2 : Inv X pins σ H2 s2) (T : Turn X.prog X.w X.K tg J fp it tn) (st2 : tn 0 s2.heap) (f2 : ∀ b ∈ fp, FpOk X pins H2 b)
  (q : ∀ D, H2 D = none →
   ∃ W : Nat → Nat → St → Hp → Prop, (∃ m, W 0 m (capSt own caps σ) (upd H2 D (.lst []))) ∧ ∀ i m τ H2, W i m τ H2 →
    (J.stop i H2 ∧ Q (.ref D) H2) ∨ (J.go i H2 ∧ ∃ N : St → Hp → Prop, (∀ τ' H', N τ' H' → ∃ m', m' < m ∧ W (i + 1) m' τ' H') ∧
     ∀ x H3, J.yld i H2 x H3 → g x τ H3 fun τ4 H4 => tt τ4 H4 fun b H5 => if b = true then te τ4 H5 fun v H6 => ∃ xs, H6 D = some (.lst xs) ∧ xs.length < sizeLine ∧ N τ4 (upd H6 D (.lst (xs ++ [v]))) else N τ4 H5))
  (hRR : ∀ D C H' s' m, Inv X pins σ H' s' → CF X pins H' C → s'.heap.Ns C m → Q (.ref D) H' → RR (.ref D) C (.ok .next) s') :
  wpAny (model X.prog X.w) X.A (newList []) (fun acc s3 => wpAny (model X.prog X.w) X.A (newFunctionEnv scope X.env.globals cl [] X.env.qual none .none (some X.env)) (fun cenv s4 =>
   codeAny (model X.prog X.w) X.A (.compStart (.ListComp elt [⟨tg, iter, ifs, 0⟩] scope pos) 0 (.ref it) acc { cenv with scope := relabel scope X.env }) (RR acc cenv.locals) s4) E s3) E s2 := by
 simp only [scOk, Bool.and_eq_true, List.all_eq_true, beq_iff_eq] at hsc
 obtain ⟨hkind, hsc⟩ := hsc
 have hcell : ∀ y ∈ scope.names, y.2 ≠ .cell := fun y hy => by have := (hsc y hy).1.1; simpa using this
 refine wpAny_newObj_type (wpAny_newFunctionEnv hcell (by intro y hy; simp at hy) (fun h1 hns1 hsb1 => ?_) hkind)
 dsimp only at hns1 hsb1 ⊢
 generalize hH2 : s2.heap.push { cls := .type "list", dict := none, data := .seq ([] : List Value).toArray } = G at hns1 hsb1 ⊢
 have hC : G.objs.size = s2.heap.objs.size + 1 := by rw [← hH2, Heap.size_push]
 have hDC : s2.heap.objs.size ≠ G.objs.size := by rw [hC]; exact Nat.ne_of_lt (Nat.lt_succ_self _)
 have below : ∀ b, b < s2.heap.objs.size → b ≠ G.objs.size := fun b hb => by rw [hC]; exact Nat.ne_of_lt (Nat.lt_succ_of_lt hb)
 have old : ∀ b o, s2.heap.get? b = some o → h1.get? b = some o := fun b o e => hsb1.extBut b o (below b (Heap.lt_size e)) (Heap.get?_push_of_some _ (hH2 ▸ Heap.get?_push_of_some _ e))
 have hacc : h1.get? s2.heap.objs.size = some { cls := .type "list", dict := none, data := .seq ([] : List Value).toArray } := hsb1.extBut _ _ hDC (Heap.get?_push_of_some _ (hH2 ▸ Heap.get?_push_size _ rfl))
 have freshD : H2 s2.heap.objs.size = none := I2.hok.fresh (Nat.le_refl _)
 have freshC : H2 G.objs.size = none := I2.hok.fresh (by rw [hC]; exact Nat.le_succ _)
 have newC : ∀ H', H' G.objs.size = none → CF X pins H' G.objs.size := fun H' e => by
  have big : s2.heap.objs.size ≤ G.objs.size := by rw [hC]; exact Nat.le_succ _
  obtain ⟨_, f1, _, f3, f4, f5⟩ := I2.fpOk (H' := H') (b := G.objs.size) big e
  exact ⟨e, f1, Nat.le_trans I2.sz big, f4, f5⟩
 have okX : (X.comp scope N cl G.objs.size s2 H2 fp).Ok := by
  refine ⟨I2.ok.mod, ?_, I2.ok.glob, I2.ok.blt, ?_, ?_, ?_, (fun x c z => nomatch z), I2.ok.hd, I2.ok.frames, .inl rfl, ?_, I2.bs, Nat.le_trans I2.ok.bsz I2.sz, ?_, ?_, I2.stack, I2.stkFree⟩
  ·show (relabel scope X.env).kind = .function
   exact hkind
  ·show s2.heap.objs.size ≤ G.objs.size
   rw [hC]; exact Nat.le_succ _
  ·intro x y c e1 e2
   exact I2.ok.inj x y c (hcl1 x c e1) (hcl1 y c e2)
  ·intro x hx
   have key : ∀ (names : List (Str × NameKind)), (∀ y ∈ names, y.2 ≠ .cell) →
     ((names.map fun (n, k) => if (k == NameKind.free && X.env.scope.kind == .function && X.env.kindOf n == some .cell) = true then (n, NameKind.cell) else (n, k)).lookup x = some .cell ∨
      (names.map fun (n, k) => if (k == NameKind.free && X.env.scope.kind == .function && X.env.kindOf n == some .cell) = true then (n, NameKind.cell) else (n, k)).lookup x = some .free) → (x, NameKind.free) ∈ names := by
    intro names
    induction names with
    | nil => intro _ h; rcases h with h | h <;> cases h
    | cons p r ih =>
     obtain ⟨n, k⟩ := p
     intro hne h
     rw [List.map_cons] at h
     cases hx : x == n with
     | true =>
      have ex : x = n := by simpa using hx
      subst ex
      by_cases hk : k = NameKind.free
      ·subst hk; exact List.mem_cons_self ..
      ·exfalso
       have hb : (k == NameKind.free) = false := by simpa using hk
       have hkc : k ≠ .cell := hne (x, k) (List.mem_cons_self ..)
       simp only [hb, Bool.false_and, Bool.false_eq_true, if_false, List.lookup_cons, beq_self_eq_true] at h
       rcases h with h | h
       ·exact hkc (Option.some.inj h)
       ·exact hk (Option.some.inj h)
     | false =>
      refine List.mem_cons_of_mem _ (ih (fun y hy => hne y (List.mem_cons_of_mem _ hy)) ?_)
      by_cases hcd : (k == NameKind.free && X.env.scope.kind == .function && X.env.kindOf n == some .cell) = true
      ·simp only [hcd, if_true, List.lookup_cons, hx] at h; exact h
      ·simp only [hcd, Bool.false_eq_true, if_false, List.lookup_cons, hx] at h; exact h
   exact hcl2 x (key scope.names hcell hx)
  ·intro b hb
   obtain ⟨o, e, _⟩ := T.obj 0 _ st2 b hb
   exact ⟨below b (Heap.lt_size e), fun x c ec => (f2 b hb).2.2.2.2.1 x c (hcl1 x c ec)⟩
  ·intro b o e hb
   rcases (f2 b hb).2.2.2.1 with z | z
   ·exact I2.ok.noex b o e z
   ·exact absurd (Nat.lt_of_lt_of_le (Heap.lt_size e) (Nat.le_trans I2.ok.bsz z)) (Nat.lt_irrefl _)
  ·intro b hb hs
   rcases List.mem_cons.mp (I2.stkSub b hs) with z | z
   ·exact (f2 b hb).2.1 z
   ·exact (f2 b hb).2.2.1 z
 have hokD : HOk X.prog X.w (upd H2 s2.heap.objs.size (.lst [])) h1 := I2.hok.laid old (Nat.le_refl _) ⟨Nat.zero_le _, [], 0, .nil, hacc⟩
 have I4 : ∀ t', Inv (X.comp scope N cl G.objs.size s2 H2 fp) [] (capSt own caps σ) (upd H2 s2.heap.objs.size (.lst [])) { s2 with heap := h1, toks := t' } := fun t' => by
  simp only [capOk, Bool.and_eq_true, List.all_eq_true, beq_iff_eq] at hcap
  obtain ⟨hlen, hcap⟩ := hcap
  refine ⟨okX, rfl, I2.bare, Un.laid old (Nat.le_refl _) freshD, ⟨_, hns1, ?_⟩, ?_, ?_, ?_, (fun p hp => nomatch hp), hokD, ?_⟩
  ·intro i x v e1 e2 e3
   have hio : own ≤ i := by
    refine Nat.le_of_not_lt fun hlt => ?_
    rw [capSt, List.getElem?_append_left (by simpa using hlt), List.getElem?_replicate, if_pos hlt] at e2
    cases e2
   rw [capSt, List.getElem?_append_right (by simpa using hio), List.length_replicate, List.getElem?_map] at e2
   cases ec : caps[i - own]? with
   | none => rw [ec] at e2; cases e2
   | some k =>
    rw [ec] at e2
    have e2' : (σ[k]?).join = some v := Option.some.inj e2
    have hmem : (k, x) ∈ caps.zip (N.drop own) := by
     have e1' : (N.drop own)[i - own]? = some x := by
      rw [List.getElem?_drop]
      have : own + (i - own) = i := by omega
      rw [this]; exact e1
     refine List.mem_iff_getElem?.mpr ⟨i - own, ?_⟩
     rw [List.getElem?_zip_eq_some]
     exact ⟨ec, e1'⟩
    have hk := hcap (k, x) hmem
    simp only [Bool.or_eq_true, beq_iff_eq] at hk
    obtain ⟨⟨hk1, hk2⟩, hk3⟩ := hk
    have hσ : σ[k]? = some (some v) := by
     cases ez : σ[k]? with
     | none => rw [ez] at e2'; cases e2'
     | some o => rw [ez] at e2'; cases o with
      | none => cases e2'
      | some v' => have : v' = v := Option.some.inj e2'; rw [this]
    have hvis : Vis X.env.scope x := .inr hk3
    obtain ⟨m, hn, hl⟩ := I2.loc
    obtain ⟨u, r, l⟩ := hl k x v hk1 hσ hvis
    rcases l with ⟨lk, _⟩ | ⟨lk, c, lc, lz⟩
    ·rcases hk3 with z | z <;> (rw [z] at lk; cases lk)
    ·have hfree : (x, NameKind.free) ∈ scope.names := by
      have key : ∀ (names : List (Str × NameKind)), names.lookup x = some .free → (x, NameKind.free) ∈ names := by
       intro names
       induction names with
       | nil => intro h; cases h
       | cons p r ih =>
        obtain ⟨n, k⟩ := p
        intro h
        rw [List.lookup_cons] at h
        cases hx : x == n with
        | true =>
         rw [hx] at h
         have ex : x = n := by simpa using hx
         have ek : k = .free := Option.some.inj h
         subst ex; subst ek
         exact List.mem_cons_self ..
        | false => rw [hx] at h; exact List.mem_cons_of_mem _ (ih h)
      exact key _ hk2
     obtain ⟨c', hc'⟩ := hcl2 x hfree
     have ecc : c' = c := Option.some.inj ((hcl1 x c' hc').symm.trans lc)
     subst ecc
     refine ⟨u, r, .inr ⟨?_, c', hc', ?_⟩⟩
     ·rcases e3 with z | z | z
      ·
       exfalso
       have key : ∀ (names : List (Str × NameKind)), names.lookup x = some .free →
         (names.map fun (n, k) => if (k == NameKind.free && X.env.scope.kind == .function && X.env.kindOf n == some .cell) = true then (n, NameKind.cell) else (n, k)).lookup x ≠ some .local := by
        intro names
        induction names with
        | nil => intro h; cases h
        | cons p r ih =>
         obtain ⟨n, k⟩ := p
         intro h
         rw [List.lookup_cons] at h
         rw [List.map_cons]
         cases hx : x == n with
         | true =>
          rw [hx] at h
          have ek : k = .free := Option.some.inj h
          subst ek
          by_cases hcd : (NameKind.free == NameKind.free && X.env.scope.kind == .function && X.env.kindOf n == some .cell) = true
          ·simp only [hcd, if_true, List.lookup_cons, hx]; intro z; cases z
          ·simp only [hcd, Bool.false_eq_true, if_false, List.lookup_cons, hx]; intro z; cases z
         | false =>
          rw [hx] at h
          by_cases hcd : (k == NameKind.free && X.env.scope.kind == .function && X.env.kindOf n == some .cell) = true
          ·simp only [hcd, if_true, List.lookup_cons, hx]; exact ih h
          ·simp only [hcd, Bool.false_eq_true, if_false, List.lookup_cons, hx]; exact ih h
       exact key _ hk2 z
      ·exact .inl z
      ·exact .inr z
     ·obtain ⟨o, ho, hd⟩ := lz
      exact ⟨o, old _ o ho, hd⟩
  ·intro x c e
   obtain ⟨v, o, ho, hd⟩ := I2.cell x c (hcl1 x c e)
   exact ⟨v, o, old _ o ho, hd⟩
  ·show upd H2 s2.heap.objs.size (.lst []) G.objs.size = none
   rw [upd_ne (Ne.symm hDC)]; exact freshC
  ·intro x c e
   obtain ⟨v, o, ho, hd⟩ := I2.cell x c (hcl1 x c e)
   show upd H2 s2.heap.objs.size (.lst []) c = none
   rw [upd_ne (Nat.ne_of_lt (Heap.lt_size ho))]
   exact I2.freeC x c (hcl1 x c e)
  ·show (capSt own caps σ).length = N.length
   rw [capSt, List.length_append, List.length_replicate, List.length_map, hlen]
 obtain ⟨W, ⟨m0, w0⟩, turn⟩ := q s2.heap.objs.size freshD
 have stat : ∀ {H' : Hp}, (∀ b ∈ fp, H' b = none) → ∀ b ∈ fp, FpOk (X.comp scope N cl G.objs.size s2 H2 fp) [] H' b := fun hn b hb => by
  obtain ⟨o, e, _⟩ := T.obj 0 _ st2 b hb
  exact ⟨hn b hb, below b (Heap.lt_size e), okX.exfs b hb, .inl hb, fun x c ec => (f2 b hb).2.2.2.2.1 x c (hcl1 x c ec), (fun p hp => nomatch hp)⟩
 have fr0 : ∀ b ∈ fp, upd H2 s2.heap.objs.size (.lst []) b = none := fun b hb => by
  obtain ⟨o, e, _⟩ := T.obj 0 _ st2 b hb
  rw [upd_ne (Nat.ne_of_lt (Heap.lt_size e))]
  exact (f2 b hb).1
 have st1 : tn 0 h1 := T.keep 0 _ _ st2 fun b _ o e => old b o e
 have back : ∀ {σ' : St} {H' : Hp} {s' : Shared}, Inv (X.comp scope N cl G.objs.size s2 H2 fp) [] σ' H' s' → Inv X pins σ H' s' := fun {σ' H' s'} I' =>
  I2.call' (ch := fp) I'.os I'.base I'.hok I'.bare fun b hb => ⟨(f2 b hb).2.2.2.1, (f2 b hb).2.1, (f2 b hb).2.2.2.2.1, (f2 b hb).2.2.2.2.2⟩
 have loop : ∀ s4 : Shared, s4 = { s2 with heap := h1, toks := s2.toks + ([] : List (Str × Value)).length } →
   codeAny (model X.prog X.w) X.A (.compLoop (.ListComp elt [⟨tg, iter, ifs, 0⟩] scope pos) 0 (.ref it) (.ref s2.heap.objs.size) (compEnvC scope cl G.objs.size X.env)) (RR (.ref s2.heap.objs.size) G.objs.size) s4 := by
  rintro s4 rfl
  refine comp_loop (fun n s' => ∃ i τ H', Inv (X.comp scope N cl G.objs.size s2 H2 fp) [] τ H' s' ∧ tn i s'.heap ∧ (∀ b ∈ fp, H' b = none) ∧ W i n τ H') ?_ m0 ⟨0, _, _, I4 _, st1, fr0, w0⟩
  rintro n s3 ⟨i, τ3, H3, I3, st3, fr3, w3⟩
  rcases turn i n τ3 H3 w3 with ⟨stop, qn⟩ | ⟨go, N', hN', step⟩
  ·refine thn (T.done (X.comp scope N cl G.objs.size s2 H2 fp) rfl rfl rfl hc i [] s3 τ3 H3 _ I3 (stat fr3) st3 stop) fun r s4 ⟨hr, I4⟩ => ?_
   subst hr
   obtain ⟨m, hn, _⟩ := I4.loc
   exact hRR _ _ H3 s4 m (back I4) (newC H3 I4.free) hn qn
  ·refine thn (T.item (X.comp scope N cl G.objs.size s2 H2 fp) rfl rfl rfl hc i [] s3 τ3 H3 _ I3 (stat fr3) st3 go) fun r s4 ⟨u, hr, h4⟩ => ?_
   subst hr
   refine thn h4 fun _ s5 ho_ => ?_
   obtain ⟨x, H5, I5, r5, y5, st5, fr5⟩ := ho_
   have I5' := I5.pinned (stat fr5) (T.obj _ _ st5)
   refine thn (hg cl _ s2 H2 fp _ s5 τ3 H5 x u _ I5' r5 (step x H5 y5)) fun _ s6 ho_ => ?_
   obtain ⟨τ6, H6, I6, q6⟩ := ho_
   refine thn (ht cl _ s2 H2 fp _ s6 τ6 H6 _ I6 q6) fun b s7 ho_ => ?_
   obtain ⟨H7, I7, q7⟩ := ho_
   have again : ∀ {τ8 : St} {H8 : Hp} {s8 : Shared}, Inv (X.comp scope N cl G.objs.size s2 H2 fp) ([] ++ pinsAt fp s5.heap) τ8 H8 s8 → N' τ8 H8 →
     ∃ m, m < n ∧ ∃ i τ H', Inv (X.comp scope N cl G.objs.size s2 H2 fp) [] τ H' s8 ∧ tn i s8.heap ∧ (∀ b ∈ fp, H' b = none) ∧ W i m τ H' := fun {τ8 H8 s8} I8 n8 => by
    obtain ⟨m', hm, w8⟩ := hN' τ8 H8 n8
    refine ⟨m', hm, i + 1, τ8, H8, I8.unpinned, T.keep _ _ _ st5 fun b hb o e => (I8.pin (b, o) (List.mem_append_right _ (List.mem_append_right _ (mem_pinsAt hb e)))).1, fun b hb => ?_, w8⟩
    obtain ⟨o, e, d⟩ := T.obj _ _ st5 b hb
    exact (I8.pin (b, o) (List.mem_append_right _ (List.mem_append_right _ (mem_pinsAt hb e)))).2.1
   cases b with
   | false =>
    rw [if_neg (by decide)]
    rw [if_neg (by decide)] at q7
    exact again I7 q7
   | true =>
    rw [if_pos rfl]
    rw [if_pos rfl] at q7
    refine thn (he cl _ s2 H2 fp _ s7 τ6 H7 _ I7 q7) fun u8 s8 ho_ => ?_
    obtain ⟨v, H8, I8, r8, xs, hD, hz, n8⟩ := ho_
    refine thn (mt_append _ s8 τ6 H8 (.ref s2.heap.objs.size) [v] (.ref s2.heap.objs.size) [u8] (fun _ H' => N' τ6 H') I8 rfl (.cons r8 .nil) ⟨_, xs, v, rfl, rfl, hD, hz, n8⟩) fun _ s9 ho_ => ?_
    obtain ⟨_, H9, I9, _, n9⟩ := ho_
    exact again I9 n9
 exact codeAny_compStart_list (loop _ rfl) (T.self _ 0 _ _ _ st1 (loop _ rfl))
theorem clos_ok {pins : List (Addr × Obj)} {σ : St} {H : Hp} {s : Shared} (I : Inv X pins σ H s) (hsc : scOk X scope = true) :
  ∃ cl : List (Str × Addr), closureFor scope X.env = pure cl ∧ (∀ x c, cl.lookup x = some c → X.env.cells.lookup x = some c) ∧ ∀ n, (n, NameKind.free) ∈ scope.names → ∃ c, cl.lookup n = some c := by
 refine clos_of fun n hn => I.ok.has n ?_
 simp only [scOk, Bool.and_eq_true, List.all_eq_true] at hsc
 have := (hsc.2 (n, .free) hn).2
 simpa using this
theorem sc_names (hsc : scOk X scope = true) : scope.kind = .function ∧ ∀ x ∈ scope.names, x.2 = .local → scope.names.lookup x.1 = some .local := by
 simp only [scOk, Bool.and_eq_true, List.all_eq_true] at hsc
 refine ⟨by simpa using hsc.1, fun x hx hl => ?_⟩
 have := (hsc.2 x hx).1.2
 rw [hl] at this
 simpa using this
theorem pe_comp {wi : TI} (hc : X.calm = true) (hsc : scOk X scope = true) (hcap : capOk X scope N own caps = true) (hi : PI X tg iter wi)
  (hg : ∀ cl C s0 H0 fp, PG (X.comp scope N cl C s0 H0 fp) tg g) (ht : ∀ cl C s0 H0 fp, PTs (X.comp scope N cl C s0 H0 fp) ifs tt) (he : ∀ cl C s0 H0 fp, PE (X.comp scope N cl C s0 H0 fp) elt te)
  (hs : ∀ x, foldedSetIterable iter X.env x = pure x := by intro _; rfl) : PE X (.ListComp elt [⟨tg, iter, ifs, 0⟩] scope pos) (tComp own caps wi g tt te) := by
 intro pins s σ H Q I h
 obtain ⟨cl, hcl, hcl1, hcl2⟩ := clos_ok I hsc
 rw [eval_ListComp]
 refine wpAny_comprehension_free (use := none) rfl hs hcl (sc_names hsc).1 (sc_names hsc).2 (thn (hi pins s σ H _ I h) fun v s1 h1 => thn h1 fun itv s2 h2 => ?_)
 obtain ⟨it, fp, tn, J, H2, e, I2, T, st2, f2, q⟩ := h2
 subst e
 refine comp_block (Q := Q) (RR := fun acc C => compPost (model X.prog X.w) X.A X.xe none (EP X pins σ Q) acc C) hc hsc hcap hg ht he hcl1 hcl2 I2 T st2 f2 q fun D C H' s' m I' F hn hq => ⟨m, hn, fun h' hs' => ?_⟩
 exact ⟨.ref D, H', I'.turned (t' := s'.toks) (fun b o hb e => (hs'.2 b hb).trans e) F.free F.loc (.inr F.old) F.cel F.pin, rfl, hq⟩
end
end L2
set_option Elab.async false
set_option linter.all false
set_option maxRecDepth 100000
set_option maxHeartbeats 4000000
namespace L2
open PySem PySem.Spec PyProof.Rows
def Its (x : Str) : It := ⟨fun i _ => i < x.cps.size, fun i H v H' => H' = H ∧ ∃ c, x.cps[i]? = some c ∧ v = .str ⟨#[c]⟩, fun i _ => x.cps.size ≤ i⟩
theorem turn_strA {P : Program} {w : World} {K : PySem.W.Frag} {tg : Expr} (it : Addr) (x : Str) (t : Tok) : Turn P w K tg (Its x) [it] it (fun i h => h.IsStrIter it "str_ascii_iterator" x t i) where
 mem := by simp
 obj := fun i h st b hb => by
  have e : b = it := by simpa using hb
  subst e
  obtain ⟨o, e, c, d⟩ := st
  exact ⟨o, e, fun v z => by rw [d] at z; cases z⟩
 keep := fun i h h' st k => let ⟨o, e, r⟩ := st; ⟨o, k it (by simp) o e, r⟩
 item := by
  intro X hP hw hK hc i pins s σ H E I hf st hg
  subst hP hw hK
  obtain ⟨f0, f1, f2, f3, f4, f5⟩ := hf it (by simp)
  have hlt : i < x.cps.size := hg
  refine wpAny_pyNext_ascii_item st (c := x.cps[i]) (by simp [hlt]) fun h' st' sb => ?_
  have I1 : Inv X pins σ H { s with heap := h', toks := s.toks + 1 } := I.turned (fun b o hb e => sb.extBut b o hb e) f0 f1 f3 f4 f5
  obtain ⟨o, e, c, d⟩ := id st'
  exact ⟨_, rfl, go_of (s := { s with heap := h', toks := s.toks + 1 }) e c d (by decide) ⟨.str ⟨#[x.cps[i]]⟩, H, I1, ⟨_, rfl⟩, ⟨rfl, _, by simp [hlt], rfl⟩, st', fun b hb => (hf b hb).1⟩⟩
 done := by
  intro X hP hw hK hc i pins s σ H E I hf st hg
  subst hP hw hK
  obtain ⟨f0, f1, f2, f3, f4, f5⟩ := hf it (by simp)
  have hle : x.cps.size ≤ i := hg
  exact wpAny_pyNext_ascii_end (I.ok.hd hc) st (by simp [hle]) fun h' eb => ⟨rfl, I.turned (t' := s.toks) (fun b o hb e => eb b o hb e) f0 f1 f3 f4 f5⟩
 self := fun _ _ _ _ _ st h => wpAny_pyIter_striter_ascii st h
theorem turn_strW {P : Program} {w : World} {K : PySem.W.Frag} {tg : Expr} (it : Addr) (x : Str) (t : Tok) : Turn P w K tg (Its x) [it] it (fun i h => h.IsStrIter it "str_iterator" x t i) where
 mem := by simp
 obj := fun i h st b hb => by
  have e : b = it := by simpa using hb
  subst e
  obtain ⟨o, e, c, d⟩ := st
  exact ⟨o, e, fun v z => by rw [d] at z; cases z⟩
 keep := fun i h h' st k => let ⟨o, e, r⟩ := st; ⟨o, k it (by simp) o e, r⟩
 item := by
  intro X hP hw hK hc i pins s σ H E I hf st hg
  subst hP hw hK
  obtain ⟨f0, f1, f2, f3, f4, f5⟩ := hf it (by simp)
  have hlt : i < x.cps.size := hg
  refine wpAny_pyNext_wide_item st (c := x.cps[i]) (by simp [hlt]) fun h' st' sb => ?_
  have I1 : Inv X pins σ H { s with heap := h', toks := s.toks + 1 } := I.turned (fun b o hb e => sb.extBut b o hb e) f0 f1 f3 f4 f5
  obtain ⟨o, e, c, d⟩ := id st'
  exact ⟨_, rfl, go_of (s := { s with heap := h', toks := s.toks + 1 }) e c d (by decide) ⟨.str ⟨#[x.cps[i]]⟩, H, I1, ⟨_, rfl⟩, ⟨rfl, _, by simp [hlt], rfl⟩, st', fun b hb => (hf b hb).1⟩⟩
 done := by
  intro X hP hw hK hc i pins s σ H E I hf st hg
  subst hP hw hK
  obtain ⟨f0, f1, f2, f3, f4, f5⟩ := hf it (by simp)
  have hle : x.cps.size ≤ i := hg
  exact wpAny_pyNext_wide_end (I.ok.hd hc) st (by simp [hle]) fun h' eb => ⟨rfl, I.turned (t' := s.toks) (fun b o hb e => eb b o hb e) f0 f1 f3 f4 f5⟩
 self := fun _ _ _ _ _ st h => wpAny_pyIter_striter_wide st h
def iStr (tl : TE) : TI := fun σ H R => tl σ H fun x H1 => ∃ z, x = .str z ∧ R (Its z) H1
section
variable {X : Cx}
theorem pi_str {tg l : Expr} {tl : TE} (hl : PE X l tl) : PI X tg l (iStr tl) := by
 intro pins s σ H R I h
 refine thn (hl pins s σ H _ I h) fun v s1 ho_ => ?_
 obtain ⟨x, H1, I1, r1, q1⟩ := ho_
 obtain ⟨z, rfl, q⟩ := q1
 obtain ⟨t, rfl⟩ := r1
 have fin : ∀ b ∈ [s1.heap.objs.size], FpOk X pins H1 b := fun b hb => by
  have e : b = s1.heap.objs.size := by simpa using hb
  subst e
  exact I1.fpOk (Nat.le_refl _) (I1.hok.fresh (Nat.le_refl _))
 cases ha : z.cps.all (· < 128)
 ·refine wpAny_pyIter_wide ha ?_
  exact ⟨s1.heap.objs.size, [s1.heap.objs.size], _, _, H1, rfl, I1.kept (t' := s1.toks) fun b o e => Heap.get?_push_of_some _ e, turn_strW _ z t, ⟨_, Heap.get?_push_size _ rfl, rfl, rfl⟩, fin, q⟩
 ·refine wpAny_pyIter_ascii ha ?_
  exact ⟨s1.heap.objs.size, [s1.heap.objs.size], _, _, H1, rfl, I1.kept (t' := s1.toks) fun b o e => Heap.get?_push_of_some _ e, turn_strA _ z t, ⟨_, Heap.get?_push_size _ rfl, rfl, rfl⟩, fin, q⟩
theorem comp_by {own : Nat} {caps : List Nat} {J : It} {g : TG} {tt : TT} {te : TE} {σ : St} {H1 : Hp} {Q : Hp → Prop} {D : Addr} (n : Nat) (Pv : Nat → St → Hp → Prop) (h0 : Pv 0 (capSt own caps σ) (upd H1 D (.lst [])))
  (go : ∀ i τ H, i < n → Pv i τ H → J.go i H) (stop : ∀ τ H, Pv n τ H → J.stop n H)
  (hs : ∀ i τ H x H3, i < n → Pv i τ H → J.yld i H x H3 → g x τ H3 fun τ4 H4 => tt τ4 H4 fun b H5 => if b = true then te τ4 H5 fun v H6 => ∃ xs, H6 D = some (.lst xs) ∧ xs.length < sizeLine ∧ Pv (i + 1) τ4 (upd H6 D (.lst (xs ++ [v]))) else Pv (i + 1) τ4 H5)
  (hd : ∀ τ H, Pv n τ H → Q H) :
  ∃ W : Nat → Nat → St → Hp → Prop, (∃ m, W 0 m (capSt own caps σ) (upd H1 D (.lst []))) ∧ ∀ i m τ H2, W i m τ H2 →
   (J.stop i H2 ∧ Q H2) ∨ (J.go i H2 ∧ ∃ N : St → Hp → Prop, (∀ τ' H', N τ' H' → ∃ m', m' < m ∧ W (i + 1) m' τ' H') ∧
    ∀ x H3, J.yld i H2 x H3 → g x τ H3 fun τ4 H4 => tt τ4 H4 fun b H5 => if b = true then te τ4 H5 fun v H6 => ∃ xs, H6 D = some (.lst xs) ∧ xs.length < sizeLine ∧ N τ4 (upd H6 D (.lst (xs ++ [v]))) else N τ4 H5) := by
 refine ⟨fun i m τ H => m = n - i ∧ i ≤ n ∧ Pv i τ H, ⟨n, by simp, Nat.zero_le _, h0⟩, ?_⟩
 rintro i m τ H ⟨rfl, hi, p⟩
 by_cases hlt : i < n
 ·exact .inr ⟨go i τ H hlt p, Pv (i + 1), fun τ' H' p' => ⟨n - (i + 1), by omega, rfl, hlt, p'⟩, fun x H3 y => hs i τ H x H3 hlt p y⟩
 ·have e : i = n := by omega
  subst e
  exact .inl ⟨stop τ H p, hd τ H p⟩
theorem call_isiT : CallR X (.builtin "isinstance") (fun xs H Q => ∃ x T t b, xs = [x, .ty T] ∧ TyOf X.K H x t ∧ PySem.W.kitOne X.K t (.type T) = some b ∧ Q (.bl b) H) := by
 intro pins s σ H xs us Q I r h
 obtain ⟨x, T, t, b, rfl, ty, hk, q⟩ := h
 obtain ⟨v, w', rfl, rx, rw'⟩ := vals2 r
 cases rw'
 exact isinst_ok I rx ty hk fun tk => ⟨.bl b, H, I.tok tk, rfl, q⟩
theorem vals_bl : ∀ {bs : List Bool} {us : List Value}, Vals (bs.map V.bl) us → us = bs.map Value.bool
 | [], us, r => by rw [List.map_nil] at r; cases r; rfl
 | b :: bs, us, r => by
  rw [List.map_cons] at r
  cases r with
  | cons r1 r2 => cases r1; rw [vals_bl r2]; rfl
theorem all_range (bs : List Bool) : (List.range bs.length).all (fun i => bs.getD i true) = bs.all id := by
 rw [Bool.eq_iff_iff]
 simp only [List.all_eq_true, List.mem_range, id]
 constructor
 ·intro h b hb
  obtain ⟨i, hi, rfl⟩ := List.mem_iff_getElem.mp hb
  have := h i hi
  rw [List.getD_eq_getElem?_getD, List.getElem?_eq_getElem hi] at this
  exact this
 ·intro h i hi
  rw [List.getD_eq_getElem?_getD, List.getElem?_eq_getElem hi]
  exact h _ (List.getElem_mem hi)
theorem call_all (hc : X.calm = true) : CallR X (.builtin "all") (fun xs H Q => ∃ (l : Addr) (bs : List Bool), xs = [.ref l] ∧ H l = some (.lst (bs.map V.bl)) ∧ Q (.bl (bs.all id)) H) := by
 intro pins s σ H xs us Q I r h
 obtain ⟨l, bs, rfl, hl, q⟩ := h
 obtain ⟨u, rfl, ru⟩ := vals1 r
 cases ru
 obtain ⟨its, rv, p, hz⟩ := I.list (SqL.of hl)
 have ei := vals_bl rv
 subst ei
 have hlt : l < s.heap.objs.size := I.hok.lt hl
 refine call_all_walk (wpAny_pyIter_list p.isList ?_)
 refine ⟨s.heap.objs.size, _, _, _, _, _, (fun i => bs.getD i true), rfl, Walks.list (A := X.A.in1) (show X.A.in1.handled = none from I.ok.hd hc) s.heap.objs.size l (Nat.ne_of_lt hlt) (bs.map Value.bool).toArray, ⟨⟨_, Heap.get?_push_size _ rfl, rfl, rfl⟩, ?_⟩, ?_, ?_⟩
 ·obtain ⟨o, ho, hr⟩ := p.isList
  exact ⟨o, Heap.get?_push_of_some _ ho, hr⟩
 ·intro i v s1 Q1 E1 hP hQ
  have hP' : (bs.map Value.bool)[i]? = some v := by simpa using hP
  rw [List.getElem?_map] at hP'
  cases hb : bs[i]? with
  | none => rw [hb] at hP'; cases hP'
  | some b =>
   rw [hb] at hP'
   have ev : v = Value.bool b := (Option.some.inj hP').symm
   subst ev
   refine wpAny_truthy_bool ?_
   dsimp only at hQ
   rw [List.getD_eq_getElem?_getD, hb] at hQ
   exact hQ
 ·intro h' tk kp
  have e : (List.range (bs.map Value.bool).toArray.size).all (fun i => bs.getD i true) = bs.all id := by
   rw [List.size_toArray, List.length_map, all_range]
  rw [e]
  have I0 : Inv X pins σ H { s with heap := s.heap.push { cls := .type "list_iterator", data := .fields #[.ref l, .int 0 0] } } := I.kept (t' := s.toks) fun b o e2 => Heap.get?_push_of_some _ e2
  refine ⟨.bl (bs.all id), H, I0.turned (it := s.heap.objs.size) (fun b o hb e2 => kp b o (by simpa using hb) e2) (I.hok.fresh (Nat.le_refl _)) ?_ ?_ ?_ ?_, rfl, q⟩
  ·exact Nat.ne_of_gt I.lt
  ·exact .inr I.sz
  ·exact (I.fpOk (H' := H) (Nat.le_refl _) (I.hok.fresh (Nat.le_refl _))).2.2.2.2.1
  ·exact (I.fpOk (H' := H) (Nat.le_refl _) (I.hok.fresh (Nat.le_refl _))).2.2.2.2.2
def eqL : List V → List V → Bool
 | [], [] => true
 | x :: xs, y :: ys => eqV x y && eqL xs ys
 | _, _ => false
theorem eqL_range {xs ys : List V} (h : xs.length = ys.length) : (List.range xs.length).all (fun j => eqV (xs.getD j .non) (ys.getD j .non)) = eqL xs ys := by
 induction xs generalizing ys with
 | nil =>
  cases ys with
  | nil => rfl
  | cons y ys => cases h
 | cons x xs ih =>
  cases ys with
  | nil => cases h
  | cons y ys =>
   rw [List.length_cons, List.range_succ_eq_map, List.all_cons, List.all_map, eqL, ← ih (Nat.succ.inj h)]
   rfl
theorem eqL_len : ∀ {xs ys : List V}, xs.length ≠ ys.length → eqL xs ys = false
 | [], [], h => absurd rfl h
 | [], _ :: _, _ => rfl
 | _ :: _, [], _ => rfl
 | x :: xs, y :: ys, h => by
  rw [eqL, eqL_len fun e => h (by rw [List.length_cons, List.length_cons, e]), Bool.and_false]
def rEqL (K : PySem.W.Frag) (neg : Bool) : R2 := fun x y H Q => ∃ a b xs ys, x = .ref a ∧ y = .ref b ∧ SqL K H a xs ∧ SqL K H b ys ∧ xs.all flatV = true ∧ ys.all flatV = true ∧ Q (.bl (if neg then !eqL xs ys else eqL xs ys)) H
theorem eqAt_items {A : Around} {s : Shared} {xs ys : List V} {us ws : List Value} (r : Vals xs us) (q : Vals ys ws) (fx : xs.all flatV = true) (fy : ys.all flatV = true) :
  ∀ j (h1 : j < us.toArray.size) (h2 : j < ws.toArray.size), SeqAt.EqAt A s us.toArray[j] ws.toArray[j] (eqV (xs.getD j .non) (ys.getD j .non)) := by
 intro j h1 h2
 have h1' : j < us.length := by simpa using h1
 have h2' : j < ws.length := by simpa using h2
 have hx : j < xs.length := by rw [r.length]; exact h1'
 have hy : j < ys.length := by rw [q.length]; exact h2'
 obtain ⟨u, eu, ru⟩ := r.get (i := j) (x := xs[j]) (List.getElem?_eq_getElem hx)
 obtain ⟨w', ew, rw'⟩ := q.get (i := j) (x := ys[j]) (List.getElem?_eq_getElem hy)
 have e1 : us.toArray[j] = u := by
  have : us[j]? = some us[j] := List.getElem?_eq_getElem h1'
  rw [this] at eu
  simpa using Option.some.inj eu
 have e2 : ws.toArray[j] = w' := by
  have : ws[j]? = some ws[j] := List.getElem?_eq_getElem h2'
  rw [this] at ew
  simpa using Option.some.inj ew
 rw [e1, e2, List.getD_eq_getElem?_getD, List.getD_eq_getElem?_getD, List.getElem?_eq_getElem hx, List.getElem?_eq_getElem hy]
 exact eqAt_V ru rw' (List.all_eq_true.mp fx _ (List.getElem_mem hx)) (List.all_eq_true.mp fy _ (List.getElem_mem hy))
theorem op_eqL (hu : X.A.units < cLine) : OpR X (compareOp .Eq) (rEqL X.K false) := by
 intro pins s σ H x y v u Q I rx ry h
 obtain ⟨a, b, xs, ys, rfl, rfl, ha, hb, fx, fy, q⟩ := h
 cases rx; cases ry
 obtain ⟨us, r1, p1, z1⟩ := I.list ha
 obtain ⟨ws, r2, p2, z2⟩ := I.list hb
 by_cases hl : xs.length = ys.length
 ·refine SeqAt.eq_listAt (e := fun j => eqV (xs.getD j .non) (ys.getD j .non)) p1.isList p2.isList (by simp [← r1.length, ← r2.length, hl]) hu (eqAt_items r1 r2 fx fy) ?_
  rw [List.size_toArray, ← r1.length, eqL_range hl]
  exact ⟨.bl _, H, I, rfl, q⟩
 ·refine SeqAt.eq_list_lengthsAt p1.isList p2.isList (by simp [← r1.length, ← r2.length, hl]) hu ?_
  rw [if_neg (by decide), eqL_len hl] at q
  exact ⟨.bl false, H, I, rfl, q⟩
theorem op_neL (hu : X.A.units < cLine) : OpR X (compareOp .NotEq) (rEqL X.K true) := by
 intro pins s σ H x y v u Q I rx ry h
 obtain ⟨a, b, xs, ys, rfl, rfl, ha, hb, fx, fy, q⟩ := h
 cases rx; cases ry
 obtain ⟨us, r1, p1, z1⟩ := I.list ha
 obtain ⟨ws, r2, p2, z2⟩ := I.list hb
 by_cases hl : xs.length = ys.length
 ·refine SeqAt.RcNeAt.lists (e := fun j => eqV (xs.getD j .non) (ys.getD j .non)) p1.isList p2.isList (by simp [← r1.length, ← r2.length, hl]) hu (eqAt_items r1 r2 fx fy) X.prog X.w _ _ ?_
  rw [List.size_toArray, ← r1.length, eqL_range hl]
  exact ⟨.bl _, H, I, rfl, q⟩
 ·refine SeqAt.RcNeAt.lists_lengths p1.isList p2.isList (by simp [← r1.length, ← r2.length, hl]) hu X.prog X.w _ _ ?_
  rw [if_pos rfl, eqL_len hl] at q
  exact ⟨.bl true, H, I, rfl, q⟩
def CDivB (i j : Int) : Prop := 0 < j ∧ j < 2 ^ 64
theorem op_fdivB : OpR X (binaryOp .FloorDiv) (rI CDivB fun i j => .int (i / j)) := opI fun i j _ _ _ _ _ hc q => by
 refine floordiv_int (by have := hc.1; omega) ?_ (.inl (PyProof.noPylong_of_log2 ?_))
 ·rw [Int.fdiv_eq_ediv_of_nonneg _ (Int.le_of_lt hc.1)]; exact q
 ·have hj : j.natAbs < 2 ^ 64 := by have h1 := hc.1; have h2 := hc.2; omega
  by_cases h0 : j.natAbs = 0
  ·rw [h0]; decide +kernel
  ·have := (Nat.log2_lt h0).mpr hj
   omega
end
end L2
namespace L2
open PySem PySem.Spec PyProof.Rows
structure Fx (K : PySem.W.Frag) (mg : Str → Option Value) (x : Str) (st : Stmt) (ps : List Str) where
 f : Addr
 fd : FuncData
 fn : Fun K x x st f fd
 bi : Binds K fd ps []
 gl : mg x = some (.ref f)
theorem pe_own {X : Cx} {x : Str} {st : Stmt} {ps : List Str} {k : Nat} {sp : Sp} {e : Expr} {es : List Expr} {t : TA} {p pos : Pos} {F : Fx X.K X.mg x st ps} (G : FnOk X.prog X.w X.K X.mg X.base CX0 k F.f F.fd ps sp) (hr : Room k X.A) (hg : Gl X x) (ha : PA X (e :: es) t)
  (hdb : (x == ("__debug__" : Str)) = false := by decide) (he : starEach (e :: es) X.env = (false, eval e X.env) :: starEach es X.env := by rfl) (hpl : (backTo pos (starEach es X.env)).any (·.1) = false := by rfl) :
  PE X (.Call (.Name x p) (e :: es) [] pos) (tCall sp [] E0 t) := pe_call G hr hg F.gl F.fn.kp F.bi .nil pass0 ha hdb he hpl
theorem Same.upd {H H' : Hp} {a : Addr} {o : HO} (s : Same H H') (h : H a = none) : Same H (L2.upd H' a o) := fun b u e => by
 rw [upd_ne (ne_of_none e h)]; exact s b u e
theorem Same.new {H : Hp} {a : Addr} {o : HO} (h : H a = none) : Same H (L2.upd H a o) := (Same.refl H).upd h
theorem kit_same {K : PySem.W.Frag} {T : String} : PySem.W.kitOne K (.type T) (.type T) = some true := by
 unfold PySem.W.kitOne; rw [if_pos (by simp)]
end L2
namespace L2
open PySem PySem.Spec PyProof.Rows
theorem bt_len : bootBuiltins "len" = some (.builtin "len") := by decide +kernel
theorem bt_all : bootBuiltins "all" = some (.builtin "all") := by decide +kernel
theorem bt_isinstance : bootBuiltins "isinstance" = some (.builtin "isinstance") := by decide +kernel
theorem bt_sorted : bootBuiltins "sorted" = some (.builtin "sorted") := by decide +kernel
theorem bt_str : bootBuiltins "str" = some (.type "str") := by decide +kernel
theorem bt_list : bootBuiltins "list" = some (.type "list") := by decide +kernel
theorem bt_tuple : bootBuiltins "tuple" = some (.type "tuple") := by decide +kernel
theorem bt_dict : bootBuiltins "dict" = some (.type "dict") := by decide +kernel
theorem atI_pos {α : Type} {xs : List α} {i : Int} {v : α} (h0 : 0 ≤ i) (h : xs[i.toNat]? = some v) : atI xs i = some v := by
 have e : i = ((i.toNat : Nat) : Int) := by omega
 rw [e]
 exact atI_nat (by simpa using h)
theorem atI_ints {ds : List Int} {i : Int} (h0 : 0 ≤ i) (h1 : i < ds.length) : atI (ds.map V.int) i = some (.int (ds.getD i.toNat 0)) := by
 refine atI_pos h0 ?_
 have hj : i.toNat < ds.length := by omega
 rw [List.getElem?_map, List.getD_eq_getElem?_getD, List.getElem?_eq_getElem hj]
 rfl
theorem small_line {n : Nat} (h : n ≤ 100000) : n ≤ sizeLine := Nat.le_trans h (by rw [sizeLine_eq]; decide)
theorem small_line1 {n : Nat} (h : n < 100000) : n < sizeLine := Nat.lt_of_lt_of_le h (by rw [sizeLine_eq]; decide)
end L2
namespace L2
open PySem PySem.Spec PyProof.Rows
section
variable {X : Cx} {K : PySem.W.Frag}
theorem ix_listK (h : X.K = K) : IxR X (rIxL K) := h ▸ ix_list
theorem ix_tupK (h : X.K = K) : IxR X (rIxT K) := h ▸ ix_tup
theorem sl_listK (h : X.K = K) : SlR X (rSlL K) := h ▸ sl_list
theorem sl_tupK (h : X.K = K) : SlR X (rSlT K) := h ▸ sl_tup
theorem op_in_seqK (h : X.K = K) : OpR X (compareOp .In) (rIn K false) := h ▸ op_in_seq
theorem op_notIn_seqK (h : X.K = K) : OpR X (compareOp .NotIn) (rIn K true) := h ▸ op_notIn_seq
theorem op_neLK (h : X.K = K) (hu : X.A.units < cLine) : OpR X (compareOp .NotEq) (rEqL K true) := h ▸ op_neL hu
theorem call_len_seqK (h : X.K = K) : CallR X (.builtin "len") (fun xs H Q => ∃ p ys, xs = [.ref p] ∧ (SqL K H p ys ∨ SqT K H p ys) ∧ Q (.int ys.length) H) := h ▸ call_len_seq
theorem call_tuple_ofK (h : X.K = K) : CallR X (.type "tuple") (fun xs H Q => ∃ p ys, xs = [.ref p] ∧ ((SqL K H p ys ∧ ∀ l, H l = none → Q (.ref l) (upd H l (.tup ys))) ∨ (SqT K H p ys ∧ Q (.ref p) H))) := h ▸ call_tuple_of
theorem call_isiTK (h : X.K = K) : CallR X (.builtin "isinstance") (fun xs H Q => ∃ x T t b, xs = [x, .ty T] ∧ TyOf K H x t ∧ PySem.W.kitOne K t (.type T) = some b ∧ Q (.bl b) H) := h ▸ call_isiT
theorem pi_listK {tg l : Expr} {tl : TE} (h : X.K = K) (hl : PE X l tl) : PI X tg l (iList K tl) := h ▸ pi_list hl
theorem pi_tupK {tg l : Expr} {tl : TE} (h : X.K = K) (hl : PE X l tl) : PI X tg l (iTup K tl) := h ▸ pi_tup hl
variable {o e : Expr} {es : List Expr} {to : TE} {t : TA} {name : Str} {apos cpos : Pos} {T id : String} {r : V → List V → Hp → VK → Prop}
theorem pe_bmK (h : X.K = K) (pa : PlainAttrs T) (slot : Slot T name id) (hty : typeOf (.builtin id) = pure (.type "method_descriptor")) (hm : MtR X id r) (ho : PE X o to) (ha : PA X (e :: es) t)
  (hbase : attributeBase o name X.env (eval o X.env) = eval o X.env := by rfl)
  (hfew : ((backTo cpos (starEach (e :: es) X.env)).all (fun x => !x.1) && (backToKw cpos (keywordEach [] X.env)).all (fun x => x.1.isSome)
   && decide ((e :: es).length + ([] : List Keyword).length + (if ([] : List Keyword).isEmpty then 0 else 1) < 30)) = true := by rfl)
  (hline : (apos.endLine == cpos.line) = true := by rfl) (hs : starEach (e :: es) X.env = (false, eval e X.env) :: starEach es X.env := by rfl) (hplain : (backTo cpos (starEach es X.env)).any (·.1) = false := by rfl) :
  PE X (.Call (.Attribute o name apos) (e :: es) [] cpos) (tBM K T r to t) := h ▸ pe_bm pa slot hty hm ho ha hbase hfew hline hs hplain
theorem pe_fldK {f : Str} {pos : Pos} {ta : TE} (h : X.K = K) (he : PE X e ta) (hb : attributeBase e f X.env (eval e X.env) = eval e X.env) : PE X (.Attribute e f pos) (tFld K ta f) := h ▸ pe_fld he hb
theorem pg_tupK {es : List Expr} {k n : Nat} {t : TGs} {pos : Pos} (hK : X.K = K) (hc : X.calm = true) (h : PGs X es t)
  (hn : (assignEach es X.env).length = n := by rfl) (hst : (assignEach es X.env).findIdx? (·.1) = none := by rfl) : PG X (.Tuple es k pos) (gTup K n t) := hK ▸ pg_tup hc h hn hst
end
end L2
set_option Elab.async false
set_option linter.all false
set_option maxRecDepth 100000
set_option maxHeartbeats 4000000
namespace L2
open PySem PySem.Spec PyProof.Rows
structure Mx (K : PySem.W.Frag) (C : Addr) (m qual : Str) (st : Stmt) (ps : List Str) where
 f : Addr
 fd : FuncData
 fn : Fun K m qual st f fd
 bi : Binds K fd ps []
 me : Meth K C m f
section
variable {X : Cx} {C : Addr} {m qual : Str} {st : Stmt} {ps : List Str} {k : Nat} {sp : Sp} {o e : Expr} {es : List Expr} {ta : TE} {t : TA} {apos pos : Pos}
theorem pe_mown {pl : Sem Bool} {F : Mx X.K C m qual st ps} (c : Cls X.K C) (G : FnOk X.prog X.w X.K X.mg X.base CX0 k F.f F.fd ps sp) (hr : Room k X.A) (ho : PE X o ta) (ha : PA X (e :: es) t)
  (hst : starEach (e :: es) X.env = (false, eval e X.env) :: starEach es X.env := by rfl) (hpl : (backTo pos (starEach es X.env)).any (·.1) = false := by rfl)
  (ht : eval (.Call (.Attribute o m apos) (e :: es) [] pos) X.env = (do
   let ov ← eval o X.env
   standAt apos.atName
   let (f, first) ← holding [ov] (getMethod ov m pl)
   callWith pos f first (backTo pos (starEach (e :: es) X.env)) (backToKw pos (keywordEach [] X.env))) := by rfl) :
  PE X (.Call (.Attribute o m apos) (e :: es) [] pos) (tMeth C m sp [] E0 ta t) := pe_meth ho c F.me G hr F.bi .nil pass0 ha hst hpl ht
theorem pe_mown0 {pl : Sem Bool} {F : Mx X.K C m qual st ps} (c : Cls X.K C) (G : FnOk X.prog X.w X.K X.mg X.base CX0 k F.f F.fd ps sp) (hr : Room k X.A) (ho : PE X o ta)
  (ht : eval (.Call (.Attribute o m apos) [] [] pos) X.env = (do
   let ov ← eval o X.env
   standAt apos.atName
   let (f, first) ← holding [ov] (getMethod ov m pl)
   callWith pos f first (backTo pos (starEach [] X.env)) (backToKw pos (keywordEach [] X.env))) := by rfl) :
  PE X (.Call (.Attribute o m apos) [] [] pos) (tMeth C m sp [] E0 ta tNil) := pe_meth0 ho c F.me G hr F.bi .nil pass0 ht
end
section
variable {X : Cx}
end
section
variable {prog : Program} {w : World} {A : Around} {E : Value → Shared → Prop}
theorem draw_lst {it a : Addr} {items : Array Value} (hne : a ≠ it) : ∀ (n i : Nat) (s : Shared) (Q : List Value → Shared → Prop), s.heap.IsListIter it a i → s.heap.IsList a items → i + n ≤ items.size →
  (∀ h', h'.IsListIter it a (i + n) → Heap.SameBut it s.heap h' → Q ((items.toList.drop i).take n) { s with heap := h' }) → wpAny (model prog w) A (draw (.ref it) n) Q E s := by
 intro n
 induction n with
 | zero =>
  intro i s Q st _ _ hQ
  refine wpAny_pure ?_
  have := hQ s.heap st (Heap.SameBut.refl ..)
  simpa using this
 | succ n ih =>
  intro i s Q st hl hle hQ
  have lt : i < items.size := by omega
  refine wpAny_bind (m := pyNext (.ref it)) (wpAny_pyNext_list_item st hl (x := items[i]) (by simp [lt]) fun h1 st1 sb1 => ?_)
  have hl1 : h1.IsList a items := by
   obtain ⟨o, ho, r⟩ := hl
   exact ⟨o, (sb1.2 a hne).trans ho, r⟩
  refine wpAny_bind (wpAny_holding (ih (i + 1) _ _ st1 hl1 (by omega) fun h2 st2 sb2 => wpAny_pure ?_))
  have e1 : items.toList.drop i = items[i] :: items.toList.drop (i + 1) := by simp [List.drop_eq_getElem_cons, lt]
  have := hQ h2 (by rw [show i + (n + 1) = i + 1 + n by omega]; exact st2) (sb1.trans sb2)
  rw [e1, List.take_succ_cons] at this
  exact this
theorem unpack_lst {a : Addr} {items : Array Value} {s : Shared} {Q : List Value → Shared → Prop} (hh : A.handled = none) (hl : s.heap.IsList a items)
  (hQ : ∀ h', Heap.ExtBut s.heap.objs.size s.heap h' → Q items.toList { s with heap := h' }) : wpAny (model prog w) A (unpackItems (.ref a) items.size none) Q E s := by
 have hlt : a ≠ s.heap.objs.size := by
  obtain ⟨o, ho, _⟩ := hl
  exact Nat.ne_of_lt (Heap.lt_size ho)
 have push : ∀ ob, (s.heap.push ob).IsList a items := fun ob => by
  obtain ⟨o, ho, r⟩ := hl
  exact ⟨o, Heap.get?_push_of_some _ ho, r⟩
 unfold unpackItems
 refine wpAny_bind ?_
 unfold notIterableAtAll
 refine wpAny_bind (wpAny_specialOf hl.typeIs F.slot_list_iter.lookup (wpAny_pure ?_))
 simp only [Bool.false_eq_true, if_false]
 refine wpAny_bind (wpAny_holding (wpAny_pyIter_list hl ?_))
 refine wpAny_bind (wpAny_holding (draw_lst hlt items.size 0 _ _ ⟨_, Heap.get?_push_size _ rfl, rfl, rfl⟩ (push _) (by omega) fun h1 st1 sb1 => ?_))
 have eall : List.take items.size (List.drop 0 items.toList) = items.toList := by
  rw [List.drop_zero]
  exact List.take_of_length_le (by simp)
 rw [eall, if_neg (by simp)]
 have hl1 : h1.IsList a items := by
  obtain ⟨o, ho, r⟩ := push { cls := .type "list_iterator", data := .fields #[.ref a, .int 0 0] }
  exact ⟨o, (sb1.2 a hlt).trans ho, r⟩
 refine wpAny_bind (wpAny_holding (wpAny_pyNext_list_end hh st1 hl1 (by simp) fun h2 e2 => ?_))
 simp only [Option.isSome_none, Bool.false_eq_true, if_false]
 exact wpAny_pure (hQ h2 fun b o hb e => e2 b o hb (sb1.extBut b o hb (Heap.get?_push_of_some _ e)))
end
section
variable {X : Cx}
def gLst (K : PySem.W.Frag) (n : Nat) (t : TGs) : TG := fun v σ H Q => ∃ a xs, v = .ref a ∧ SqL K H a xs ∧ xs.length = n ∧ t xs σ H Q
theorem pg_lstK {K : PySem.W.Frag} {es : List Expr} {k n : Nat} {t : TGs} {pos : Pos} (hK : X.K = K) (hc : X.calm = true) (h : PGs X es t)
  (hn : (assignEach es X.env).length = n := by rfl) (hst : (assignEach es X.env).findIdx? (·.1) = none := by rfl) : PG X (.Tuple es k pos) (gLst K n t) := by
 subst hK
 intro pins s σ H v u Q I r hw
 obtain ⟨a, xs, e1, hq, hl, hw⟩ := hw
 subst e1
 cases r
 obtain ⟨its, rv, p, hz⟩ := I.list hq
 rw [assign_Tuple]
 refine wpAny_bind (wpAny_standAt ?_)
 unfold unpack
 have en : (assignEach es X.env).length = its.toArray.size := by
  rw [List.size_toArray, ← rv.length, hl]
  exact hn
 rw [en, hst]
 refine wpAny_bind (wpAny_holding (unpack_lst (I.ok.hd hc) p.isList fun h' hx => ?_))
 have I1 : Inv X pins σ H { s with heap := h' } := I.kept (t' := s.toks) fun b o e => hx b o (Nat.ne_of_lt (Heap.lt_size e)) e
 exact h pins _ σ H xs _ Q I1 (by simpa using rv) hw
end
end L2
set_option Elab.async false
set_option linter.all false
set_option maxRecDepth 100000
set_option maxHeartbeats 4000000
namespace L2
open PySem PySem.Spec PyProof.Rows
def Trc (h : Heap) (a : Addr) (cls : Value) (dd : Option Addr) (T : Addr) : Prop :=
 ∃ oe vs oT ts, h.get? a = some oe ∧ oe.cls = cls ∧ oe.dict = dd ∧ oe.data = .fields vs ∧ vs[1]? = some (.ref T) ∧ T ≠ a ∧ h.get? T = some oT ∧ oT.data = .fields ts ∧ ts[3]? = some .none
structure Lft (fs xs : List Addr) (h h' : Heap) : Prop where
 keep : ∀ b o, h.get? b = some o → b ∉ fs → b ∉ xs → h'.get? b = some o
 slot : ∀ b o, h.get? b = some o → b ∈ fs → (∀ vs, o.data ≠ .fields vs) → ∃ sl, h'.get? b = some { o with slots := sl }
 there : ∀ b o, h.get? b = some o → b ∉ xs → b ∈ fs → (∀ vs, o.data ≠ .fields vs) → ∃ o', h'.get? b = some o'
section
variable {M : Model} {A : Around} {E : Value → Shared → Prop} {s : Shared} {base : Heap} {env : Env} {outer : List Env} {L e : Addr} {Q : Unit → Shared → Prop}
theorem map_dict {o : Obj} {g : Array Value → Array Value} : (Obj.mapFields g o).dict = o.dict := by
 unfold Obj.mapFields
 split <;> rfl
theorem leave_entry {oe : Obj} {vs : Array Value} {head : Value} {hn : Bool} (hfr : A.frames = some (env :: outer)) (hl : s.heap.FunFrames base (env :: outer)) (hf : env.frame = some L) (he : s.heap.get? e = some oe)
  (hd : oe.data = .fields vs) (hsz : 1 < vs.size) (hQ : ∀ h' T, Lft (frs (env :: outer)) [e] s.heap h' → Trc h' e oe.cls oe.dict T → s.heap.get? T = none → Q () { s with heap := h' }) :
  wpAny M A (do let a ← frameOf env; let pl ← entryPlaceOf L hn; let b ← EntryCells.newEntry head a .none (rawInt L) .none pl; setField (.ref e) 1 b) (fun _ s' => wpAny M A (setFlight (.ref e) none) Q E s') E s := by
 have ef : e ∉ frs (env :: outer) := fun m => by
  obtain ⟨_, o, ho, nf⟩ := hl.mem m
  rw [he] at ho
  cases ho
  exact nf vs hd
 refine wpAny_bind (wpAny_frameOf_fun hfr hl hf fun g1 so => wpAny_bind (wpAny_entryPlaceOf fun p5 ok5 => ?_))
 unfold EntryCells.newEntry
 unfold newFields
 refine wpAny_bind (wpAny_newObj_type ?_ (ok5.sizeOk5 ..))
 have he1 : g1.get? e = some oe := (so.2.1 e ef).trans he
 have hTe : g1.objs.size ≠ e := Nat.ne_of_gt (Heap.lt_size he1)
 generalize hob : ({ cls := .type "traceback", dict := none, data := .fields ([head, .ref L, .none, rawInt L, .none] ++ (if p5.isEmpty then List.replicate 6 Value.none else p5)).toArray } : Obj) = ob
 obtain ⟨ts, hts, h3⟩ : ∃ ts, ob.data = .fields ts ∧ 3 < ts.size := ⟨_, by rw [← hob], by simp only [List.size_toArray, List.length_append, List.length_cons, List.length_nil]; omega⟩
 have hfree : ob.isFreed = false := Obj.isFreed_of_fields hts
 have he2 : (g1.push ob).get? e = some oe := Heap.get?_push_of_some ob he1
 refine wpAny_setField he2 hd hsz ?_
 have d3 := Obj.data_mapFields hd (·.setIfInBounds 1 (Value.ref g1.objs.size))
 have he3 := Heap.get?_update_self (Obj.mapFields (·.setIfInBounds 1 (Value.ref g1.objs.size))) he2 (Obj.isFreed_of_fields d3)
 have hT3 : ((g1.push ob).update e (Obj.mapFields (·.setIfInBounds 1 (Value.ref g1.objs.size)))).get? g1.objs.size = some ob := (Heap.get?_update_other _ _ hTe.symm).trans (Heap.get?_push_size g1 hfree)
 unfold setFlight
 refine wpAny_bind (wpAny_field he3 d3 (x := .ref g1.objs.size) (by simp [hsz]) ?_)
 rw [if_pos (by simp)]
 refine wpAny_setField hT3 hts h3 (hQ _ g1.objs.size ?_ ?_ ?_)
 ·have kp : ∀ b o, b ≠ e → g1.get? b = some o → (((g1.push ob).update e (Obj.mapFields (·.setIfInBounds 1 (Value.ref g1.objs.size)))).update g1.objs.size (Obj.mapFields (·.setIfInBounds 3 ((none : Option Addr).elim Value.none fun f => rawInt f)))).get? b = some o := fun b o hb q => by
   rw [Heap.get?_update_other _ _ (Nat.ne_of_gt (Heap.lt_size q)), Heap.get?_update_other _ _ (Ne.symm hb)]
   exact Heap.get?_push_of_some _ q
  have ne : ∀ b o, s.heap.get? b = some o → (∀ vs, o.data ≠ .fields vs) → b ≠ e := fun b o q nf z => by
   rw [z, he] at q
   cases q
   exact nf vs hd
  refine ⟨fun b o q h1 h2 => kp b o (fun z => h2 (by simp [z])) ((so.2.1 b h1).trans q), fun b o q _ nf => ?_, fun b o q _ _ nf => ?_⟩
  ·obtain ⟨sl, z⟩ := so.2.2 b o q
   exact ⟨sl, kp b _ (ne b o q nf) z⟩
  ·obtain ⟨sl, z⟩ := so.2.2 b o q
   exact ⟨_, kp b _ (ne b o q nf) z⟩
 ·refine ⟨_, _, _, _, (Heap.get?_update_other _ _ hTe).trans he3, Obj.cls_mapFields _ _, map_dict, d3, by simp [hsz], hTe, Heap.get?_update_self _ hT3 (Obj.isFreed_of_fields (Obj.data_mapFields hts _)), Obj.data_mapFields hts _, by simp [h3]⟩
 ·exact Heap.get?_none_of_le (Nat.le_of_eq so.1.symm)
theorem leave_first {oe : Obj} {vs : Array Value} (hfr : A.frames = some (env :: outer)) (hl : s.heap.FunFrames base (env :: outer)) (hf : env.frame = some L) (he : s.heap.get? e = some oe) (hd : oe.data = .fields vs)
  (h1 : vs[1]? = some .none) (hQ : ∀ h' T, Lft (frs (env :: outer)) [e] s.heap h' → Trc h' e oe.cls oe.dict T → s.heap.get? T = none → Q () { s with heap := h' }) : wpAny M A (leaving env (.ref e)) Q E s := by
 unfold leaving
 unfold noteFrame
 simp only [hf]
 refine wpAny_bind (wpAny_bind (wpAny_field he hd h1 ?_))
 rw [if_neg (by simp)]
 exact leave_entry hfr hl hf he hd (Array.getElem?_eq_some_iff.mp h1).1 hQ
theorem note_next {T0 : Addr} {cls : Value} {dd : Option Addr} (hfr : A.frames = some (env :: outer)) (hl : s.heap.FunFrames base (env :: outer)) (hf : env.frame = some L) (t0 : Trc s.heap e cls dd T0)
  (hQ : ∀ h' T, Lft (frs (env :: outer)) [e, T0] s.heap h' → Trc h' e cls dd T → s.heap.get? T = none → Q () { s with heap := h' }) : wpAny M A (noteFrame (.ref e) env) (fun _ s2 => wpAny M A (setFlight (.ref e) none) Q E s2) E s := by
 obtain ⟨oe, vs, oT, ts, t1, t2, t3, t4, t5, t6, t7, t8, t9⟩ := id t0
 subst t2 t3
 have hd3 := Obj.data_mapFields t8 (·.setIfInBounds 3 Value.none)
 have oth : ∀ b, b ≠ T0 → (s.heap.update T0 (Obj.mapFields (·.setIfInBounds 3 Value.none))).get? b = s.heap.get? b := fun b hb => Heap.get?_update_other _ _ hb.symm
 have nf : ∀ b o, s.heap.get? b = some o → (∀ vs, o.data ≠ .fields vs) → b ≠ T0 := fun b o q nf z => by
  rw [z, t7] at q
  cases q
  exact nf _ t8
 have hl1 : (s.heap.update T0 (Obj.mapFields (·.setIfInBounds 3 Value.none))).FunFrames base (env :: outer) := hl.of_keeps fun b o q n => ⟨o, (oth b (nf b o q n)).trans q, rfl⟩
 unfold noteFrame
 simp only [hf]
 refine wpAny_bind (wpAny_field t1 t4 t5 ?_)
 rw [if_pos (by simp)]
 refine wpAny_bind (wpAny_field t7 t8 t9 ?_)
 rw [if_neg (by simp [rawInt])]
 refine wpAny_bind (wpAny_setField t7 t8 (Array.getElem?_eq_some_iff.mp t9).1 ?_)
 refine leave_entry hfr hl1 hf ((oth e t6.symm).trans t1) t4 (Array.getElem?_eq_some_iff.mp t5).1 fun h' T l t n => hQ h' T ⟨fun b o q h1 h2 => ?_, fun b o q h1 n => ?_, fun b o q h1 h2 n => ?_⟩ t ?_
 ·exact l.keep b o ((oth b fun z => h2 (by simp [z])).trans q) h1 fun z => h2 (by simp [List.mem_singleton.mp z])
 ·exact l.slot b o ((oth b (nf b o q n)).trans q) h1 n
 ·obtain ⟨sl, z⟩ := l.slot b o ((oth b (nf b o q n)).trans q) h2 n
  exact ⟨_, z⟩
 ·cases z : s.heap.get? T with
  | none => rfl
  | some o =>
   by_cases hT : T = T0
   ·subst hT
    rw [Heap.get?_update_self _ t7 (Obj.isFreed_of_fields hd3)] at n
    cases n
   ·have n' := n
    rw [oth T hT, z] at n'
    cases n'
theorem leave_next {T0 : Addr} {cls : Value} {dd : Option Addr} (hfr : A.frames = some (env :: outer)) (hl : s.heap.FunFrames base (env :: outer)) (hf : env.frame = some L) (t0 : Trc s.heap e cls dd T0)
  (hQ : ∀ h' T, Lft (frs (env :: outer)) [e, T0] s.heap h' → Trc h' e cls dd T → s.heap.get? T = none → Q () { s with heap := h' }) : wpAny M A (leaving env (.ref e)) Q E s := by
 unfold leaving
 exact wpAny_bind (note_next hfr hl hf t0 hQ)
theorem flight_none {T : Addr} {cls : Value} {dd : Option Addr} (t0 : Trc s.heap e cls dd T) (hQ : ∀ h', (∀ b o, b ≠ T → s.heap.get? b = some o → h'.get? b = some o) → (∃ o, h'.get? T = some o) → Trc h' e cls dd T → Q () { s with heap := h' }) :
  wpAny M A (setFlight (.ref e) none) Q E s := by
 obtain ⟨oe, vs, oT, ts, t1, t2, t3, t4, t5, t6, t7, t8, t9⟩ := id t0
 have h3 : 3 < ts.size := (Array.getElem?_eq_some_iff.mp t9).1
 unfold setFlight
 refine wpAny_bind (wpAny_field t1 t4 t5 ?_)
 rw [if_pos (by simp)]
 have hs := Heap.get?_update_self (Obj.mapFields (·.setIfInBounds 3 ((none : Option Addr).elim Value.none fun f => rawInt f))) t7 (Obj.isFreed_of_fields (Obj.data_mapFields t8 _))
 refine wpAny_setField t7 t8 h3 (hQ _ (fun b o hb q => (Heap.get?_update_other _ _ hb.symm).trans q) ⟨_, hs⟩ ⟨oe, vs, _, _, (Heap.get?_update_other _ _ t6).trans t1, t2, t3, t4, t5, t6, hs, Obj.data_mapFields t8 _, by simp [h3]⟩)
end
def CX1 (P : Program) (w : World) : CXT := fun outer H s E e s' => ∃ (a : Addr) (cls : Value) (dd : Option Addr) (T : Addr) (H' : Hp), e = .ref a ∧ s'.os = s.os ∧ AllBare s'.gens ∧ Un (frs outer) [] H H' s.heap s'.heap ∧ HOk P w H' s'.heap ∧
 Trc s'.heap a cls dd T ∧ s.heap.get? a = none ∧ s.heap.get? T = none ∧ H' a = none ∧ H' T = none ∧ E cls dd H'
section
variable {P : Program} {w : World} {H : Hp} {h h' : Heap} {fs xs : List Addr}
theorem ObjOk.here {a : Addr} {o : HO} (x : ObjOk P w H h a o) : ∃ u, h.get? a = some u := by
 induction o with
 | lst xs => obtain ⟨_, _, _, _, e⟩ := x; exact ⟨_, e⟩
 | tup xs => obtain ⟨_, _, _, _, e, _⟩ := x; exact ⟨_, e⟩
 | dK kvs => obtain ⟨_, _, _, _, _, _, _, e, _⟩ := x; exact ⟨_, e⟩
 | dT kvs => obtain ⟨_, _, _, _, _, _, _, e, _⟩ := x; exact ⟨_, e⟩
 | set S n => obtain ⟨_, _, _, _, e, _⟩ := x; exact ⟨_, e⟩
 | ins C dx fs => obtain ⟨_, _, _, e, _⟩ := x; exact ⟨_, e⟩
 | own y => exact x
 | xd fs => obtain ⟨_, ⟨_, _, _, e, _⟩, _⟩ := x; exact ⟨_, e⟩
 | rng lo hi => obtain ⟨_, _, _, e⟩ := x; exact ⟨_, e⟩
 | frz ob u ih => exact ⟨_, x.1⟩
 | tbl ps => exact ⟨_, x⟩
 | met f y => exact ⟨_, x⟩
 | ext φ => exact x.2.1
theorem HOk.lft (x : HOk P w H h) (l : Lft fs xs h h') (hf : ∀ b ∈ fs, H b = none) (hx : ∀ b ∈ xs, H b = none) : HOk P w H h' := fun a o e =>
 (x a o e).stay (fun b u hb q => by
  have hn : ∃ o, H b = some o := by
   rcases hb with rfl | hb
   ·exact ⟨_, e⟩
   ·exact ⟨_, hb⟩
  obtain ⟨o', ho'⟩ := hn
  refine l.keep b u q (fun z => ?_) (fun z => ?_)
  ·rw [hf b z] at ho'; cases ho'
  ·rw [hx b z] at ho'; cases ho') (fun _ q => q) fun _ _ q => q
end
section
variable {P : Program} {w : World} {K : PySem.W.Frag} {mg : Str → Option Value} {base : Heap} {N : List Str} {qual : Str} {scope : Scope} {f : Addr} {cd : Value} {A : Around} {outer : List Env} {s0 : Shared} {H0 : Hp} {E : XK}
theorem un_lft {X : Cx} {pins : List (Addr × Obj)} {σ : St} {H H1 : Hp} {s : Shared} {h1 h2 : Heap} {xs : List Addr} (I : Inv X pins σ H s) (hex : X.ex = []) (hst : X.stack = X.env :: X.outer ∧ X.env.frame = some X.env.locals)
  (u : Un (frs X.stack) [] H H1 s.heap h1) (l : Lft (frs X.stack) xs h1 h2) (hx : ∀ b ∈ xs, X.s₀.heap.get? b = none) : Un (frs X.outer) [] X.H₀ H1 X.s₀.heap h2 := by
 have b0 := I.base
 rw [hex] at b0
 have nL : ∀ b o, X.s₀.heap.get? b = some o → b ≠ X.env.locals := fun b o e z => by
  have q := Heap.lt_size e
  rw [z] at q
  exact absurd q (Nat.not_lt.mpr I.ok.above)
 have nx : ∀ b o, X.s₀.heap.get? b = some o → b ∉ xs := fun b o e z => by rw [hx b z] at e; cases e
 have fs : frs X.stack = X.env.locals :: frs X.outer := by
  rw [hst.1]
  unfold frs
  rw [List.filterMap_cons, hst.2]
 have mem : ∀ b o, X.s₀.heap.get? b = some o → (b ∈ frs X.stack ↔ b ∈ frs X.outer) := fun b o e => by
  rw [fs, List.mem_cons]
  exact ⟨fun z => z.elim (fun y => absurd y (nL b o e)) id, .inr⟩
 have fdat : ∀ b ∈ frs X.outer, ∀ o, X.s₀.heap.get? b = some o → ∀ vs, o.data ≠ .fields vs := fun b hb o e => by
  obtain ⟨_, o', ho', hd'⟩ := I.ok.funs.mem hb
  rw [e] at ho'
  cases ho'
  exact hd'
 refine ⟨fun b o e n h1' _ => ?_, fun b o e n h1' _ => ?_, fun b o e n _ => ?_, fun b o e _ => ?_, fun b ys e => u.tups b ys (b0.tups b ys e), fun b o v e => u.frzs b o v (b0.frzs b o v e), fun b ps e => ?_⟩
 ·have e1 := b0.keep b o e n h1' (by simp)
  have n1 := b0.free b o e n (by simp)
  have hns : b ∉ frs X.stack := fun z => h1' ((mem b o e).mp z)
  exact l.keep b o (u.keep b o e1 n1 hns (by simp)) hns (nx b o e)
 ·obtain ⟨sl, e1⟩ := b0.slot b o e n h1' (by simp)
  have n1 := b0.free b o e n (by simp)
  have hs : b ∈ frs X.stack := (mem b o e).mpr h1'
  obtain ⟨sl2, e2⟩ := u.slot b _ e1 n1 hs (by simp)
  obtain ⟨sl3, e3⟩ := l.slot b _ e2 hs (fdat b h1' o e)
  exact ⟨sl3, e3⟩
 ·have n1 := b0.free b o e n (by simp)
  obtain ⟨o1, e1⟩ := b0.there b o e (by simp)
  exact u.free b o1 e1 n1 (by simp)
 ·obtain ⟨o1, e1⟩ := b0.there b o e (by simp)
  obtain ⟨o2, e2⟩ := u.there b o1 e1 (by simp)
  by_cases hs : b ∈ frs X.stack
  ·have ho : b ∈ frs X.outer := (mem b o e).mp hs
   have n0 := I.ok.frf b ho
   obtain ⟨sl, q1⟩ := b0.slot b o e n0 ho (by simp)
   have n1 := b0.free b o e n0 (by simp)
   obtain ⟨sl2, q2⟩ := u.slot b _ q1 n1 hs (by simp)
   obtain ⟨sl3, q3⟩ := l.slot b _ q2 hs (fdat b ho o e)
   exact ⟨_, q3⟩
  ·exact ⟨o2, l.keep b o2 e2 hs (nx b o e)⟩
 ·obtain ⟨m1, q1⟩ := b0.tbls b ps e
  obtain ⟨m2, q2⟩ := u.tbls b _ q1
  exact ⟨m1 ++ m2, by rw [q2, Array.append_assoc]⟩
theorem Un.id {fs : List Addr} {H : Hp} {h h' : Heap} (k : ∀ b o, h.get? b = some o → h'.get? b = some o) : Un fs [] H H h h' :=
 ⟨fun b o e _ _ _ => k b o e, fun b o e _ _ _ => ⟨o.slots, k b o e⟩, fun _ _ _ n _ => n, fun b o e _ => ⟨o, k b o e⟩, fun _ _ q => q, fun _ _ _ q => q, fun b ps q => ⟨#[], by rw [Array.append_empty]; exact q⟩⟩
theorem pass1 : Passes (CX1 P w) (cxOf (CX1 P w) P w K mg base N qual scope f cd A outer s0 H0 E) E := by
 rintro pins σ H s e s' I ⟨a, cls, dd, T, H', rfl, os, bare, un, hok, t, na, nT, ha, hT, q⟩
 have I1 : Inv _ pins σ H' s' := I.call' os un hok bare (fun b z => absurd z (by simp))
 have hsz : s0.heap.objs.size ≤ s.heap.objs.size := I.sz
 have old : ∀ {z : Addr}, s.heap.get? z = none → s0.heap.get? z = none := fun {z} hz => by
  cases q : s0.heap.get? z with
  | none => rfl
  | some o =>
   obtain ⟨o', e'⟩ := I.base.there z o q (show z ∉ ([] : List Addr) by simp)
   rw [hz] at e'
   cases e'
 show wpAny _ _ (leaving _ (.ref a)) _ _ _
 refine leave_next I1.ok.frames I1.stack rfl t fun h2 T2 l t2 hT2 => ?_
 have l' : Lft (frs (cxOf (CX1 P w) P w K mg base N qual scope f cd A outer s0 H0 E).stack) [a, T] s'.heap h2 := l
 have hx : ∀ b ∈ [a, T], s0.heap.get? b = none := by
  intro b hb
  simp only [List.mem_cons, List.not_mem_nil, or_false] at hb
  rcases hb with rfl | rfl
  ·exact old na
  ·exact old nT
 have hx' : ∀ b ∈ [a, T], H' b = none := by
  intro b hb
  simp only [List.mem_cons, List.not_mem_nil, or_false] at hb
  rcases hb with rfl | rfl
  ·exact ha
  ·exact hT
 have nT1 : s.heap.get? T2 = none := by
  cases z : s.heap.get? T2 with
  | none => rfl
  | some o =>
   obtain ⟨o2, e2⟩ := un.there T2 o z (by simp)
   rw [hT2] at e2
   cases e2
 have hT2' : H' T2 = none := by
  cases z : H' T2 with
  | none => rfl
  | some o =>
   obtain ⟨o', e'⟩ := (hok T2 o z).here
   rw [hT2] at e'
   cases e'
 refine ⟨a, cls, dd, T2, H', rfl, os.trans I.os, bare, ?_, hok.lft l' I1.stkFree hx', t2, old na, old nT1, ha, hT2', q⟩
 exact un_lft I rfl ⟨rfl, rfl⟩ un l' hx
end
theorem HOk.none {P : Program} {w : World} {H : Hp} {h : Heap} (x : HOk P w H h) {z : Addr} (n : h.get? z = Option.none) : H z = Option.none := by
 cases q : H z with
 | none => rfl
 | some o =>
  obtain ⟨u, e⟩ := (x z o q).here
  rw [n] at e
  cases e
theorem Inv.old {X : Cx} {pins : List (Addr × Obj)} {σ : St} {H : Hp} {s : Shared} (I : Inv X pins σ H s) (hex : X.ex = []) {z : Addr} (n : s.heap.get? z = none) : X.s₀.heap.get? z = none := by
 cases q : X.s₀.heap.get? z with
 | none => rfl
 | some o =>
  obtain ⟨u, e⟩ := I.base.there z o q (by rw [hex]; simp)
  rw [n] at e
  cases e
abbrev VB : List Value := [.type "ValueError", .type "Exception", .type "BaseException", .type "object"]
theorem exc_at {K : PySem.W.Frag} {h : Heap} {C : Addr} (X : K.In h) (q : PySem.W.excIn K C VB "ValueError.__new__" = true) :
  ∃ (bm : List Value) (N : Addr) (nm qn : Str) (bs : List Value) (hdct : Bool) (sn : List Str) (sub : List Value) (ab : Bool) (col : Option Bool) (dd : Option Addr) (k0 k1 k2 k3 k5 : Option Value) (mN : Str → Option Value),
   h.get? C = some (excClassObj nm qn C N bs bm hdct sn sub ab col dd k0 k1 k2 k3 k5 "ValueError.__new__") ∧ h.Ns N mN ∧ mN "__init__" = none ∧ OwnTail h VB bm := by
 unfold PySem.W.excIn at q
 split at q
 case h_2 => cases q
 case h_1 dd cd sl ho =>
  split at q
  case h_2 => cases q
  case h_1 C' bm k0 k1 k2 k3 n k5 hm hs =>
   obtain ⟨nm, bs, mro, ns, qn, hdt, sn, sub, ab, col, del⟩ := cd
   obtain ⟨l⟩ := sl
   simp only [Bool.and_eq_true, beq_iff_eq, Bool.not_eq_true'] at q
   obtain ⟨⟨⟨⟨⟨q1, q2⟩, q3⟩, q4⟩, q5⟩, q6⟩ := q
   subst q1 q2
   simp only at hm hs q3 q5 q6
   subst hm hs q3
   exact ⟨bm, ns, nm, qn, bs, hdt, sn, sub, ab, col, dd, k0, k1, k2, k3, k5, _, X _ _ ho, .of_isNs (PySem.W.isNs_of_in X q5), PySem.W.nsMap_none_of_in X q5 q6, PySem.W.tail_of_in X q4⟩
section
variable {P : Program} {w : World} {K : PySem.W.Frag} {mg : Str → Option Value} {base : Heap} {N : List Str} {qual : Str} {scope : Scope} {f : Addr} {cd : Value} {A : Around} {outer : List Env} {s0 : Shared} {H0 : Hp} {E : XK}
theorem ps_raise {x : Str} {C : Addr} {np cpos pos : Pos} (hg : Gl (cxOf (CX1 P w) P w K mg base N qual scope f cd A outer s0 H0 E) x) (hm : mg x = some (.ref C)) (q : PySem.W.excIn K C VB "ValueError.__new__" = true)
  (hdb : (x == ("__debug__" : Str)) = false := by decide) :
  PS (cxOf (CX1 P w) P w K mg base N qual scope f cd A outer s0 H0 E) (.Raise (some (.Call (.Name x np) [] [] cpos)) none pos) (fun _ _ H => E (.ref C) none H) := by
 intro pins s σ H D I h
 obtain ⟨bm, NS, nm, qn, bs, hdct, sn, sub, ab, col, dd, k0, k1, k2, k3, k5, mN, hC, hN, hni, T⟩ := exc_at I.kIn q
 refine wpAny_Raise_call_subT (C := C) (nm := nm) (q := qn) (N := NS) (bs := bs) (bm := bm) (hdct := hdct) (sn := sn) (sub := sub) (ab := ab) (col := col) (dd := dd) (k0 := k0) (k1 := k1) (k2 := k2) (k3 := k3) (k5 := k5) (mN := mN)
  PySem.F.excBase_ValueError (T.hasType PySem.F.excBase_ValueError.hasBase) (I.ok.hd rfl) rfl hni (ld_glob I hg hm ⟨rfl, evalArgs_empty ⟨rfl, Nat.zero_le _, hC, hN, T, fun h' e mk => ?_⟩⟩ hdb)
 obtain ⟨t, he, _, _⟩ := mk.there
 have I1 : Inv (cxOf (CX1 P w) P w K mg base N qual scope f cd A outer s0 H0 E) pins σ H { s with heap := h' } := I.kept (t' := s.toks) fun b o z => mk.keeps b o z
 show wpAny _ _ (leaving _ (.ref e)) _ _ _
 refine leave_first I1.ok.frames I1.stack rfl he rfl rfl fun h2 T2 l t2 nT => ?_
 have nT0 : s.heap.get? T2 = none := by
  cases z : s.heap.get? T2 with
  | none => rfl
  | some o =>
   have z2 := mk.keeps _ _ z
   have nT' : h'.get? T2 = none := nT
   rw [nT'] at z2
   cases z2
 have xe : ∀ b ∈ [e], b = e := fun b hb => List.mem_singleton.mp hb
 refine ⟨e, .ref C, none, T2, H, rfl, I.os, I.bare, ?_, I1.hok.lft l I1.stkFree fun b hb => by (rw [xe b hb]; exact I.hok.none mk.new), t2, I.old rfl mk.new, I.old rfl nT0, I.hok.none mk.new, I.hok.none nT0, h⟩
 exact un_lft I rfl ⟨rfl, rfl⟩ (Un.id mk.keeps) l fun b hb => by (rw [xe b hb]; exact I.old rfl mk.new)
end
end L2
set_option Elab.async false
set_option linter.all false
set_option maxRecDepth 100000
set_option maxHeartbeats 4000000
namespace L2
open PySem PySem.Spec PyProof.Rows PySem.W
section
variable {prog : Program} {w : World} {A : Around} {E : Value → Shared → Prop} {s : Shared} {K : PySem.W.Frag} {x D : Addr} {ox : Obj}
structure XIs (K : PySem.W.Frag) (D : Addr) : Prop where
 cl : (clsIn K D).isSome = true
 ga : findIn K (.ref D) "__getattribute__" = some (some (.builtin "BaseException.__getattribute__"))
 gt : findIn K (.ref D) "__getattr__" = some none
 ha : findIn K (.ref D) "__class__" = some (some (.builtin "object.__class__"))
 hn : specialIn K (.builtin "object.__class__") "__get__" = some (some (.builtin "getset_descriptor.__get__"))
 tk : takesIn K (.builtin "object.__class__") = some true
 hm : mroIn K D (.type "object") = some true
 hb : mroIn K D (.type "BaseException") = some true
end
end L2
set_option Elab.async false
set_option linter.all false
set_option maxRecDepth 100000
set_option maxHeartbeats 4000000
namespace L2
open PySem PySem.Spec PyProof.Rows
structure Away (X : Cx) (pins : List (Addr × Obj)) (H : Hp) (b : Addr) : Prop where
 n : H b = none
 z : X.s₀.heap.get? b = none
 l : b ≠ X.env.locals
 c : ∀ x c, X.env.cells.lookup x = some c → c ≠ b
 p : ∀ p ∈ X.pn ++ pins, p.1 ≠ b
section
variable {X : Cx} {pins : List (Addr × Obj)} {σ : St} {H : Hp} {s : Shared} {h2 : Heap} {xs : List Addr}
theorem Inv.away (I : Inv X pins σ H s) (hex : X.ex = []) {b : Addr} (h : s.heap.get? b = none) : Away X pins H b where
 n := I.hok.none h
 z := I.old hex h
 l := fun e => by
  obtain ⟨m, ⟨o, _, _, ho, _⟩, _⟩ := I.loc
  rw [e, ho] at h
  cases h
 c := fun x c e z => by
  obtain ⟨v, o, ho, _⟩ := I.cell x c e
  rw [z, h] at ho
  cases ho
 p := fun p hp z => by
  have q := (I.pin p hp).1
  rw [z, h] at q
  cases q
theorem Inv.lft (I : Inv X pins σ H s) (hex : X.ex = []) (hst : X.stack = X.env :: X.outer ∧ X.env.frame = some X.env.locals) (l : Lft (frs X.stack) xs s.heap h2) (hx : ∀ b ∈ xs, Away X pins H b) :
  Inv X pins σ H { s with heap := h2 } := by
 have fsm : ∀ b, b ∈ frs X.stack ↔ b = X.env.locals ∨ b ∈ frs X.outer := fun b => by
  rw [hst.1]
  unfold frs
  rw [List.filterMap_cons, hst.2]
  exact List.mem_cons
 have un := un_lft I hex hst (Un.id (H := H) (fs := frs X.stack) fun b o e => e) l fun b hb => (hx b hb).z
 obtain ⟨m, hn, hl⟩ := I.loc
 obtain ⟨oL, es, ep, ho, hd, hr⟩ := id hn
 have nL : X.env.locals ∉ xs := fun z => (hx _ z).l rfl
 obtain ⟨sl, hL⟩ := l.slot _ oL ho ((fsm _).mpr (.inl rfl)) fun vs q => by rw [hd] at q; cases q
 have cell : ∀ x c v, X.env.cells.lookup x = some c → s.heap.IsCell c v → h2.IsCell c v := by
  rintro x c v e ⟨o, q, d⟩
  have nc : c ∉ xs := fun z => (hx c z).c x c e rfl
  by_cases hf : c ∈ frs X.stack
  ·obtain ⟨sl, z⟩ := l.slot c o q hf fun vs y => by rw [d] at y; cases y
   exact ⟨_, z, d⟩
  ·exact ⟨o, l.keep c o q hf nc, d⟩
 refine ⟨I.ok, I.os, I.bare, by rw [hex]; exact un, ⟨m, ⟨_, es, ep, hL, hd, hr⟩, fun i x v e1 e2 e3 => ?_⟩, fun x c e => ?_, I.free, I.freeC, fun p hp => ?_, I.hok.lft l I.stkFree fun b hb => (hx b hb).n, I.len⟩
 ·obtain ⟨u, r, k⟩ := hl i x v e1 e2 e3
  refine ⟨u, r, k.imp id (by rintro ⟨k, c, e, z⟩; exact ⟨k, c, e, cell x c _ e z⟩)⟩
 ·obtain ⟨v, z⟩ := I.cell x c e
  exact ⟨v, cell x c v e z⟩
 ·obtain ⟨e, n, ne, nf, d⟩ := I.pin p hp
  exact ⟨l.keep _ _ e (fun z => ((fsm _).mp z).elim ne nf) fun z => (hx _ z).p p hp rfl, n, ne, nf, d⟩
theorem Inv.track (I : Inv X pins σ H s) (hex : X.ex = []) {a : Addr} {o : HO} (aw : Away X pins H a) (ok : ObjOk X.prog X.w (upd H a o) s.heap a o) : Inv X pins σ (upd H a o) s := by
 have ne : ∀ {b : Addr} {u : HO}, H b = some u → b ≠ a := fun h => ne_of_none h aw.n
 refine ⟨I.ok, I.os, I.bare, ⟨I.base.keep, I.base.slot, fun b u e n hx => ?_, I.base.there, fun b ys e => ?_, fun b u v e => ?_, fun b ps e => ?_⟩, I.loc, I.cell, ?_, fun x c e => ?_, fun p hp => ?_, fun b u e => ?_, I.len⟩
 ·rw [upd_ne (fun z => by rw [z, aw.z] at e; cases e)]
  exact I.base.free b u e n hx
 ·have q := I.base.tups b ys e
  rw [upd_ne (ne q)]
  exact q
 ·have q := I.base.frzs b u v e
  rw [upd_ne (ne q)]
  exact q
 ·obtain ⟨m, q⟩ := I.base.tbls b ps e
  exact ⟨m, by rw [upd_ne (ne q)]; exact q⟩
 ·rw [upd_ne aw.l.symm]
  exact I.free
 ·rw [upd_ne (aw.c x c e)]
  exact I.freeC x c e
 ·obtain ⟨e, n, r⟩ := I.pin p hp
  exact ⟨e, by rw [upd_ne (aw.p p hp)]; exact n, r⟩
 ·by_cases hb : b = a
  ·subst hb
   rw [upd_same] at e
   cases e
   exact ok
  ·rw [upd_ne hb] at e
   refine (I.hok b u e).stay (fun _ _ _ q => q) (fun c q => ?_) fun c ys q => ?_
   ·rw [upd_ne (ne q)]; exact q
   ·rw [upd_ne (ne q)]; exact q
theorem Inv.goes {M : Model} {A : Around} {E : Value → Shared → Prop} {i : Nat} {n : Str} {pos : Pos} {Q : Unit → Shared → Prop} (I : Inv X pins σ H s) (hN : X.N.Nodup) (hi : X.N[i]? = some n) (hk : X.env.scope.names.lookup n = some .local)
  (hQ : ∀ s', Inv X pins (σ.set i none) H s' → Q () s') : wpAny M A (do bindName X.env n .none; unbindBehindTheSuite X.env n pos) Q E s := by
 have hiσ : i < σ.length := by rw [I.len]; exact (List.getElem?_eq_some_iff.mp hi).1
 refine wpAny_bind (wpAny_bindName (store_ok I hN hi (.inl hk) (v := .non) (u := .none) rfl (fun s1 I1 => ?_) (.inr hk)))
 unfold unbindBehindTheSuite
 refine wpAny_onRaise ?_
 obtain ⟨m, hn, hl⟩ := I1.loc
 have hs : (σ.set i (some V.non))[i]? = some (some V.non) := List.getElem?_set_self hiσ
 obtain ⟨u, r, k⟩ := hl i n .non hi hs (.inl hk)
 have hu : m n = some u := by
  rcases k with k | ⟨k, _⟩
  ·exact k.2
  ·have k' : X.env.scope.names.lookup n = some .cell ∨ X.env.scope.names.lookup n = some .free := k
   rw [hk] at k'
   rcases k' with z | z <;> cases z
 refine wpAny_unbindName_local hk hn hu (by rw [I.ok.kind]; rfl) fun h' u' hn' sb => hQ _ ?_
 obtain ⟨oL, _, _, hoL, _⟩ := id hn
 have cne := I1.cne
 refine ⟨I1.ok, I1.os, I1.bare, ⟨fun b o e n hb hx => ?_, fun b o e n hb hx => ?_, I1.base.free, fun b o e hx => ?_, I1.base.tups, I1.base.frzs, I1.base.tbls⟩, ⟨_, hn', fun j y v' e1 e2 e3 => ?_⟩, fun y c e => ?_, I1.free, I1.freeC, fun p hp => ?_, fun b ob e => ?_, by rw [List.length_set, I.len]⟩
 ·exact (sb.2 b (Nat.ne_of_lt (Nat.lt_of_lt_of_le (Heap.lt_size e) I.ok.above))).trans (I1.base.keep b o e n hb hx)
 ·obtain ⟨sl, e1⟩ := I1.base.slot b o e n hb hx
  exact ⟨sl, (sb.2 b (Nat.ne_of_lt (Nat.lt_of_lt_of_le (Heap.lt_size e) I.ok.above))).trans e1⟩
 ·obtain ⟨o', e1⟩ := I1.base.there b o e hx
  exact ⟨o', (sb.2 b (Nat.ne_of_lt (Nat.lt_of_lt_of_le (Heap.lt_size e) I.ok.above))).trans e1⟩
 ·by_cases hj : j = i
  ·subst hj
   rw [List.getElem?_set_self hiσ] at e2
   cases e2
  ·rw [List.getElem?_set_ne (Ne.symm hj)] at e2
   have e2' : (σ.set i (some V.non))[j]? = some (some v') := by rw [List.getElem?_set_ne (Ne.symm hj)]; exact e2
   obtain ⟨w', r', q⟩ := hl j y v' e1 e2' e3
   refine ⟨w', r', ?_⟩
   rcases q with ⟨k, e⟩ | ⟨k, c, e, z⟩
   ·refine .inl ⟨k, ?_⟩
    have : y ≠ n := fun e => hj (nodup_ix hN e1 (e ▸ hi))
    simp [this, e]
   ·exact .inr ⟨k, c, e, z.sameBut sb (cne y c e)⟩
 ·obtain ⟨w', z⟩ := I1.cell y c e
  exact ⟨w', z.sameBut sb (cne y c e)⟩
 ·obtain ⟨e, n, ne, nf, d⟩ := I1.pin p hp
  exact ⟨(sb.2 p.1 ne).trans e, n, ne, nf, d⟩
 ·refine (I1.hok b ob e).stay (fun c w' hc q => (sb.2 c ?_).trans q) (fun _ q => q) fun _ _ q => q
  rintro rfl
  rcases hc with rfl | hc
  ·rw [I1.free] at e; cases e
  ·rw [I1.free] at hc; cases hc
end
abbrev Cx.held (X : Cx) (pins : List (Addr × Obj)) : Cx := { X with pn := X.pn ++ pins }
abbrev Cx.marked (X : Cx) (v : Value) : Cx := { X with A := X.A.mark (some v), calm := false, xe := fun _ _ => False }
def XW (X : Cx) (ex : St → XK) (e : Value) (s : Shared) : Prop := ∃ (pins : List (Addr × Obj)) (σ : St) (a : Addr) (cls : Value) (dd : Option Addr) (T : Addr) (H : Hp), e = .ref a ∧ Inv X pins σ H s ∧ Trc s.heap a cls dd T ∧ Away X pins H a ∧ Away X pins H T ∧ ex σ cls dd H
section
variable {X : Cx} {pins pins' : List (Addr × Obj)} {σ : St} {H : Hp} {s : Shared}
theorem Inv.held (I : Inv X pins σ H s) : Inv (X.held pins) [] σ H s :=
 ⟨⟨I.ok.mod, I.ok.kind, I.ok.glob, I.ok.blt, I.ok.above, I.ok.inj, I.ok.has, I.ok.cab, I.ok.hd, I.ok.frames, I.ok.stk, I.ok.exf, I.ok.bs, I.ok.bsz, I.ok.noex, I.ok.exfs, I.ok.funs, I.ok.frf⟩, I.os, I.bare, I.base, I.loc, I.cell, I.free, I.freeC,
  fun p hp => I.pin p (by rwa [List.append_nil] at hp), I.hok, I.len⟩
theorem Inv.unheld (I : Inv (X.held pins) pins' σ H s) : Inv X pins σ H s :=
 ⟨⟨I.ok.mod, I.ok.kind, I.ok.glob, I.ok.blt, I.ok.above, I.ok.inj, I.ok.has, I.ok.cab, I.ok.hd, I.ok.frames, I.ok.stk, I.ok.exf, I.ok.bs, I.ok.bsz, I.ok.noex, I.ok.exfs, I.ok.funs, I.ok.frf⟩, I.os, I.bare, I.base, I.loc, I.cell, I.free, I.freeC,
  fun p hp => I.pin p (List.mem_append_left _ hp), I.hok, I.len⟩
theorem Inv.marked {v : Value} (I : Inv X pins σ H s) : Inv (X.marked v) pins σ H s :=
 ⟨⟨I.ok.mod, I.ok.kind, I.ok.glob, I.ok.blt, I.ok.above, I.ok.inj, I.ok.has, I.ok.cab, (fun z => Bool.noConfusion z), I.ok.frames, I.ok.stk, I.ok.exf, I.ok.bs, I.ok.bsz, I.ok.noex, I.ok.exfs, I.ok.funs, I.ok.frf⟩, I.os, I.bare, I.base, I.loc, I.cell, I.free, I.freeC, I.pin, I.hok, I.len⟩
theorem Inv.unmarked {v : Value} (hc : X.calm = true) (hh : X.A.handled = none) (I : Inv (X.marked v) pins σ H s) : Inv X pins σ H s :=
 ⟨⟨I.ok.mod, I.ok.kind, I.ok.glob, I.ok.blt, I.ok.above, I.ok.inj, I.ok.has, I.ok.cab, fun _ => hh, I.ok.frames, I.ok.stk, I.ok.exf, I.ok.bs, I.ok.bsz, I.ok.noex, I.ok.exfs, I.ok.funs, I.ok.frf⟩, I.os, I.bare, I.base, I.loc, I.cell, I.free, I.freeC, I.pin, I.hok, I.len⟩
end
def tMethX (C : Addr) (m : Str) (sp : Sp) (ex : St → XK) (ta : TE) (t : TA) : TE := fun σ H Q => ta σ H fun x H1 => ∃ a dx fs, x = .ref a ∧ H1 a = some (.ins C dx fs) ∧ fs.lookup m = none ∧ t σ H1 fun vs H2 => sp (x :: (vs ++ [])) H2 Q (ex σ)
section
variable {X : Cx} {ex : St → XK} {C : Addr} {m qual : Str} {st : Stmt} {ps : List Str} {k : Nat} {sp : Sp} {o e : Expr} {es : List Expr} {ta : TE} {t : TA} {apos pos : Pos}
theorem run_x {f : Addr} {fd : FuncData} {pins : List (Addr × Obj)} {σ : St} {H : Hp} {s : Shared} {Q : VK} {us : List Value} {vs : List V} (hex : X.ex = []) (F : FnOk X.prog X.w X.K X.mg X.base (CX1 X.prog X.w) k f fd ps sp) (hr : Room k X.A) (hb : Binds X.K fd ps [])
  (I : Inv (X.wish (XW X ex)) pins σ H s) (r : Vals vs us) (h : sp (vs ++ []) H Q (ex σ)) : wpAny (model X.prog X.w) X.A (call (.ref f) us) (EP (X.wish (XW X ex)) pins σ Q) (XW X ex) s := by
 have r2 : Vals (vs ++ []) (us ++ []) := r.append .nil
 have hl : (us ++ []).length = ps.length := by rw [← r2.length]; exact F.len _ _ _ _ h
 refine wpAny_call (codeAny_mono (F.run X.A X.stack s H ⟨us, []⟩ (us ++ []) (vs ++ []) Q (ex σ) hr I.env0 (hb s us I.kIn hl) r2 h) fun r s' hq => ?_)
 cases r with
 | error e =>
  obtain ⟨a, cls, dd, T, H', rfl, os, bare, un, hok, t, na, nT, ha, hT, q⟩ := hq
  have I0 := I.unwish
  have I1 : Inv X pins σ H' s' := I0.call' os un hok bare (fun b z => absurd z (by simp))
  have A1 := I0.away hex na
  have A2 := I0.away hex nT
  exact ⟨pins, σ, a, cls, dd, T, H', rfl, I1, t, ⟨ha, A1.z, A1.l, A1.c, A1.p⟩, ⟨hT, A2.z, A2.l, A2.c, A2.p⟩, q⟩
 | ok fl =>
  cases fl with
  | ret u => exact I.after hq
  | next => exact False.elim hq
  | brk => exact False.elim hq
  | cont => exact False.elim hq
end
section
variable {X : Cx} {K : PySem.W.Frag}
end
section
variable {P : Program} {w : World} {K : PySem.W.Frag} {mg : Str → Option Value} {base : Heap}
theorem Fun.ok1 {x qual : Str} {st : Stmt} {f : Addr} {fd : FuncData} {N ps : List Str} {k : Nat} {sp : Sp} (F : Fun K x qual st f fd) (S : FnScope N ps (defScope st)) (len : ∀ vs H Q E, sp vs H Q E → vs.length = ps.length)
  (body : ∀ (cdv : Value) (A : Around) (outer : List Env) (s : Shared) (H : Hp) (vs : List V) (Q : VK) (E : XK), Room k (A.deeper (envOfC qual (defScope st) s.heap.objs.size f cdv)) → sp vs H Q E →
   ∃ t, PSs (cxOf (CX1 P w) P w K mg base N qual (defScope st) f cdv A outer s H E) (defBody st) t ∧ t { nx := fun _ H' => Q .non H', rt := Q } (start N vs) H) : FnOk P w K mg base (CX1 P w) (k + 1) f fd ps sp := by
 obtain ⟨oc, od, kV, doc, pm, an, cdv, ct, osl, e1, lk, hcd⟩ := F.ex
 subst e1
 exact fn_of lk hcd S len fun A outer s H vs Q E hr hsp => body cdv A outer s H vs Q E hr hsp
end
section
variable {P : Program} {w : World} {K : PySem.W.Frag} {mg : Str → Option Value} {base : Heap} {N : List Str} {qual q2 : Str} {scope : Scope} {f : Addr} {cd : Value} {A : Around} {outer : List Env} {s0 : Shared} {H0 : Hp} {E : XK}
 {C : Addr} {m : Str} {st : Stmt} {ps : List Str} {k : Nat} {sp : Sp} {o e : Expr} {es : List Expr} {ta : TE} {t : TA} {apos pos : Pos}
theorem pe_mown1 {pl : Sem Bool} {F : Mx K C m q2 st ps} (c : Cls K C) (G : FnOk P w K mg base (CX1 P w) k F.f F.fd ps sp) (hr : Room k (cxOf (CX1 P w) P w K mg base N qual scope f cd A outer s0 H0 E).A)
  (ho : PE (cxOf (CX1 P w) P w K mg base N qual scope f cd A outer s0 H0 E) o ta) (ha : PA (cxOf (CX1 P w) P w K mg base N qual scope f cd A outer s0 H0 E) (e :: es) t)
  (hst : starEach (e :: es) (cxOf (CX1 P w) P w K mg base N qual scope f cd A outer s0 H0 E).env = (false, eval e (cxOf (CX1 P w) P w K mg base N qual scope f cd A outer s0 H0 E).env) :: starEach es (cxOf (CX1 P w) P w K mg base N qual scope f cd A outer s0 H0 E).env := by rfl)
  (hpl : (backTo pos (starEach es (cxOf (CX1 P w) P w K mg base N qual scope f cd A outer s0 H0 E).env)).any (·.1) = false := by rfl)
  (ht : eval (.Call (.Attribute o m apos) (e :: es) [] pos) (cxOf (CX1 P w) P w K mg base N qual scope f cd A outer s0 H0 E).env = (do
   let ov ← eval o (cxOf (CX1 P w) P w K mg base N qual scope f cd A outer s0 H0 E).env
   standAt apos.atName
   let (fv, first) ← holding [ov] (getMethod ov m pl)
   callWith pos fv first (backTo pos (starEach (e :: es) (cxOf (CX1 P w) P w K mg base N qual scope f cd A outer s0 H0 E).env)) (backToKw pos (keywordEach [] (cxOf (CX1 P w) P w K mg base N qual scope f cd A outer s0 H0 E).env))) := by rfl) :
  PE (cxOf (CX1 P w) P w K mg base N qual scope f cd A outer s0 H0 E) (.Call (.Attribute o m apos) (e :: es) [] pos) (tMeth C m sp [] E ta t) := pe_meth ho c F.me G hr F.bi .nil pass1 ha hst hpl ht
theorem pe_mown10 {pl : Sem Bool} {F : Mx K C m q2 st ps} (c : Cls K C) (G : FnOk P w K mg base (CX1 P w) k F.f F.fd ps sp) (hr : Room k (cxOf (CX1 P w) P w K mg base N qual scope f cd A outer s0 H0 E).A)
  (ho : PE (cxOf (CX1 P w) P w K mg base N qual scope f cd A outer s0 H0 E) o ta)
  (ht : eval (.Call (.Attribute o m apos) [] [] pos) (cxOf (CX1 P w) P w K mg base N qual scope f cd A outer s0 H0 E).env = (do
   let ov ← eval o (cxOf (CX1 P w) P w K mg base N qual scope f cd A outer s0 H0 E).env
   standAt apos.atName
   let (fv, first) ← holding [ov] (getMethod ov m pl)
   callWith pos fv first (backTo pos (starEach [] (cxOf (CX1 P w) P w K mg base N qual scope f cd A outer s0 H0 E).env)) (backToKw pos (keywordEach [] (cxOf (CX1 P w) P w K mg base N qual scope f cd A outer s0 H0 E).env))) := by rfl) :
  PE (cxOf (CX1 P w) P w K mg base N qual scope f cd A outer s0 H0 E) (.Call (.Attribute o m apos) [] [] pos) (tMeth C m sp [] E ta tNil) := pe_meth0 ho c F.me G hr F.bi .nil pass1 ht
end
end L2
set_option Elab.async false
set_option linter.all false
set_option maxRecDepth 100000
set_option maxHeartbeats 4000000
namespace L2
open PySem PySem.Spec PyProof.Rows
section
variable {X : Cx} {a : Addr} {ks : List Str}
variable {w : World} {K : PySem.W.Frag}
end
end L2
set_option Elab.async false
set_option linter.all false
set_option maxRecDepth 100000
set_option maxHeartbeats 4000000
namespace L2
open PySem PySem.Spec PyProof.Rows
structure Tb (t : SetTable) : Prop where
 mask : t.mask = 7
 dum : t.dummies = #[]
 few : t.place.size ≤ 5
theorem leap_run (t : SetTable) (T : Tb t) (p : SetTable.Probe) (h : p.more = 0) :
  (t.advance p).more = 0 ∧ (t.advance p).j = (p.i * 5 + 1 + p.perturb / 32) % 8 ∧ (t.advance p).i = (p.i * 5 + 1 + p.perturb / 32) % 8 ∧ (t.advance p).perturb = p.perturb / 32 ∧ (t.advance p).dummy = p.dummy := by
 unfold SetTable.advance
 rw [if_neg (by omega), T.mask]
 unfold SetTable.leap
 refine ⟨?_, rfl, rfl, rfl, rfl⟩
 show SetTable.runEnd 7 _ - _ = 0
 unfold SetTable.runEnd
 split <;> omega
def adv (t : SetTable) : Nat → SetTable.Probe → SetTable.Probe
 | 0, p => p
 | n + 1, p => adv t n (t.advance p)
theorem adv_succ (t : SetTable) : ∀ (n : Nat) (p : SetTable.Probe), adv t (n + 1) p = t.advance (adv t n p)
 | 0, _ => rfl
 | n + 1, p => adv_succ t n (t.advance p)
theorem adv_add (t : SetTable) : ∀ (n m : Nat) (p : SetTable.Probe), adv t (n + m) p = adv t m (adv t n p)
 | 0, m, p => by rw [Nat.zero_add]; rfl
 | n + 1, m, p => by rw [Nat.succ_add]; exact adv_add t n m (t.advance p)
theorem adv_more {t : SetTable} (T : Tb t) : ∀ (n : Nat) {p : SetTable.Probe}, p.more = 0 → (adv t n p).more = 0
 | 0, _, h => h
 | n + 1, _, h => adv_more T n (leap_run t T _ h).1
theorem adv_dummy {t : SetTable} (T : Tb t) : ∀ (n : Nat) {p : SetTable.Probe}, p.more = 0 → (adv t n p).dummy = p.dummy
 | 0, _, h => rfl
 | n + 1, _, h => (adv_dummy T n (leap_run t T _ h).1).trans (leap_run t T _ h).2.2.2.2
theorem adv_perturb {t : SetTable} (T : Tb t) : ∀ (n : Nat) {p : SetTable.Probe}, p.more = 0 → (adv t n p).perturb = p.perturb / 32 ^ n
 | 0, p, _ => by rw [Nat.pow_zero, Nat.div_one]; rfl
 | n + 1, p, h => by
  show (adv t n (t.advance p)).perturb = _
  rw [adv_perturb T n (leap_run t T _ h).1, (leap_run t T _ h).2.2.2.1, Nat.div_div_eq_div_mul, Nat.pow_succ, Nat.mul_comm]
def cyc : Nat → Nat → Nat
 | 0, i => i
 | n + 1, i => cyc n ((i * 5 + 1) % 8)
theorem adv_cyc {t : SetTable} (T : Tb t) : ∀ (n : Nat) {p : SetTable.Probe}, p.more = 0 → p.perturb = 0 → (adv t n p).i = cyc n p.i
 | 0, _, _, _ => rfl
 | n + 1, p, h, h0 => by
  obtain ⟨a, _, c, d, _⟩ := leap_run t T p h
  show (adv t n (t.advance p)).i = cyc n ((p.i * 5 + 1) % 8)
  rw [adv_cyc T n a (by rw [d, h0]), c, h0]
theorem cyc_all : ∀ i, i < 8 → ∀ j, j < 8 → ∃ n, n < 8 ∧ cyc n i = j := by decide +kernel
theorem adv_i {t : SetTable} (T : Tb t) {p : SetTable.Probe} (h : p.more = 0) (n : Nat) : (adv t (n + 1) p).j = (adv t (n + 1) p).i ∧ (adv t (n + 1) p).i < 8 := by
 rw [adv_succ]
 obtain ⟨_, b, c, _⟩ := leap_run t T _ (adv_more T n h)
 rw [b, c]
 exact ⟨rfl, Nat.mod_lt _ (by decide)⟩
theorem adv_meets {t : SetTable} (T : Tb t) {p : SetTable.Probe} (h : p.more = 0) (hb : p.perturb < 2 ^ 64) {j : Nat} (hj : j < 8) : ∃ n, n ≤ 22 ∧ (adv t n p).j = j := by
 have h14 := adv_i T h 13
 have z : (adv t 14 p).perturb = 0 := by
  rw [adv_perturb T 14 h]
  exact Nat.div_eq_of_lt (Nat.lt_of_lt_of_le hb (by decide))
 obtain ⟨n, hn, e⟩ := cyc_all _ h14.2 j hj
 refine ⟨14 + n, by omega, ?_⟩
 have e2 : (adv t (14 + n) p).i = j := by rw [adv_add, adv_cyc T n (adv_more T 14 h) z, e]
 have e3 := (adv_i T h (13 + n)).1
 rw [show 13 + n + 1 = 14 + n by omega] at e3
 rw [e3, e2]
theorem slot_empty {t : SetTable} (T : Tb t) {j : Nat} (h : j ∉ t.place.toList) : t.slot j = .empty := by
 unfold SetTable.slot
 have h1 : ¬ (t.place[SetTable.below t.place j]? == some j) = true := fun e => by
  rw [beq_iff_eq] at e
  exact h (by rw [← Array.getElem?_toList] at e; exact List.mem_of_getElem? e)
 have h2 : SetTable.has t.dummies j = false := by
  unfold SetTable.has
  rw [T.dum]
  rfl
 dsimp only
 rw [if_neg h1, h2]
 rfl
theorem slot_cases {t : SetTable} (T : Tb t) (j : Nat) : t.slot j = .empty ∨ ∃ i, t.slot j = .live i ∧ i < t.place.size := by
 unfold SetTable.slot
 dsimp only
 by_cases h1 : (t.place[SetTable.below t.place j]? == some j) = true
 ·rw [if_pos h1]
  rw [beq_iff_eq] at h1
  exact .inr ⟨_, rfl, (Array.getElem?_eq_some_iff.mp h1).1⟩
 ·rw [if_neg h1]
  have h2 : SetTable.has t.dummies j = false := by
   unfold SetTable.has
   rw [T.dum]
   rfl
  rw [h2]
  exact .inl rfl
theorem free_place : ∀ (l : List Nat), l.length ≤ 5 → ∃ j, j < 8 ∧ j ∉ l := by
 intro l hl
 refine Classical.byContradiction fun hn => ?_
 have sub : ∀ j, j < 8 → j ∈ l := fun j hj => Classical.byContradiction fun h => hn ⟨j, hj, h⟩
 have key : ∀ (k : Nat) (m : List Nat), (∀ j, j < k → j ∈ m) → k ≤ m.length := by
  intro k
  induction k with
  | zero => intro m _; omega
  | succ k ih =>
   intro m hm
   have h1 := ih (m.erase k) fun j hj => (List.mem_erase_of_ne (by omega)).mpr (hm j (by omega))
   have h2 := List.length_erase_of_mem (hm k (by omega))
   have h3 := List.length_pos_of_mem (hm k (by omega))
   omega
 have := key 8 l sub
 omega
theorem adv_ends {t : SetTable} (T : Tb t) {p : SetTable.Probe} (h : p.more = 0) (hb : p.perturb < 2 ^ 64) : ∃ n, n ≤ 22 ∧ t.slot (adv t n p).j = .empty := by
 obtain ⟨j, hj, hm⟩ := free_place t.place.toList (by rw [Array.length_toList]; exact T.few)
 obtain ⟨n, hn, e⟩ := adv_meets T h hb hj
 exact ⟨n, hn, by rw [e]; exact slot_empty T hm⟩
theorem go_meets {t : SetTable} (T : Tb t) {hashAt : Nat → Int} {h : Int} : ∀ (n fuel : Nat) (p : SetTable.Probe), p.more = 0 → p.dummy = none → t.slot (adv t n p).j = .empty → n < fuel →
  (∃ j, SetTable.probe.go t hashAt h fuel p = some (.empty j none)) ∨
   ∃ m j i, m < n ∧ SetTable.probe.go t hashAt h fuel p = some (.candidate j i (adv t (m + 1) p)) ∧ t.slot j = .live i ∧ i < t.place.size ∧ hashAt i = h
 | n, 0, p, _, _, _, hf => absurd hf (Nat.not_lt_zero _)
 | 0, fuel + 1, p, hm, hd, he, _ => by
  refine .inl ⟨p.j, ?_⟩
  unfold SetTable.probe.go
  rw [show t.slot p.j = .empty from he, hd]
 | n + 1, fuel + 1, p, hm, hd, he, hf => by
  unfold SetTable.probe.go
  rcases slot_cases T p.j with e | ⟨i, e, hi⟩
  ·rw [e, hd]
   exact .inl ⟨_, rfl⟩
  ·rw [e]
   dsimp only
   by_cases hh : (hashAt i == h) = true
   ·rw [if_pos hh]
    exact .inr ⟨0, _, _, by omega, rfl, e, hi, by simpa using hh⟩
   ·rw [if_neg hh]
    obtain ⟨a, _, _, _, d⟩ := leap_run t T p hm
    rcases go_meets T n fuel (t.advance p) a (d.trans hd) he (by omega) with ⟨j, x⟩ | ⟨m, j, i', hm', x⟩
    ·exact .inl ⟨j, x⟩
    ·exact .inr ⟨m + 1, j, i', by omega, x⟩
end L2
set_option Elab.async false
set_option linter.all false
set_option maxRecDepth 100000
set_option maxHeartbeats 4000000
namespace L2
open PySem PySem.Spec PyProof.Rows
section
variable {P : Program} {w : World} {κ : Type} [DecidableEq κ] {knd : PySem.KeyKind P w κ} {A : Around} {E : Value → Shared → Prop} {s : Shared}
theorem byv_flat {v : Value} (h : carriedByValue v = true) (n : Nat) : (∃ b, hashByValue n v = pure b) ∧ ofAClassStatement n v = pure false := by
 cases v <;> first
  | (exact absurd h Bool.false_ne_true)
  | (cases n <;> exact ⟨⟨_, rfl⟩, rfl⟩)
theorem cls_tuple {ks : List κ} {a : Addr} {Q : Bool → Shared → Prop} (hk : IsTupleKey knd s.heap ks a) (q : Q false s) : wpAny (model P w) A (ofAClassStatement 8 (.ref a)) Q E s := by
 have ty := hk.typeIs
 obtain ⟨o, its, n, ho, _, hd, hi⟩ := hk
 unfold ofAClassStatement
 refine wpAny_bind (wpAny_typeOf ty ?_)
 simp only [beq_self_eq_true, if_true]
 refine wpAny_bind (wpAny_pure ?_)
 simp only [Bool.not_true, Bool.false_eq_true, if_false]
 refine wpAny_bind (wpAny_seqItems ho hd ?_)
 dsimp only
 refine wpAny_bind ?_
 rw [← Array.forIn_toList]
 refine wpAny_forIn_list _ (fun left r s' => r.1 = none ∧ s' = s ∧ ∀ v ∈ left, carriedByValue v = true) _ ?_ ?_ _ _ ⟨rfl, rfl, hi.byValue⟩
 ·rintro v left r s' ⟨hr, rfl, all⟩
  rw [(byv_flat (all v List.mem_cons_self) _).2]
  refine wpAny_bind (wpAny_pure ?_)
  rw [if_neg (by decide)]
  exact wpAny_pure ⟨rfl, rfl, fun u hu => all u (List.mem_cons_of_mem _ hu)⟩
 ·rintro ⟨r1, r2⟩ s' ⟨hr, rfl, _⟩
  dsimp only at hr
  subst hr
  exact wpAny_pure q
theorem byv_tuple {ks : List κ} {a : Addr} {Q : Bool → Shared → Prop} (hk : IsTupleKey knd s.heap ks a) (q : ∀ b, Q b s) : wpAny (model P w) A (hashByValue 8 (.ref a)) Q E s := by
 have ty := hk.typeIs
 obtain ⟨o, its, n, ho, _, hd, hi⟩ := hk
 unfold hashByValue
 refine wpAny_bind (wpAny_specialOf ty F.slot_tuple_hash.lookup ?_)
 dsimp only
 refine wpAny_bind (wpAny_seqItems ho hd ?_)
 refine wpAny_bind ?_
 show wpAny _ _ (forIn its _ _) _ _ s
 rw [← Array.forIn_toList]
 refine wpAny_forIn_list _ (fun left r s' => s' = s ∧ ∀ v ∈ left, carriedByValue v = true) _ ?_ ?_ _ _ ⟨rfl, hi.byValue⟩
 ·rintro v left r s' ⟨rfl, all⟩
  obtain ⟨b, e⟩ := (byv_flat (all v List.mem_cons_self) 7).1
  rw [e]
  refine wpAny_bind (wpAny_pure ?_)
  cases b
  ·rw [if_pos (by decide)]
   exact wpAny_pure (wpAny_pure (q _))
  ·rw [if_neg (by decide)]
   exact wpAny_pure ⟨rfl, fun u hu => all u (List.mem_cons_of_mem _ hu)⟩
 ·rintro ⟨r1, r2⟩ s' ⟨rfl, _⟩
  cases r1 with
  | none => exact wpAny_pure (q _)
  | some b => exact wpAny_pure (q _)
theorem seen_tuple {k : List κ} {x : Addr} {Q : Bool → Shared → Prop} {st : List Value} (hk : IsTupleKey knd s.heap k x) (hs : ∀ v ∈ st, ∃ y k', v = .ref y ∧ IsTupleKey knd s.heap k' y) (q : Q false s) :
  wpAny (model P w) A (searchCouldBeSeen (.ref x) st) Q E s := by
 unfold searchCouldBeSeen
 refine wpAny_bind ?_
 refine wpAny_forIn_list _ (fun left r s' => r.1 = none ∧ s' = s ∧ ∀ v ∈ left, ∃ y k', v = .ref y ∧ IsTupleKey knd s.heap k' y) _ ?_ ?_ _ _ ⟨rfl, rfl, hs⟩
 ·rintro v left r s' ⟨hr, rfl, all⟩
  obtain ⟨y, k', rfl, hy⟩ := all v List.mem_cons_self
  have nx : ∀ u ∈ left, ∃ y k', u = .ref y ∧ IsTupleKey knd s'.heap k' y := fun u hu => all u (List.mem_cons_of_mem _ hu)
  dsimp only
  refine wpAny_ite_split (fun _ => wpAny_pure ⟨rfl, rfl, nx⟩) (fun _ => ?_)
  refine wpAny_bind (wpAny_eqIsQuiet_tuple hk ?_)
  rw [if_neg (by decide)]
  refine wpAny_bind (wpAny_eqIsQuiet_tuple hy ?_)
  rw [if_neg (by decide)]
  refine wpAny_bind (cls_tuple hk ?_)
  rw [if_neg (by decide)]
  refine wpAny_bind (cls_tuple hy ?_)
  rw [if_neg (by decide)]
  exact wpAny_pure ⟨rfl, rfl, nx⟩
 ·rintro ⟨r1, r2⟩ s' ⟨hr, rfl, _⟩
  dsimp only at hr
  subst hr
  exact wpAny_pure q
end
end L2
set_option Elab.async false
set_option linter.all false
set_option maxRecDepth 100000
set_option maxHeartbeats 4000000
namespace L2
open PySem PySem.Spec PyProof.Rows
theorem probe_out {t : SetTable} (T : Tb t) {hashAt : Nat → Int} {h : Int} {p : SetTable.Probe} {n : Nat} {r : Option SetTable.Met} (e : t.probe hashAt h p = r) (hm : p.more = 0) (hd : p.dummy = none) (he : t.slot (adv t n p).j = .empty) (hn : n ≤ 200) :
  (∃ j, r = some (.empty j none)) ∨ ∃ m j i, m < n ∧ r = some (.candidate j i (adv t (m + 1) p)) ∧ t.slot j = .live i ∧ i < t.place.size := by
 subst e
 unfold SetTable.probe
 rcases go_meets (h := h) T n (10 * SetTable.turns t.mask) p hm hd he (by rw [T.mask]; show n < 220; omega) with x | ⟨m, j, i, a, b, c, d, _⟩
 ·exact .inl x
 ·exact .inr ⟨m, j, i, a, b, c, d⟩
section
variable {P : Program} {w : World} {κ : Type} [DecidableEq κ] {knd : PySem.KeyKind P w κ} {A : Around} {E : Value → Shared → Prop} {s : Shared}
structure SH (knd : PySem.KeyKind P w κ) (h : Heap) (a : Addr) (es : Array (Int × Value)) (ep : Nat) (t : SetTable) : Prop where
 ob : ∃ o, h.get? a = some o ∧ o.ExactSet ∧ o.data = .set es ep t
 tb : Tb t
 sz : t.place.size = es.size
 all : ∀ e ∈ es.toList, ∃ k y, e = (tupleKeyHash knd k, .ref y) ∧ IsTupleKey knd h k y
theorem Tb.fits {t : SetTable} (T : Tb t) {n : Nat} (h : t.place.size = n) : t.fits n = true := by
 unfold SetTable.fits SetTable.fill
 rw [T.mask, T.dum, h]
 have := T.few
 simp
 omega
theorem search_free {a x : Addr} {es : Array (Int × Value)} {ep : Nat} {t : SetTable} {k : List κ} {h : Int} {Q : SetFound → Shared → Prop} (S : SH knd s.heap a es ep t) (hx : IsTupleKey knd s.heap k x) (hu : A.units < cLine)
  (ne : ∀ k' y, (tupleKeyHash knd k', Value.ref y) ∈ es.toList → IsTupleKey knd s.heap k' y → k' ≠ k) (q : ∀ j, Q (.free j false) s) :
  ∀ (n fuel : Nat) (stand : Option SetTable.Probe), n ≤ 200 → (stand.getD (t.probeStart h)).more = 0 → (stand.getD (t.probeStart h)).dummy = none → t.slot (adv t n (stand.getD (t.probeStart h))).j = .empty → n < fuel →
   wpAny (model P w) A (setSearchFrom a (.ref x) h true fuel stand) Q E s := by
 intro n fuel
 induction fuel generalizing n with
 | zero => intro stand _ _ _ _ hf; exact absurd hf (Nat.not_lt_zero _)
 | succ fuel ih =>
  intro stand hn hm hd he hf
  obtain ⟨o, ho, hex, hda⟩ := S.ob
  have fit := S.tb.fits S.sz
  have gw : t.gaveWay = false := by unfold SetTable.gaveWay; rw [S.tb.mask]; rfl
  unfold setSearchFrom
  refine wpAny_bind (wpAny_setState_of ho hda fit ?_)
  dsimp only
  rw [gw]
  simp only [Bool.false_eq_true, if_false]
  split
  ·rename_i met heq
   rcases probe_out S.tb heq hm hd he hn with ⟨j, e⟩ | ⟨m, j, i, hmn, e, hsl, hi⟩
   ·cases e
    exact wpAny_pure (q j)
   ·cases e
    dsimp only
    have hi' : i < es.size := by rw [← S.sz]; exact hi
    obtain ⟨k', y, ey, hy⟩ := S.all es[i] (by simp)
    have mem : (tupleKeyHash knd k', Value.ref y) ∈ es.toList := by rw [← ey]; simp
    have hkk : k' ≠ k := ne k' y mem hy
    have ei : es[i]? = some (tupleKeyHash knd k', Value.ref y) := by rw [Array.getElem?_eq_getElem hi', ey]
    have sm : t.sameMemory t.moves t.mask = some true := by unfold SetTable.sameMemory; rw [if_pos (by simp)]
    have nxt : wpAny (model P w) A (setSearchFrom a (.ref x) h true fuel (some (adv t (m + 1) (stand.getD (t.probeStart h))))) Q E s := by
     refine ih (n - (m + 1)) _ (by omega) (adv_more S.tb _ hm) ((adv_dummy S.tb _ hm).trans hd) ?_ (by omega)
     show t.slot (adv t (n - (m + 1)) (adv t (m + 1) _)).j = .empty
     rw [← adv_add, show m + 1 + (n - (m + 1)) = n by omega]
     exact he
    have fin : wpAny (model P w) A (isSame (.ref y) (.ref y) >>= fun b => (pure (if b = true then some i else none) : Sem (Option Nat)) >>= fun still => match still with
      | none => rule "set.search.anew" >>= fun _ => setSearchFrom a (.ref x) h true fuel none
      | some i' => if false = true then pure (SetFound.there (some i')) else setSearchFrom a (.ref x) h true fuel (some (adv t (m + 1) (stand.getD (t.probeStart h))))) Q E s := by
     refine wpAny_bind ?_
     unfold isSame
     dsimp only
     rw [if_pos (by simp)]
     refine wpAny_pure (wpAny_bind (wpAny_pure ?_))
     rw [if_pos rfl]
     dsimp only
     rw [if_neg (by decide)]
     exact nxt
    refine wpAny_ite_split (fun _ => wpAny_bind (seen_tuple hx (fun v hv => ?_) ?_)) (fun _ => ?_)
    ·obtain ⟨e, he', rfl⟩ := List.mem_map.mp hv
     obtain ⟨k'', y', ee, hy'⟩ := S.all e (by
      have := (Array.mem_filter.mp (Array.mem_toList_iff.mp he')).1
      exact Array.mem_toList_iff.mpr this)
     exact ⟨y', k'', by rw [ee], hy'⟩
    ·rw [if_neg (by decide)]
     rw [ei]
     dsimp only
     refine wpAny_bind (wpAny_holding (wpAny_eqBool_tuple hu hy hx ?_))
     rw [decide_eq_false hkk]
     refine wpAny_bind (wpAny_setState_of ho hda fit ?_)
     dsimp only
     rw [if_neg (by decide), sm]
     dsimp only
     rw [if_pos rfl, hsl]
     dsimp only
     rw [ei]
     dsimp only
     exact fin
    ·rw [ei]
     dsimp only
     refine wpAny_bind (wpAny_holding (wpAny_eqBool_tuple hu hy hx ?_))
     rw [decide_eq_false hkk]
     refine wpAny_bind (wpAny_setState_of ho hda fit ?_)
     dsimp only
     rw [if_neg (by decide), sm]
     dsimp only
     rw [if_pos rfl, hsl]
     dsimp only
     rw [ei]
     dsimp only
     exact fin
  ·rename_i heq
   rcases probe_out S.tb rfl hm hd he hn with ⟨j, e⟩ | ⟨m, j, i, hmn, e, hsl, hi⟩
   ·exact absurd e (heq _)
   ·exact absurd e (heq _)
end
end L2
set_option Elab.async false
set_option linter.all false
set_option maxRecDepth 100000
set_option maxHeartbeats 4000000
namespace L2
open PySem PySem.Spec PyProof.Rows
section
variable {P : Program} {w : World} {κ : Type} [DecidableEq κ] {knd : PySem.KeyKind P w κ} {A : Around} {E : Value → Shared → Prop} {s : Shared}
theorem bits_lt (h : Int) : SetTable.bits h < 2 ^ 64 := by
 unfold SetTable.bits
 have h0 := Int.emod_nonneg h (show (2 ^ 64 : Int) ≠ 0 by decide)
 have h1 := Int.emod_lt_of_pos h (show (0 : Int) < 2 ^ 64 by decide)
 omega
theorem start_ok {t : SetTable} (T : Tb t) (h : Int) : (t.probeStart h).more = 0 ∧ (t.probeStart h).dummy = none ∧ (t.probeStart h).perturb < 2 ^ 64 := by
 refine ⟨?_, rfl, bits_lt h⟩
 show SetTable.runEnd t.mask _ - _ = 0
 unfold SetTable.runEnd
 by_cases z : SetTable.bits h % (t.mask + 1) + 9 ≤ t.mask
 ·rw [T.mask] at z
  omega
 ·rw [if_neg z]
  omega
theorem ins_size {α : Type} (xs : Array α) (p : Nat) (x : α) : (SetTable.insertAt xs p x).size = xs.size + 1 := by
 have := (SetTable.insertAt_perm xs p x).length_eq
 simpa using this
theorem ins_mem {α : Type} {xs : Array α} {p : Nat} {x e : α} (h : e ∈ (SetTable.insertAt xs p x).toList) : e ∈ xs.toList ∨ e = x := by
 have := (SetTable.insertAt_perm xs p x).mem_iff.mp h
 simpa using this
theorem put_ok {t : SetTable} (T : Tb t) (j : Nat) : (t.put j).1.mask = 7 ∧ (t.put j).1.dummies = #[] ∧ (t.put j).1.place.size = t.place.size + 1 := by
 have h2 : SetTable.has t.dummies j = false := by
  unfold SetTable.has
  rw [T.dum]
  rfl
 unfold SetTable.put
 dsimp only
 rw [h2]
 exact ⟨T.mask, T.dum, ins_size _ _ _⟩
theorem add_hashed {a x : Addr} {es : Array (Int × Value)} {ep : Nat} {t : SetTable} {k : List κ} {Q : Bool → Shared → Prop} (S : SH knd s.heap a es ep t) (few : es.size ≤ 3) (hx : IsTupleKey knd s.heap k x) (hu : A.units < cLine)
  (ne : ∀ k' y, (tupleKeyHash knd k', Value.ref y) ∈ es.toList → IsTupleKey knd s.heap k' y → k' ≠ k)
  (q : ∀ (h' : Heap) (es' : Array (Int × Value)) (ep' : Nat) (t' : SetTable), Heap.SameBut a s.heap h' → SH knd h' a es' ep' t' → es'.size = es.size + 1 →
   (∀ e ∈ es'.toList, e ∈ es.toList ∨ e = (tupleKeyHash knd k, Value.ref x)) → Q true { s with heap := h' }) :
  wpAny (model P w) A (setAddHashed a (.ref x) (tupleKeyHash knd k)) Q E s := by
 obtain ⟨o, ho, hex, hda⟩ := S.ob
 have fit := S.tb.fits S.sz
 unfold setAddHashed
 refine wpAny_holding ?_
 unfold setAddHashedIn
 refine wpAny_bind (wpAny_setState_of ho hda fit ?_)
 dsimp only
 rw [if_neg (by simp [byScan, Value.scannable])]
 refine wpAny_bind ?_
 unfold setSearch
 obtain ⟨s0, s1, s2⟩ := start_ok S.tb (tupleKeyHash knd k)
 obtain ⟨n, hn, he⟩ := adv_ends S.tb s0 s2
 refine search_free S hx hu ne (fun j => ?_) n 100000 none (by omega) s0 s1 he (by omega)
 dsimp only
 refine wpAny_bind (wpAny_setState_of ho hda fit ?_)
 dsimp only
 obtain ⟨m1, m2, m3⟩ := put_ok S.tb j
 have nex : ∀ {y : Addr} {k' : List κ}, IsTupleKey knd s.heap k' y → y ≠ a := fun {y k'} hy e => by
  obtain ⟨o', its, n', ho', _, hd', _⟩ := hy
  rw [e, ho] at ho'
  cases ho'
  rw [hda] at hd'
  cases hd'
 have tail : ∀ t2 : SetTable, t2.mask = 7 → t2.dummies = #[] → t2.place.size = t.place.size + 1 →
   wpAny (model P w) A (storeSet a (SetTable.insertAt es (t.put j).2 (tupleKeyHash knd k, .ref x)) t2 >>= fun _ => if (!false && t2.tooFull) = true then setRelay a (SetTable.grown (es.size + 1)) >>= fun _ => pure true else pure true) Q E s := by
  intro t2 e1 e2 e3
  have sz1 := ins_size es (t.put j).2 (tupleKeyHash knd k, Value.ref x)
  refine wpAny_bind (wpAny_storeSet_of ho hda ?_ (by rw [sz1]; exact small_line (by omega)))
  have full : t2.tooFull = false := by
   unfold SetTable.tooFull SetTable.fill
   rw [e1, e2, e3, S.sz]
   simp
   omega
  rw [full, if_neg (by decide)]
  have sb : Heap.SameBut a s.heap (s.heap.update a (Obj.putSet (SetTable.insertAt es (t.put j).2 (tupleKeyHash knd k, .ref x)) t2)) := Heap.SameBut.update ..
  refine wpAny_pure (q _ _ (ep + 1) t2 sb ⟨⟨_, Heap.get?_update_self _ ho ?_, ?_, ?_⟩, ⟨e1, e2, ?_⟩, ?_, fun e he => ?_⟩ sz1 fun e he => ins_mem he)
  ·rw [putSet_of _ _ hda]
   rfl
  ·rw [putSet_of _ _ hda]
   exact hex
  ·rw [putSet_of _ _ hda]
  ·rw [e3, S.sz]
   omega
  ·rw [e3, S.sz, sz1]
  ·have keep : ∀ {y : Addr} {k' : List κ}, IsTupleKey knd s.heap k' y → IsTupleKey knd (s.heap.update a (Obj.putSet (SetTable.insertAt es (t.put j).2 (tupleKeyHash knd k, .ref x)) t2)) k' y := fun {y k'} hy => by
    have hne := nex hy
    obtain ⟨o', its, n', ho', r⟩ := hy
    exact ⟨o', its, n', (sb.2 y hne).trans ho', r⟩
   rcases ins_mem he with he | rfl
   ·obtain ⟨k', y, ee, hy⟩ := S.all e he
    exact ⟨k', y, ee, keep hy⟩
   ·exact ⟨k, x, rfl, keep hx⟩
 by_cases hp : (t.put j).1.plain = true
 ·rw [if_pos hp]
  refine wpAny_bind (byv_tuple hx fun b => ?_)
  cases b
  ·exact tail _ m1 m2 m3
  ·exact tail _ m1 m2 m3
 ·rw [if_neg hp]
  refine wpAny_bind (wpAny_pure ?_)
  exact tail _ m1 m2 m3
theorem add_tuple {a x : Addr} {es : Array (Int × Value)} {ep : Nat} {t : SetTable} {k : List κ} {Q : Bool → Shared → Prop} (S : SH knd s.heap a es ep t) (few : es.size ≤ 3) (hx : IsTupleKey knd s.heap k x) (hu : A.units < cLine)
  (ne : ∀ k' y, (tupleKeyHash knd k', Value.ref y) ∈ es.toList → IsTupleKey knd s.heap k' y → k' ≠ k)
  (q : ∀ (h' : Heap) (tk : Nat) (es' : Array (Int × Value)) (ep' : Nat) (t' : SetTable), Heap.SameBut a s.heap h' → SH knd h' a es' ep' t' → es'.size = es.size + 1 →
   (∀ e ∈ es'.toList, e ∈ es.toList ∨ e = (tupleKeyHash knd k, Value.ref x)) → s.toks ≤ tk → Q true { s with heap := h', toks := tk }) :
  wpAny (model P w) A (setAdd a (.ref x)) Q E s := by
 unfold setAdd
 refine wpAny_holding (wpAny_bind (wpAny_pyHash_tuple hu hx ?_))
 exact add_hashed (s := { s with toks := _ }) S few hx hu ne fun h' es' ep' t' a b c d => q h' _ es' ep' t' a b c d (by show s.toks ≤ s.toks + _; omega)
end
end L2
set_option Elab.async false
set_option linter.all false
set_option maxRecDepth 100000
set_option maxHeartbeats 4000000
namespace L2
open PySem PySem.Spec PyProof.Rows
section
variable {P : Program} {w : World} {A : Around} {E : Value → Shared → Prop} {s : Shared}
theorem loop_set {R : Result → Shared → Prop} {I S : Addr} {fp : List Addr} {n : Nat} {Pv : Nat → Value → Prop} {St : Nat → Heap → Prop} (W : Walks P w A.in1 I fp [I] n Pv St) (hS : S ∉ fp) (Good : Nat → Heap → Prop)
  (g1 : ∀ i h h', Good i h → (∀ b o, b ≠ I → h.get? b = some o → h'.get? b = some o) → Good i h')
  (g2 : ∀ (i : Nat) (s : Shared) (v : Value) (Q : Bool → Shared → Prop) (E' : Value → Shared → Prop), i < n → Pv i v → Good i s.heap → (∀ h' tk, Heap.SameBut S s.heap h' → Good (i + 1) h' → Q true { s with heap := h', toks := tk }) →
   wpAny (model P w) A.in1 (setAdd S v) Q E' s) :
  ∀ (k i : Nat) (s : Shared), n - i = k → i ≤ n → St i s.heap → Good i s.heap →
   (∀ h' tk, (∀ b o, b ≠ S → b ≠ I → s.heap.get? b = some o → h'.get? b = some o) → Good n h' → R (.ok (.ret .none)) { s with heap := h', toks := tk }) →
   codeAny (model P w) A (.builtin "set.update.loop" ⟨[.ref S, .ref I], []⟩) R s := by
 have ent := PyProof.Rows.F.entry_set_update_loop
 have pln := PyProof.Rows.F.plain_set_update_loop
 intro k
 induction k with
 | zero =>
  intro i s hk hi st good q
  obtain rfl : i = n := by omega
  refine codeAny_builtin ent ?_; rw [Around.under_plainId pln _]
  refine wpAny_bind (W.done s _ _ st fun h' tk kp => ?_)
  exact wpAny_pure (q h' tk (fun b o _ b2 e => kp b o (by simpa using b2) e) (g1 _ _ _ good fun b o hb e => kp b o (by simpa using hb) e))
 | succ k ih =>
  intro i s hk hi st good q
  have lt : i < n := by omega
  refine codeAny_builtin ent ?_; rw [Around.under_plainId pln _]
  refine wpAny_bind (W.item i s _ _ lt st fun v h1 tk1 hv st1 kp => ?_)
  have good1 : Good i h1 := g1 _ _ _ good fun b o hb e => kp b o (by simpa using hb) e
  refine wpAny_bind (wpAny_holding (g2 i { s with heap := h1, toks := tk1 } v _ _ lt hv good1 fun h2 tk2 sb good2 => ?_))
  refine wpAny_pure ⟨plainId_quiet pln _, ih (i + 1) _ (by omega) lt (W.frame _ h1 h2 st1 fun b hb o e => ?_) good2 fun h3 tk3 kp3 good3 => ?_⟩
  ·exact (sb.2 b fun z => hS (z ▸ hb)).trans e
  ·refine q h3 tk3 (fun b o b1 b2 e => kp3 b o b1 b2 ?_) good3
   exact (sb.2 b b1).trans (kp b o (by simpa using b2) e)
end
end L2
set_option Elab.async false
set_option linter.all false
set_option maxRecDepth 100000
set_option maxHeartbeats 4000000
namespace L2
open PySem PySem.Spec PyProof.Rows
abbrev set0 (led : Bool) : Obj := { cls := .type "set", dict := none, data := .set #[] 0 (.fresh 0 0 led) }
section
variable {P : Program} {w : World} {A : Around} {E : Value → Shared → Prop} {s : Shared}
theorem call_set_of {T : String} {l : Addr} {n : Nat} {Pv : Nat → Value → Prop} {Q : Value → Shared → Prop} (hh : A.handled = none)
  (f1 : isSubtype (.type T) (.type "set") = pure false) (f2 : isSubtype (.type T) (.type "frozenset") = pure false) (f3 : (Value.type T == Value.type "dict") = false)
  (ty : ∀ s' : Shared, (∀ b o, s.heap.get? b = some o → s'.heap.get? b = some o) → s'.TypeIs (.ref l) T) (lt : l < s.heap.objs.size)
  (it : ∀ (A' : Around) (s' : Shared), A'.handled = none → (∀ b o, s.heap.get? b = some o → s'.heap.get? b = some o) → ∃ (oI : Obj) (St : Nat → Heap → Prop),
   (∀ (A2 : Around) (E2 : Value → Shared → Prop) (Q2 : Value → Shared → Prop), Q2 (.ref s'.heap.objs.size) { s' with heap := s'.heap.push oI } → wpAny (model P w) A2 (pyIter (.ref l)) Q2 E2 s') ∧
    Walks P w A' s'.heap.objs.size [s'.heap.objs.size, l] [s'.heap.objs.size] n Pv St ∧ St 0 (s'.heap.push oI))
  (Good : Nat → Heap → Prop) (g0 : ∀ (led : Bool) (oI : Obj), Good 0 ((s.heap.push (set0 led)).push oI))
  (g1 : ∀ i h h', Good i h → (∀ b o, b ≠ s.heap.objs.size + 1 → h.get? b = some o → h'.get? b = some o) → Good i h')
  (g2 : ∀ (i : Nat) (s2 : Shared) (v : Value) (Q : Bool → Shared → Prop) (E' : Value → Shared → Prop), i < n → Pv i v → Good i s2.heap → (∀ h' tk, Heap.SameBut s.heap.objs.size s2.heap h' → Good (i + 1) h' → Q true { s2 with heap := h', toks := tk }) →
   wpAny (model P w) A.in1.in1.in1 (setAdd s.heap.objs.size v) Q E' s2)
  (q : ∀ h' tk, (∀ b o, s.heap.get? b = some o → h'.get? b = some o) → Good n h' → Q (.ref s.heap.objs.size) { s with heap := h', toks := tk }) :
  wpAny (model P w) A (call (.type "set") [.ref l]) Q E s := by
 have cs := F.called_set
 obtain ⟨c, tl, mro⟩ := cs.mro
 have made := cs.made
 have sub := cs.sub
 refine wpAny_call (codeAny_of_tree ?_)
 show wpAny _ _ (callAny (.type "set") _) _ _ _
 refine wpAny_pure ⟨Code.quiet_builtin _ (by decide +kernel), codeAny_builtin F.entry_type_call ?_⟩
 rw [Around.under_plain (weight_type_call_type "set" [.ref l] []) rfl]
 have c1 := cs.notType
 have c2 := cs.canCreate
 have c3 := F.typeCall_set_1 (.ref l)
 repeat (any_goals (first | assumption | wp_step))
 refine codeAny_mono (code_set_new_1 (.ref l) (E := E) (Q₁ := fun x s₁ => ∃ led : Bool, x = .ref s.heap.objs.size ∧ s₁ = { s with heap := s.heap.push (set0 led) }) fun led => ⟨led, rfl, rfl⟩) fun r s₁ hr => ?_
 cases r with
 | error e => exact hr
 | ok fl =>
  cases fl with
  | ret x =>
   obtain ⟨led, rfl, rfl⟩ := hr
   have hS : (s.heap.push (set0 led)).get? s.heap.objs.size = some (set0 led) := Heap.get?_push_size _ rfl
   have tS : Shared.TypeIs { s with heap := s.heap.push (set0 led) } (.ref s.heap.objs.size) "set" := ⟨_, hS, rfl⟩
   have i1 := cs.init.lookup
   have i2 := cs.init.bind (.ref s.heap.objs.size)
   repeat (any_goals (first | assumption | wp_step))
   refine codeAny_mono (codeAny_call_builtin (R := wants (fun r s₂ => r = .none ∧ ∃ h' tk, s₂ = { s with heap := h', toks := tk } ∧ Good n h' ∧ (∀ b o, s.heap.get? b = some o → h'.get? b = some o)) E)
    cs.init.plain F.entry_set_init (check_set_init_1 tS ?_)) fun r₂ s₂ hr₂ => ?_
   ·have ext : ∀ b o, s.heap.get? b = some o → (s.heap.push (set0 led)).get? b = some o := fun b o e => Heap.get?_push_of_some _ e
    have tl := ty { s with heap := s.heap.push (set0 led) } ext
    have h3 : A.in1.in1.in1.handled = none := by simp [hh]
    obtain ⟨oI, St, go, W, st⟩ := it A.in1.in1.in1 { s with heap := s.heap.push (set0 led) } h3 ext
    have sz : (s.heap.push (set0 led)).objs.size = s.heap.objs.size + 1 := Heap.size_push ..
    unfold Builtin.«set.__init__» noKeywords Builtin.Frozenset.updateFrom
    generalize hPI : pyIter = PI
    wp_walk
    subst hPI
    refine go _ _ _ ?_
    refine wpAny_bind (wpAny_runValue ?_)
    dsimp only at W st
    refine loop_set (A := A.in1.in1) W (fun z => ?_) Good (fun i h h' g k => g1 i h h' g fun b o hb e => k b o (by rw [sz]; exact hb) e) g2 (n - 0) 0 _ (by omega) (Nat.zero_le _) st (g0 led oI) fun h' tk kp good => ?_
    ·rcases List.mem_cons.mp z with z | z
     ·rw [sz] at z
      exact absurd z (Nat.ne_of_lt (Nat.lt_succ_self _))
     ·exact absurd (List.mem_singleton.mp z) (Nat.ne_of_gt lt)
    ·refine wpAny_pure ?_
     refine wpAny_pure ⟨rfl, h', tk, rfl, good, fun b o e => ?_⟩
     have bl := Heap.lt_size e
     refine kp b o (Nat.ne_of_lt bl) ?_ (Heap.get?_push_of_some _ (ext b o e))
     rw [sz]
     exact Nat.ne_of_lt (Nat.lt_succ_of_lt bl)
   ·cases r₂ with
    | error e => exact hr₂
    | ok fl₂ =>
     cases fl₂ with
     | ret r =>
      obtain ⟨rfl, h', tk, rfl, good, kp⟩ := hr₂
      repeat (any_goals (first | assumption | wp_step))
      exact q _ _ kp good
     | _ => exact hr₂.elim
  | _ => exact hr.elim
end
end L2
set_option Elab.async false
set_option linter.all false
set_option maxRecDepth 100000
set_option maxHeartbeats 4000000
namespace L2
open PySem PySem.Spec PyProof.Rows
def SetSz (a : Addr) (n : Nat) (h : Heap) : Prop := ∃ o es ep t, h.get? a = some o ∧ o.ExactSet ∧ o.data = .set es ep t ∧ t.fits es.size = true ∧ es.size = n
def setO (a : Addr) (n : Nat) : HO := .ext (SetSz a n)
theorem setO_ok {P : Program} {w : World} {H : Hp} {h : Heap} {a : Addr} {n : Nat} (x : SetSz a n h) : ObjOk P w H h a (setO a n) := by
 obtain ⟨o, es, ep, t, ho, r⟩ := id x
 exact ⟨x, ⟨o, ho⟩, (by rintro h1 h2 ⟨o, es, ep, t, ho, r⟩ k; exact ⟨o, es, ep, t, k o ho, r⟩)⟩
theorem sub_tuple_set' : isSubtype (.type "tuple") (.type "set") = pure false := by rw [isSubtype_type]; kernel_rfl
theorem sub_tuple_frozenset' : isSubtype (.type "tuple") (.type "frozenset") = pure false := by rw [isSubtype_type]; kernel_rfl
section
variable {X : Cx}
theorem call_len_setO : CallR X (.builtin "len") (fun xs H Q => ∃ a n, xs = [.ref a] ∧ H a = some (setO a n) ∧ n ≤ 1000 ∧ Q (.int n) H) := by
 intro pins s σ H xs us Q I r h
 obtain ⟨a, n, rfl, ha, hn, q⟩ := h
 obtain ⟨u, rfl, rx⟩ := vals1 r
 obtain rfl : u = Value.ref a := rx
 obtain ⟨⟨o, es, ep, t, ho, hex, hd, hf, rfl⟩, _⟩ := (show ObjOk X.prog X.w H s.heap a (setO a n) from I.hok a _ ha)
 exact call_len_set ho hex hd hf (by omega) ⟨.int es.size, H, I.tok _, ⟨_, rfl⟩, q⟩
theorem call_setS (hc : X.calm = true) : CallR X (.type "set") (fun xs H Q => ∃ (p : Addr) (ys : List Str), xs = [.ref p] ∧ SqL X.K H p (ys.map V.str) ∧ ys.Nodup ∧ ys.length ≤ 1000 ∧ ∀ l, H l = none → Q (.ref l) (upd H l (setO l ys.length))) := by
 intro pins s σ H xs us Q I r h
 obtain ⟨p, ys, rfl, hq, nd, hy, q⟩ := h
 obtain ⟨u, rfl, rx⟩ := vals1 r
 obtain rfl : u = Value.ref p := rx
 obtain ⟨its, rv, pl, hz⟩ := I.list hq
 have len : its.length = ys.length := by rw [← rv.length, List.length_map]
 have il := pl.isList
 have lt : p < s.heap.objs.size := let ⟨o, ho, _⟩ := il; Heap.lt_size ho
 have keepL : ∀ {h' : Heap}, (∀ b o, s.heap.get? b = some o → h'.get? b = some o) → h'.IsList p its.toArray := fun {h'} k => let ⟨o, ho, r⟩ := il; ⟨o, k _ _ ho, r⟩
 let Good : Nat → Heap → Prop := fun i h => ∃ Sf : Str → Bool, h.SetOf (PySem.strKind X.prog X.w) s.heap.objs.size Sf i ∧ ∀ k, Sf k = true → k ∈ ys.take i
 refine call_set_of (T := "list") (l := p) (n := ys.length) (Pv := fun i v => its.toArray[i]? = some v) (I.ok.hd hc) PySem.F.sub_list_set PySem.F.sub_list_frozenset (by decide) (fun s' k => let ⟨o, ho, hcl, _⟩ := keepL k; ⟨o, ho, hcl⟩) lt
  (fun A' s' hh k => ?_) Good (fun led oI => ?_) (fun i h h' g k => ?_) (fun i s2 v Q2 E2 hi hv g q2 => ?_) fun h' tk kp g => ?_
 ·have ne : p ≠ s'.heap.objs.size := let ⟨o, ho, _⟩ := keepL k; Nat.ne_of_lt (Heap.lt_size ho)
  have W := Walks.list (prog := X.prog) (w := X.w) hh s'.heap.objs.size p ne its.toArray
  rw [show its.toArray.size = ys.length by simp [len]] at W
  exact ⟨_, _, fun A2 E2 Q2 z => wpAny_pyIter_list (keepL k) z, W, ⟨⟨_, Heap.get?_push_size _ rfl, rfl, rfl⟩, (keepL k).push _⟩⟩
 ·refine ⟨fun _ => false, ?_, fun k z => nomatch z⟩
  exact (setObjOf_fresh (knd := PySem.strKind X.prog X.w) led).setOf (Heap.get?_push_of_some _ (Heap.get?_push_size _ rfl)) (by decide)
 ·obtain ⟨Sf, ⟨o, es, ep, t, ho, r⟩, m⟩ := g
  exact ⟨Sf, ⟨o, es, ep, t, k _ _ (Nat.ne_of_lt (Nat.lt_succ_self _)) ho, r⟩, m⟩
 ·obtain ⟨Sf, hS, m⟩ := g
  have hv' : its[i]? = some v := by simpa using hv
  have yi : (ys.map V.str)[i]? = some (V.str ys[i]) := by rw [List.getElem?_map, List.getElem?_eq_getElem hi]; rfl
  obtain ⟨v', e', rel⟩ := rv.get yi
  rw [hv'] at e'
  cases e'
  obtain ⟨t, rfl⟩ := rel
  have fresh : Sf ys[i] = false := by
   cases z : Sf ys[i] with
   | false => rfl
   | true =>
    obtain ⟨j, hj, ej⟩ := List.mem_take_iff_getElem.mp (m _ z)
    have ji := (List.getElem_inj (h₀ := by omega) (h₁ := hi) nd).mp ej
    omega
  unfold setAdd
  refine wpAny_holding (wpAny_bind (wpAny_pyHash_str ?_))
  refine wpAny_setAddHashed_of (knd := PySem.strKind X.prog X.w) (s := { s2 with toks := s2.toks + 1 }) (strKind_is _ _ _ t) rfl hS (by unfold scanBound; omega) fun h' sb hS' => ?_
  rw [fresh] at hS' ⊢
  refine q2 h' _ sb ⟨_, hS', fun k z => ?_⟩
  rw [List.take_succ_eq_append_getElem hi]
  rcases Bool.or_eq_true_iff.mp z with z | z
  ·exact List.mem_append_left _ (m k z)
  ·rw [of_decide_eq_true z]
   exact List.mem_append_right _ (List.mem_singleton.mpr rfl)
 ·obtain ⟨Sf, ⟨o, es, ep, t, ho, hex, hd, _, _, _, hf, hn⟩, _⟩ := g
  exact ⟨.ref s.heap.objs.size, _, I.laid (t' := tk) kp (Nat.le_refl _) (setO_ok ⟨o, es, ep, t, ho, hex, hd, hf, hn⟩), rfl, q _ (I.hok.fresh (Nat.le_refl _))⟩
end
end L2
set_option Elab.async false
set_option linter.all false
set_option maxRecDepth 100000
set_option maxHeartbeats 4000000
namespace L2
open PySem PySem.Spec PyProof.Rows
section
variable {X : Cx}
theorem call_setT (hc : X.calm = true) (hu : X.A.units + 4 < cLine) : CallR X (.type "set") (fun xs H Q => ∃ (p : Addr) (qs : List Addr) (ks : List (List Key)), xs = [.ref p] ∧ SqT X.K H p (qs.map V.ref) ∧ ks.length = qs.length ∧ qs.length ≤ 4 ∧ ks.Nodup ∧
  (∀ (i : Nat) (q : Addr) (k : List Key), qs[i]? = some q → ks[i]? = some k → H q = some (.tup (k.map kV))) ∧ ∀ l, H l = none → Q (.ref l) (upd H l (setO l qs.length))) := by
 intro pins s σ H xs us Q I r h
 obtain ⟨p, qs, ks, rfl, hq, hlen, few, nd, tups, q⟩ := h
 obtain ⟨u, rfl, rx⟩ := vals1 r
 obtain rfl : u = Value.ref p := rx
 obtain ⟨its, rv, pl, hz⟩ := I.tuple hq
 have len : its.length = qs.length := by rw [← rv.length, List.length_map]
 have lt : p < s.heap.objs.size := let ⟨o, ho, _⟩ := pl; Heap.lt_size ho
 have keepT : ∀ {h' : Heap}, (∀ b o, s.heap.get? b = some o → h'.get? b = some o) → h'.IsTuple p its.toArray := fun {h'} k => let ⟨o, ho, r⟩ := pl; ⟨o, k _ _ ho, r⟩
 let knd := mixKind X.prog X.w
 have keys : ∀ (i : Nat) (hi : i < qs.length), IsTupleKey knd s.heap (ks[i]'(by omega)) qs[i] ∧ qs[i] < s.heap.objs.size := fun i hi => by
  have t := tups i qs[i] (ks[i]'(by omega)) (List.getElem?_eq_getElem hi) (List.getElem?_eq_getElem (by omega))
  exact ⟨key_of I.hok t, I.hok.lt t⟩
 let Good : Nat → Heap → Prop := fun i h => (∃ es ep t, SH knd h s.heap.objs.size es ep t ∧ es.size = i ∧ ∀ e ∈ es.toList, ∃ (j : Nat) (hj : j < qs.length), j < i ∧ e = (tupleKeyHash knd (ks[j]'(by omega)), Value.ref qs[j])) ∧
  ∀ (i : Nat) (hi : i < qs.length), IsTupleKey knd h (ks[i]'(by omega)) qs[i]
 refine call_set_of (T := "tuple") (l := p) (n := qs.length) (Pv := fun i v => its.toArray[i]? = some v) (I.ok.hd hc) sub_tuple_set' sub_tuple_frozenset' (by decide) (fun s' k => let ⟨o, ho, hcl, _⟩ := keepT k; ⟨o, ho, hcl⟩) lt
  (fun A' s' hh k => ?_) Good (fun led oI => ?_) (fun i h h' g k => ?_) (fun i s2 v Q2 E2 hi hv g q2 => ?_) fun h' tk kp g => ?_
 ·have ne : p ≠ s'.heap.objs.size := let ⟨o, ho, _⟩ := keepT k; Nat.ne_of_lt (Heap.lt_size ho)
  have W := Walks.tuple (prog := X.prog) (w := X.w) hh s'.heap.objs.size p ne its.toArray
  rw [show its.toArray.size = qs.length by simp [len]] at W
  exact ⟨_, _, fun A2 E2 Q2 z => wpAny_pyIter_tuple (keepT k) z, W, ⟨⟨_, Heap.get?_push_size _ rfl, rfl, rfl⟩, (keepT k).push _⟩⟩
 ·have e0 : ((s.heap.push (set0 led)).push oI).get? s.heap.objs.size = some (set0 led) := Heap.get?_push_of_some _ (Heap.get?_push_size _ rfl)
  refine ⟨⟨#[], 0, .fresh 0 0 led, ⟨⟨_, e0, ⟨rfl, rfl, rfl⟩, rfl⟩, ⟨rfl, rfl, show (0 : Nat) ≤ 5 by decide⟩, rfl, fun e he => by simp at he⟩, rfl, fun e he => by simp at he⟩, fun i hi => ?_⟩
  obtain ⟨o, is, n, ho, r⟩ := (keys i hi).1
  exact ⟨o, is, n, Heap.get?_push_of_some _ (Heap.get?_push_of_some _ ho), r⟩
 ·obtain ⟨⟨es, ep, t, S, sz, form⟩, tk⟩ := g
  have tk' : ∀ (i : Nat) (hi : i < qs.length), IsTupleKey knd h' (ks[i]'(by omega)) qs[i] := fun i hi => by
   obtain ⟨o, is, n, ho, r⟩ := tk i hi
   exact ⟨o, is, n, k _ _ (Nat.ne_of_lt (Nat.lt_succ_of_lt (keys i hi).2)) ho, r⟩
  obtain ⟨o, ho, r⟩ := S.ob
  refine ⟨⟨es, ep, t, ⟨⟨o, k _ _ (Nat.ne_of_lt (Nat.lt_succ_self _)) ho, r⟩, S.tb, S.sz, fun e he => ?_⟩, sz, form⟩, tk'⟩
  obtain ⟨j, hj, _, ee⟩ := form e he
  exact ⟨_, _, ee, tk' j hj⟩
 ·obtain ⟨⟨es, ep, t, S, sz, form⟩, tk⟩ := g
  have hv' : its[i]? = some v := by simpa using hv
  have qi : (qs.map V.ref)[i]? = some (V.ref qs[i]) := by rw [List.getElem?_map, List.getElem?_eq_getElem hi]; rfl
  obtain ⟨v', e', rel⟩ := rv.get qi
  rw [hv'] at e'
  cases e'
  obtain rfl : v = Value.ref qs[i] := rel
  refine add_tuple (k := ks[i]'(by omega)) S (by omega) (tk i hi) (by show X.A.units + 1 + 1 + 1 < cLine; omega) (fun k' y me hk' => ?_) fun h' tk' es' ep' t' sb S' sz' mem' _ => ?_
  ·obtain ⟨j, hj, ji, ee⟩ := form _ me
   injection ee with _ ey
   injection ey with ey
   subst ey
   have := hk'.inj (tk j hj)
   rw [this]
   intro z
   have := (List.getElem_inj (h₀ := by omega) (h₁ := by omega) nd).mp z
   omega
  ·have tk2 : ∀ (i : Nat) (hi : i < qs.length), IsTupleKey knd h' (ks[i]'(by omega)) qs[i] := fun i hi => by
    obtain ⟨o, is, n, ho, r⟩ := tk i hi
    exact ⟨o, is, n, (sb.2 _ (Nat.ne_of_lt (keys i hi).2)).trans ho, r⟩
   refine q2 h' tk' sb ⟨⟨es', ep', t', S', by omega, fun e he => ?_⟩, tk2⟩
   rcases mem' e he with he | rfl
   ·obtain ⟨j, hj, ji, ee⟩ := form e he
    exact ⟨j, hj, by omega, ee⟩
   ·exact ⟨i, hi, by omega, rfl⟩
 ·obtain ⟨⟨es, ep, t, S, sz, _⟩, _⟩ := g
  obtain ⟨o, ho, hex, hd⟩ := S.ob
  exact ⟨.ref s.heap.objs.size, _, I.laid (t' := tk) kp (Nat.le_refl _) (setO_ok ⟨o, es, ep, t, ho, hex, hd, S.tb.fits S.sz, sz⟩), rfl, q _ (I.hok.fresh (Nat.le_refl _))⟩
end
end L2
set_option Elab.async false
set_option linter.all false
set_option maxRecDepth 100000
set_option maxHeartbeats 4000000
namespace L2
open PySem PySem.Spec PyProof.Rows
theorem lk_tuple_keys : typeLookup (.type "tuple") "keys" = pure none := by rw [typeLookup_type, builtinLookup_eq_fast]; kernel_rfl
section
variable {P : Program} {w : World} {A : Around} {E : Value → Shared → Prop} {s : Shared} {a : Addr} {o : Obj} {xs : Array Value} {n : Nat}
theorem no_keys {Q : Option Value → Shared → Prop} (hx : s.heap.get? a = some o) (hc : o.cls = .type "tuple") (hdat : o.data = .seq xs n) (hd : o.dict = none) (hA : A.handled = none)
  (q : ∀ h' tk, (∀ b u, s.heap.get? b = some u → h'.get? b = some u) → Q none { s with heap := h', toks := tk }) : wpAny (model P w) A (getAttr? (.ref a) "keys") Q E s := by
 obtain ⟨c, dct, dat, sl⟩ := o
 dsimp only at hc hdat hd
 subst hc hdat hd
 obtain ⟨hp, g, d, tk, os⟩ := s
 have ty : ∀ tk', (⟨hp, g, d, tk', os⟩ : Shared).TypeIs (.ref a) "tuple" := fun _ => ⟨_, hx, rfl⟩
 have z1 := sub_AttributeError
 have z3 := F.slot_tuple_getattribute.lookup
 have z4 := F.slot_tuple_getattribute.bind (.ref a)
 have z5 := am_tuple_getattr_none
 unfold getAttr? getAttrBy? getAttrBy
 repeat (any_goals (first | assumption | exact ty _ | ((with_reducible show wpAny _ _ (call (Value.builtin "tuple.__getattribute__") _ _) _ _ _); refine call_meets F.slot_tuple_getattribute (ty _) am_entry_tuple_getattribute (F.args_tuple_getattribute_2 _ _) (meets_getattribute_miss_tuple a xs n sl "keys" _ lk_tuple_keys (by decide) (small_line (by decide +kernel))) ⟨hx, hA, fun h' tk2 e hx' => ?_⟩) | wp_step))
 obtain ⟨t1, u1, he⟩ := hx'.there
 show wpAny _ _ (getattributeRaised _ _ _ _ _ _ _) _ _ _
 unfold getattributeRaised
 repeat (any_goals (first | assumption | wp_step))
 exact q _ _ hx'.keeps
end
end L2
set_option Elab.async false
set_option linter.all false
set_option maxRecDepth 100000
set_option maxHeartbeats 4000000
namespace L2
open PySem PySem.Spec PyProof.Rows
theorem ent_dict_loop : entryFor table "dict.update.loop" = some Builtin.«dict.update.loop» := entryFor_of_tree (by kernel_rfl)
theorem pln_dict_loop : plainId "dict.update.loop" = true := by decide +kernel
section
variable {P : Program} {w : World} {A : Around} {E : Value → Shared → Prop} {s : Shared} {κ : Type} [DecidableEq κ] {knd : PySem.KeyKind P w κ}
def PairAt (knd : PySem.KeyKind P w κ) (h : Heap) (a : Addr) (kx : κ × Value) : Prop := ∃ o key n, h.get? a = some o ∧ o.cls = .type "tuple" ∧ o.data = .seq #[key, kx.2] n ∧ knd.is kx.1 key = true
theorem loop_dict {R : Result → Shared → Prop} {I d : Addr} {fp : List Addr} {St : Nat → Heap → Prop} {qs : List Addr} {kvs : List (κ × Value)} (W : Walks P w A.in1 I fp [I] qs.length (fun i v => (qs[i]?).map Value.ref = some v) St) (hd : d ∉ fp) (hdI : d ≠ I)
  (hlen : kvs.length = qs.length) (few : qs.length ≤ 1000) (nd : (kvs.map (·.1)).Nodup) :
  ∀ (k i : Nat) (tk0 : Tok) (s : Shared), qs.length - i = k → i ≤ qs.length → St i s.heap → s.heap.DictOf knd d (kvs.take i) →
   (∀ (j : Nat) (q : Addr) (kx : κ × Value), qs[j]? = some q → kvs[j]? = some kx → PairAt knd s.heap q kx ∧ q ≠ I ∧ q ≠ d) →
   (∀ h' tk, (∀ b o, b ≠ d → b ≠ I → s.heap.get? b = some o → h'.get? b = some o) → h'.DictOf knd d kvs → R (.ok (.ret .none)) { s with heap := h', toks := tk }) →
   codeAny (model P w) A (.builtin "dict.update.loop" ⟨[.ref d, .ref I, .int i tk0, .none], []⟩) R s := by
 intro k
 induction k with
 | zero =>
  intro i tk0 s hk hi st D prs q
  obtain rfl : i = qs.length := by omega
  refine codeAny_builtin ent_dict_loop ?_; rw [Around.under_plainId pln_dict_loop _]
  refine wpAny_bind (W.done s _ _ st fun h' tk kp => ?_)
  have D' : h'.DictOf knd d kvs := by
   rw [← hlen, List.take_length] at D
   obtain ⟨o, es, ep, ho, r⟩ := D
   exact ⟨o, es, ep, kp _ _ (by simpa using hdI) ho, r⟩
  dsimp only
  unfold Builtin.Dict.addKeywords
  rw [List.forIn_nil]
  refine wpAny_bind (wpAny_bind (wpAny_pure (wpAny_pure ?_)))
  exact wpAny_pure (q h' tk (fun b o _ b2 e => kp b o (by simpa using b2) e) D')
 | succ k ih =>
  intro i tk0 s hk hi st D prs q
  have lt : i < qs.length := by omega
  refine codeAny_builtin ent_dict_loop ?_; rw [Around.under_plainId pln_dict_loop _]
  refine wpAny_bind (W.item i s _ _ lt st fun v h1 tk1 hv st1 kp => ?_)
  have hk0 : i < kvs.length := by omega
  rw [List.getElem?_eq_getElem lt] at hv
  obtain rfl : Value.ref qs[i] = v := by simpa using hv
  have keep1 : ∀ {a : Addr} {kx : κ × Value}, a ≠ I → PairAt knd s.heap a kx → PairAt knd h1 a kx := fun {a kx} ne ⟨o, key, n, ho, r⟩ => ⟨o, key, n, kp _ _ (by simpa using ne) ho, r⟩
  obtain ⟨pr, n1, n2⟩ := prs i qs[i] kvs[i] (List.getElem?_eq_getElem lt) (List.getElem?_eq_getElem hk0)
  obtain ⟨o, key, n, ho, hc, hda, hkey⟩ := keep1 n1 pr
  have D1 : h1.DictOf knd d (kvs.take i) := let ⟨o, es, ep, ho, r⟩ := D; ⟨o, es, ep, kp _ _ (by simpa using hdI) ho, r⟩
  have fresh : stored (kvs.take i) kvs[i].1 kvs[i].2 = kvs.take (i + 1) := by
   unfold stored
   rw [if_neg ?_, List.take_succ_eq_append_getElem hk0]
   intro z
   obtain ⟨x, hx, ex⟩ := List.any_eq_true.mp z
   obtain ⟨j, hj, ej⟩ := List.mem_take_iff_getElem.mp hx
   have e1 : (kvs.map (·.1))[j]'(by simp; omega) = (kvs.map (·.1))[i]'(by simp; omega) := by
    rw [List.getElem_map, List.getElem_map, ej]
    exact of_decide_eq_true ex
   have := (List.getElem_inj (h₀ := by simp; omega) (h₁ := by simp; omega) nd).mp e1
   omega
  refine wpAny_bind (wpAny_holding (wpAny_bind (wpAny_tryCatch ?_)))
  unfold Builtin.Dict.pairItems
  refine wpAny_bind (wpAny_typeOf (T := "tuple") (s := { s with heap := h1, toks := tk1 }) ⟨o, ho, hc⟩ ?_)
  rw [if_pos (by decide)]
  refine wpAny_bind (wpAny_seqItems (s := { s with heap := h1, toks := tk1 }) ho hda (wpAny_pure ?_))
  show wpAny _ _ (holding [key, kvs[i].2] (dictSet d key kvs[i].2)) _ _ _
  refine wpAny_holding (wpAny_dictSet_pairs (s := { s with heap := h1, toks := tk1 }) hkey D1 (fun h2 D2 sb => ?_) (small_line (by rw [List.length_take]; omega)))
  rw [fresh] at D2
  refine wpAny_pure ⟨plainId_quiet pln_dict_loop _, ih (i + 1) _ _ (by omega) lt (W.frame _ h1 h2 st1 fun b hb u e => (sb.2 b fun z => hd (z ▸ hb)).trans e) D2 (fun j q0 kx e1 e2 => ?_) fun h3 tk3 kp3 D3 => ?_⟩
  ·obtain ⟨p1, m1, m2⟩ := prs j q0 kx e1 e2
   obtain ⟨o', key', n', ho', r'⟩ := keep1 m1 p1
   exact ⟨⟨o', key', n', (sb.2 _ m2).trans ho', r'⟩, m1, m2⟩
  ·refine q h3 tk3 (fun b u b1 b2 e => kp3 b u b1 b2 ?_) D3
   exact (sb.2 b b1).trans (kp b u (by simpa using b2) e)
end
end L2
set_option Elab.async false
set_option linter.all false
set_option maxRecDepth 100000
set_option maxHeartbeats 4000000
namespace L2
open PySem PySem.Spec PyProof.Rows
section
variable {X : Cx}
theorem call_tuple_frz : CallR X (.type "tuple") (fun xs H Q => ∃ (p : Addr) (ys : List V), xs = [.ref p] ∧ SqL X.K H p ys ∧ ∀ (l : Addr) (o : Obj), H l = none → o.cls = .type "tuple" → o.dict = none → Q (.ref l) (upd H l (.frz o (.tup ys)))) := by
 intro pins s σ H xs us Q I r h
 obtain ⟨p, ys, rfl, hq, q⟩ := h
 obtain ⟨u, rfl, rx⟩ := vals1 r
 obtain rfl : u = Value.ref p := rx
 obtain ⟨its, r', pl, hz⟩ := I.list hq
 have hlen := r'.length
 refine call_tuple_list pl.isList (fun h' kp => ?_) (by simp only [List.size_toArray] <;> omega)
 have I1 : Inv X pins σ H { s with heap := h' } := I.kept (t' := s.toks) kp
 let o : Obj := { cls := .type "tuple", data := .seq its.toArray }
 have ge : (h'.push o).get? h'.objs.size = some o := Heap.get?_push_size _ rfl
 have I2 : Inv X pins σ (upd H h'.objs.size (.frz o (.tup ys))) { s with heap := h'.push o } :=
  I1.laid (t' := s.toks) (fun b u e => Heap.get?_push_of_some _ e) (Nat.le_refl _) (show ObjOk X.prog X.w _ _ _ (.frz o (.tup ys)) from ⟨ge, hz, its, r', ⟨o, ge, rfl, _, rfl⟩⟩)
 exact ⟨.ref h'.objs.size, _, I2, rfl, q _ _ (I1.hok.fresh (Nat.le_refl _)) rfl rfl⟩
theorem pairs_at {P : Program} {w : World} {H : Hp} {h : Heap} (ok : HOk P w H h) : ∀ {qs : List Addr} {kvs : List (Key × V)}, kvs.length = qs.length →
  (∀ (i : Nat) (q : Addr) (kx : Key × V), qs[i]? = some q → kvs[i]? = some kx → H q = some (.tup [kV kx.1, kx.2])) →
  ∃ vs : List (Key × Value), KV kvs vs ∧ ∀ (i : Nat) (q : Addr) (kx : Key × Value), qs[i]? = some q → vs[i]? = some kx → PairAt (mixKind P w) h q kx
 | [], [], _, _ => ⟨[], .nil, fun i q kx e => by simp at e⟩
 | [], _ :: _, hl, _ => nomatch hl
 | _ :: _, [], hl, _ => nomatch hl
 | q0 :: qs, (k0, v0) :: kvs, hl, t => by
  obtain ⟨vs, r, a⟩ := pairs_at ok (Nat.succ.inj hl) fun i q kx e1 e2 => t (i + 1) q kx e1 e2
  obtain ⟨_, its, rv, o, ho, hc, n, hd⟩ := (show ObjOk P w H h q0 (.tup [kV k0, v0]) from ok _ _ (t 0 q0 (k0, v0) rfl rfl))
  obtain ⟨key, val, rfl, rk, rx⟩ := vals2 rv
  refine ⟨(k0, val) :: vs, .cons ⟨rfl, rx⟩ r, fun i q kx e1 e2 => ?_⟩
  cases i with
  | zero =>
   cases e1
   cases e2
   exact ⟨o, key, n, ho, hc, hd, kV_is rk⟩
  | succ i => exact a i q kx e1 e2
theorem call_dictT (hc : X.calm = true) : CallR X (.type "dict") (fun xs H Q => ∃ (p : Addr) (o : Obj) (qs : List Addr) (kvs : List (Key × V)), xs = [.ref p] ∧ H p = some (.frz o (.tup (qs.map V.ref))) ∧ o.cls = .type "tuple" ∧ o.dict = none ∧ kvs.length = qs.length ∧ qs.length ≤ 1000 ∧
  (kvs.map (·.1)).Nodup ∧ (∀ (i : Nat) (q : Addr) (kx : Key × V), qs[i]? = some q → kvs[i]? = some kx → H q = some (.tup [kV kx.1, kx.2])) ∧ ∀ l, H l = none → Q (.ref l) (upd H l (.dK kvs))) := by
 intro pins s σ H xs us Q I r h
 obtain ⟨p, o, qs, kvs, rfl, hp, hcl, hdn, hlen, few, nd, prs, q⟩ := h
 obtain ⟨u, rfl, rx⟩ := vals1 r
 obtain rfl : u = Value.ref p := rx
 obtain ⟨ho, hz, its, rv, ⟨o', ho', _, n, hda⟩⟩ := (show ObjOk X.prog X.w H s.heap p (.frz o (.tup (qs.map V.ref))) from I.hok _ _ hp)
 obtain rfl : o = o' := Option.some.inj (ho.symm.trans ho')
 obtain ⟨vs, kv, pa⟩ := pairs_at I.hok hlen prs
 have vlen : vs.length = qs.length := by rw [← hlen]; exact (Paired.length kv).symm
 have keys : vs.map (·.1) = kvs.map (·.1) := by
  clear pa nd prs q hlen vlen few
  induction kv with
  | nil => rfl
  | cons a _ ih => rw [List.map_cons, List.map_cons, ih, a.1]
 have hh := I.ok.hd hc
 let d := s.heap.objs.size
 let o0 : Obj := { cls := .type "dict", data := .dict #[] }
 refine callType_codes (Q₁ := fun x s₁ => x = .ref d ∧ s₁ = { s with heap := s.heap.push o0 }) PySem.F.kt_called_dict (PySem.F.kt_typeCall_dict_1 _) PySem.F.entry_dict_init (kt_code_dict_new _ ⟨rfl, rfl⟩) ?_
 rintro x s₁ ⟨rfl, rfl⟩
 have D0 : (s.heap.push o0).DictOf (mixKind X.prog X.w) d [] := Heap.DictOf.new s.heap
 refine ⟨D0.typeIs, PySem.F.args_dict_init_2 _ _, ?_⟩
 unfold Builtin.«dict.__init__»
 refine wpAny_bind ?_
 unfold Builtin.Dict.selfAndRest
 refine wpAny_bind (wpAny_notOrdered_dict D0.typeIs ?_)
 show wpAny _ _ (pure (d, [Value.ref p])) _ _ _
 refine wpAny_pure ?_
 show wpAny _ _ (Builtin.Dict.updateFrom "dict.__init__" d (.ref p) [] .none) _ _ _
 unfold Builtin.Dict.updateFrom
 have hp1 : (s.heap.push o0).get? p = some o := Heap.get?_push_of_some _ ho
 refine wpAny_bind (wpAny_typeOf (T := "tuple") ⟨o, hp1, hcl⟩ ?_)
 rw [if_pos (by decide)]
 refine wpAny_bind (no_keys hp1 hcl hda hdn (by simpa using hh) fun h2 tk2 kp2 => ?_)
 rw [if_pos (show (none : Option Value).isNone = true from rfl)]
 refine wpAny_bind (wpAny_rule ?_)
 have hp2 : h2.IsTuple p its.toArray := ⟨o, kp2 _ _ hp1, hcl, n, hda⟩
 refine wpAny_bind (wpAny_pyIter_tuple hp2 ?_)
 have dlt : d < h2.objs.size := let ⟨o, es, ep, ho, _⟩ := D0; Heap.lt_size (kp2 _ _ ho)
 have plt : p < s.heap.objs.size := Heap.lt_size ho
 have ne : p ≠ h2.objs.size := Nat.ne_of_lt (Heap.lt_size (kp2 _ _ hp1))
 have W := Walks.tuple (prog := X.prog) (w := X.w) (A := X.A.in1.in1) (by simpa using hh) h2.objs.size p ne its.toArray
 have il : its.length = qs.length := by rw [← rv.length, List.length_map]
 have itq : ∀ (i : Nat) (v : Value), its.toArray[i]? = some v → (qs[i]?).map Value.ref = some v := fun i v e => by
  have e' : its[i]? = some v := by simpa using e
  have hi : i < qs.length := by rw [← il]; exact (List.getElem?_eq_some_iff.mp e').1
  obtain ⟨v', e2, rel⟩ := rv.get (x := V.ref qs[i]) (i := i) (by rw [List.getElem?_map, List.getElem?_eq_getElem hi]; rfl)
  rw [e'] at e2
  cases e2
  obtain rfl : v = Value.ref qs[i] := rel
  rw [List.getElem?_eq_getElem hi]
  rfl
 have W2 : Walks X.prog X.w X.A.in1.in1 h2.objs.size [h2.objs.size, p] [h2.objs.size] qs.length (fun i v => (qs[i]?).map Value.ref = some v) (fun i h => h.IsTupleIter h2.objs.size p i ∧ h.IsTuple p its.toArray) := by
  rw [show its.toArray.size = qs.length by simp [il]] at W
  exact ⟨W.sub, W.frame, fun i s Q E hi st k => W.item i s Q E hi st fun v h' tk e st' kp => k v h' tk (itq i v e) st' kp, W.done, W.self⟩
 refine wpAny_pure ⟨plainId_quiet pln_dict_loop _, loop_dict (knd := mixKind X.prog X.w) (kvs := vs) W2 (fun z => ?_) (Nat.ne_of_lt dlt) vlen few (by rw [keys]; exact nd) (qs.length - 0) 0 _ _ (by omega) (Nat.zero_le _)
  ⟨⟨_, Heap.get?_push_size _ rfl, rfl, rfl⟩, hp2.push _⟩ ?_ (fun j q0 kx e1 e2 => ?_) fun h3 tk3 kp3 D3 => ?_⟩
 ·rcases List.mem_cons.mp z with z | z
  ·exact Nat.ne_of_lt dlt z
  ·exact Nat.ne_of_gt plt (List.mem_singleton.mp z)
 ·obtain ⟨o1, es, ep, ho1, r1⟩ := D0
  exact ⟨o1, es, ep, Heap.get?_push_of_some _ (kp2 _ _ ho1), r1⟩
 ·obtain ⟨o1, key, n1, ho1, r1⟩ := pa j q0 kx e1 e2
  have l1 := Heap.lt_size ho1
  have g1 := kp2 _ _ (Heap.get?_push_of_some o0 ho1)
  exact ⟨⟨o1, key, n1, Heap.get?_push_of_some _ g1, r1⟩, Nat.ne_of_lt (Heap.lt_size g1), Nat.ne_of_lt l1⟩
 ·refine ⟨rfl, .ref d, _, I.laid (h' := h3) (t' := tk3) (fun b u e => ?_) (Nat.le_refl _) (show ObjOk X.prog X.w _ h3 d (.dK kvs) from ⟨?_, ?_, vs, kv, D3⟩), rfl, q _ (I.hok.fresh (Nat.le_refl _))⟩
  ·have g1 := kp2 _ _ (Heap.get?_push_of_some o0 e)
   exact kp3 b u (Nat.ne_of_lt (Heap.lt_size e)) (Nat.ne_of_lt (Heap.lt_size g1)) (Heap.get?_push_of_some _ g1)
  ·rw [hlen]
   exact small_line (by omega)
  ·exact beq_eq_false_iff_ne.mpr (Nat.ne_of_gt I.big)
end
end L2
set_option Elab.async false
set_option linter.all false
set_option maxRecDepth 100000
set_option maxHeartbeats 4000000
namespace L2
open PySem PySem.Spec PyProof.Rows
section
variable {X : Cx} {pins : List (Addr × Obj)} {σ : St} {H : Hp} {s : Shared} {h' : Heap}
end
end L2
set_option Elab.async false
set_option linter.all false
set_option maxRecDepth 100000
set_option maxHeartbeats 4000000
namespace L2
open PySem PySem.Spec PyProof.Rows
end L2
set_option Elab.async false
set_option linter.all false
set_option maxRecDepth 100000
set_option maxHeartbeats 4000000
namespace L2
open PySem PySem.Spec PyProof.Rows
theorem vals_tys : ∀ {Ts : List String} {us : List Value}, Vals (Ts.map V.ty) us → us = Ts.map Value.type
 | [], _, .nil => rfl
 | _ :: _, _, .cons r q => by rw [vals_tys q]; cases r; rfl
theorem call_isiTT {X : Cx} {K : PySem.W.Frag} (hK : X.K = K) : CallR X (.builtin "isinstance") (fun xs H Q => ∃ (x : V) (tp : Addr) (t : Value) (b : Bool) (Ts : List String), xs = [x, .ref tp] ∧ H tp = some (.tup (Ts.map V.ty)) ∧ TyOf K H x t ∧ PySem.W.kitAny K t (Ts.map Value.type) = some b ∧ Q (.bl b) H) := by
 subst hK
 intro pins s σ H xs us Q I r h
 obtain ⟨x, tp, t, b, Ts, rfl, et, ty, hk, q⟩ := h
 obtain ⟨v, w', rfl, rx, rw'⟩ := vals2 r
 cases rw'
 obtain ⟨_, its, rv, ob, e1, e2, n, e3⟩ := I.hok tp _ et
 have ei := vals_tys rv
 subst ei
 obtain ⟨oc, od, oda, osl⟩ := ob
 cases e2
 cases e3
 have fin : ∀ tk, EP X pins σ Q (.bool b) { s with toks := tk } := fun tk => ⟨.bl b, H, I.tok tk, rfl, q⟩
 cases ty with
 | non => cases (show v = Value.none from rx); exact PySem.W.kia_tup PySem.W.kitx_none I.kIn True.intro e1 hk (fun z => nomatch z) fin
 | bl y => cases (show v = Value.bool y from rx); exact PySem.W.kia_tup PySem.W.kitx_bool I.kIn True.intro e1 hk (fun z => nomatch z) fin
 | int i => obtain ⟨t, z⟩ := (show ∃ t, v = Value.int i t from rx); cases z; exact PySem.W.kia_tup PySem.W.kitx_int I.kIn True.intro e1 hk (fun z => nomatch z) fin
 | str y => obtain ⟨t, z⟩ := (show ∃ t, v = Value.str y t from rx); cases z; exact PySem.W.kia_tup PySem.W.kitx_str I.kIn True.intro e1 hk (fun z => nomatch z) fin
 | flt y => obtain ⟨t, z⟩ := (show ∃ t, v = Value.float y t from rx); cases z; exact PySem.W.kia_tup PySem.W.kitx_float I.kIn True.intro e1 hk (fun z => nomatch z) fin
 | @lst a xs ea =>
  cases (show v = Value.ref a from rx)
  obtain ⟨_, _, n, _, h1⟩ := (show ObjOk X.prog X.w H s.heap a (.lst xs) from I.hok a _ ea)
  exact PySem.W.kia_tup PySem.W.kitx_list I.kIn ⟨_, h1, rfl⟩ e1 hk (fun z => nomatch z) fin
 | @frz a ob xs ea =>
  cases (show v = Value.ref a from rx)
  obtain ⟨_, _, _, n, _, h1⟩ := (show ObjOk X.prog X.w H s.heap a (.frz ob (.lst xs)) from I.hok a _ ea)
  exact PySem.W.kia_tup PySem.W.kitx_list I.kIn ⟨_, h1, rfl⟩ e1 hk (fun z => nomatch z) fin
 | @tup a xs ea =>
  cases (show v = Value.ref a from rx)
  obtain ⟨_, _, _, p⟩ := (show ObjOk X.prog X.w H s.heap a (.tup xs) from I.hok a _ ea)
  obtain ⟨o, h1, h2, _⟩ := p
  exact PySem.W.kia_tup PySem.W.kitx_tuple I.kIn ⟨o, h1, h2⟩ e1 hk (fun z => nomatch z) fin
 | @dK a kvs ea =>
  cases (show v = Value.ref a from rx)
  obtain ⟨_, _, vs, _, p⟩ := (show ObjOk X.prog X.w H s.heap a (.dK kvs) from I.hok a _ ea)
  obtain ⟨o, es, ep, h1, h2, _⟩ := p
  exact PySem.W.kia_tup PySem.W.kitx_dict I.kIn ⟨o, h1, h2.1⟩ e1 hk (fun z => nomatch z) fin
 | @dT a kvs ea =>
  cases (show v = Value.ref a from rx)
  obtain ⟨_, _, xs, _, o, es, ep, h1, h2, _⟩ := (show ObjOk X.prog X.w H s.heap a (.dT kvs) from I.hok a _ ea)
  exact PySem.W.kia_tup PySem.W.kitx_dict I.kIn ⟨o, h1, h2.1⟩ e1 hk (fun z => nomatch z) fin
 | @ins a C dx fs ea cl ha hn htk hm =>
  cases (show v = Value.ref a from rx)
  obtain ⟨mA, O, _⟩ := ins_get I.hok ea
  obtain ⟨od, J, _⟩ := O.look
  exact PySem.W.kia_tup (PySem.W.kitx_own (cl.get _) cl.hd ha hn htk hm) I.kIn J e1 hk (fun z => nomatch z) fin
end L2
set_option Elab.async false
set_option linter.all false
set_option maxRecDepth 100000
set_option maxHeartbeats 4000000
namespace L2
open PySem PySem.Spec PyProof.Rows
theorem Paired.at {α β : Type} {R : α → β → Prop} {as : List α} {bs : List β} (h : Paired R as bs) (i : Nat) (h1 : i < as.length) (h2 : i < bs.length) : R as[i] bs[i] := by
 induction h generalizing i with
 | nil => exact absurd h1 (Nat.not_lt_zero _)
 | cons r t ih =>
  cases i with
  | zero => exact r
  | succ i => exact ih i (Nat.lt_of_succ_lt_succ h1) (Nat.lt_of_succ_lt_succ h2)
theorem all_true (n : Nat) : (List.range n).all (fun _ => true) = true := by simp
section
variable {X : Cx} {pins : List (Addr × Obj)} {σ : St} {H : Hp} {s : Shared}
end
section
variable {X : Cx}
end
end L2
set_option Elab.async false
set_option linter.all false
set_option maxRecDepth 100000
set_option maxHeartbeats 4000000
namespace L2
open PySem PySem.Spec PyProof.Rows
section
variable {X : Cx} {K : PySem.W.Frag}
theorem pi_or {tg l : Expr} {wi wj : TI} (h : PI X tg l wi) (h' : PI X tg l wj) : PI X tg l (fun σ H R => wi σ H R ∨ wj σ H R) := by
 intro pins s σ H R I q
 rcases q with q | q
 ·exact h pins s σ H R I q
 ·exact h' pins s σ H R I q
theorem bt_set : bootBuiltins "set" = some (.type "set") := by decide +kernel
theorem call_setSK (hK : X.K = K) (hc : X.calm = true) : CallR X (.type "set") (fun xs H Q => ∃ (p : Addr) (ys : List Str), xs = [.ref p] ∧ SqL K H p (ys.map V.str) ∧ ys.Nodup ∧ ys.length ≤ 1000 ∧ ∀ l, H l = none → Q (.ref l) (upd H l (setO l ys.length))) := hK ▸ call_setS hc
theorem call_setTK (hK : X.K = K) (hc : X.calm = true) (hu : X.A.units + 4 < cLine) : CallR X (.type "set") (fun xs H Q => ∃ (p : Addr) (qs : List Addr) (ks : List (List Key)), xs = [.ref p] ∧ SqT K H p (qs.map V.ref) ∧ ks.length = qs.length ∧ qs.length ≤ 4 ∧ ks.Nodup ∧
  (∀ (i : Nat) (q : Addr) (k : List Key), qs[i]? = some q → ks[i]? = some k → H q = some (.tup (k.map kV))) ∧ ∀ l, H l = none → Q (.ref l) (upd H l (setO l qs.length))) := hK ▸ call_setT hc hu
theorem call_tuple_frzK (hK : X.K = K) : CallR X (.type "tuple") (fun xs H Q => ∃ (p : Addr) (ys : List V), xs = [.ref p] ∧ SqL K H p ys ∧ ∀ (l : Addr) (o : Obj), H l = none → o.cls = .type "tuple" → o.dict = none → Q (.ref l) (upd H l (.frz o (.tup ys)))) := hK ▸ call_tuple_frz
end
structure FunD (K : PySem.W.Frag) (x qual : Str) (st : Stmt) (f : Addr) (dV : Value) (fd : FuncData) : Prop where
 ex : ∃ (oc : Value) (od : Option Addr) (kV doc pm : Value) (an : Option Addr) (cdv ct : Value) (osl : Array (Option Value)),
  fd = PySem.W.fnOf x qual (defArgs st) (defBody st) (defScope st) dV kV doc pm an cdv ct ∧ K.lookup f = some ⟨oc, od, .func fd, osl⟩ ∧ PySem.W.codeIn K cdv qual = true
 kp : PySem.W.keepIn K (.ref f) = true
section
variable {P : Program} {w : World} {K : PySem.W.Frag} {mg : Str → Option Value} {base : Heap}
theorem FunD.ok {x qual : Str} {st : Stmt} {f : Addr} {dV : Value} {fd : FuncData} {N ps : List Str} {k : Nat} {sp : Sp} (F : FunD K x qual st f dV fd) (S : FnScope N ps (defScope st)) (len : ∀ vs H Q E, sp vs H Q E → vs.length = ps.length)
  (hbody : ∀ (cdv : Value) (A : Around) (outer : List Env) (s : Shared) (H : Hp) (vs : List V) (Q : VK) (E : XK), Room k (A.deeper (envOfC qual (defScope st) s.heap.objs.size f cdv)) → sp vs H Q E →
   ∃ t, PSs (cxOf CX0 P w K mg base N qual (defScope st) f cdv A outer s H E).nox (defBody st) t ∧ t { nx := fun _ H' => Q .non H', rt := Q } (L2.start N vs) H) : FnOk P w K mg base CX0 (k + 1) f fd ps sp := by
 obtain ⟨oc, od, kV, doc, pm, an, cdv, ct, osl, rfl, lk, hcd⟩ := F.ex
 refine fn_of lk hcd S len fun A outer s H vs Q E hr hsp => ?_
 obtain ⟨t, h, q⟩ := hbody cdv A outer s H vs Q E hr hsp
 exact ⟨t, h.nox, q⟩
end
structure MxD (K : PySem.W.Frag) (C : Addr) (m qual : Str) (st : Stmt) where
 f : Addr
 fd : FuncData
 t : Addr
 o : Obj
 n : Nat
 fn : FunD K m qual st f (.ref t) fd
 lo : K.lookup t = some o
 da : o.data = .seq #[.none] n
 me : Meth K C m f
end L2
set_option Elab.async false
set_option linter.all false
set_option maxRecDepth 100000
set_option maxHeartbeats 4000000
namespace L2
open PySem PySem.Spec PyProof.Rows
section
variable {X : Cx} {pins : List (Addr × Obj)} {σ : St} {H : Hp} {s : Shared}
open Classical in
end
section
variable {X : Cx} {K : PySem.W.Frag}
open Classical in
end
end L2
set_option Elab.async false
set_option linter.all false
set_option maxRecDepth 100000
set_option maxHeartbeats 4000000
namespace L2
open PySem PySem.Spec PyProof.Rows
section
variable {prog : Program} {w : World} {A : Around} {E : Value → Shared → Prop} {s : Shared}
end
section
variable {prog : Program} {w : World} {A : Around} {E : Value → Shared → Prop} {s : Shared}
end
end L2
set_option Elab.async false
set_option linter.all false
set_option maxRecDepth 100000
set_option maxHeartbeats 4000000
namespace L2
open PySem PySem.Spec PyProof.Rows
section
variable {prog : Program} {w : World} {A : Around} {E : Value → Shared → Prop} {s : Shared}
end
section
variable {X : Cx} {pins : List (Addr × Obj)} {σ : St} {H : Hp} {s : Shared} {h' : Heap}
end
end L2
set_option Elab.async false
set_option linter.all false
set_option maxRecDepth 100000
set_option maxHeartbeats 4000000
namespace L2
open PySem PySem.Spec PyProof.Rows
section
variable {prog : Program} {w : World} {A : Around} {E : Value → Shared → Prop} {s : Shared}
end
end L2
set_option Elab.async false
set_option linter.all false
set_option maxRecDepth 100000
set_option maxHeartbeats 4000000
namespace L2
open PySem PySem.Spec PyProof.Rows
def rEqE (K : PySem.W.Frag) (neg : Bool) : R2 := fun x y H Q => ∃ a b xs, x = .ref a ∧ y = .ref b ∧ SqL K H a xs ∧ SqL K H b [] ∧ Q (.bl (if neg then !xs.isEmpty else xs.isEmpty)) H
theorem op_eqE {X : Cx} {K : PySem.W.Frag} (hK : X.K = K) (hu : X.A.units < cLine) : OpR X (compareOp .Eq) (rEqE K false) := by
 subst hK
 intro pins s σ H x y v u Q I rx ry h
 obtain ⟨a, b, xs, rfl, rfl, ha, hb, q⟩ := h
 cases xs with
 | nil => exact op_eqL hu pins s σ H _ _ v u Q I rx ry ⟨a, b, _, _, rfl, rfl, ha, hb, rfl, rfl, q⟩
 | cons z zs =>
  cases rx; cases ry
  obtain ⟨us, r1, p1, z1⟩ := I.list ha
  obtain ⟨ws, r2, p2, z2⟩ := I.list hb
  exact SeqAt.eq_list_lengthsAt p1.isList p2.isList (by simp [← r1.length, ← r2.length]) hu ⟨.bl false, H, I, rfl, q⟩
end L2
set_option Elab.async false
set_option linter.all false
set_option maxRecDepth 100000
set_option maxHeartbeats 4000000
namespace L2
open PySem PySem.Spec PyProof.Rows
end L2
set_option Elab.async false
set_option linter.all false
set_option maxRecDepth 100000
set_option maxHeartbeats 4000000
namespace L2
open PySem PySem.Spec PyProof.Rows
section
variable {X : Cx} {K : PySem.W.Frag}
end
section
variable {X : Cx} {pins : List (Addr × Obj)} {σ : St} {H : Hp} {s : Shared}
end
end L2
set_option Elab.async false
set_option linter.all false
set_option maxRecDepth 100000
set_option maxHeartbeats 4000000
namespace L2
open PySem PySem.Spec PyProof.Rows
section
variable {prog : Program} {w : World} {A : Around} {E : Value → Shared → Prop} {s : Shared}
end
end L2
set_option Elab.async false
set_option linter.all false
set_option maxRecDepth 100000
set_option maxHeartbeats 4000000
namespace L2
open PySem PySem.Spec PyProof.Rows
section
variable {X : Cx} {a b e : Expr} {es : List Expr} {te ta tb : TE} {t : TA} {pos : Pos}
end
end L2
set_option Elab.async false
set_option linter.all false
set_option maxRecDepth 100000
set_option maxHeartbeats 4000000
namespace L2
open PySem PySem.Spec PyProof.Rows
end L2
set_option Elab.async false
set_option linter.all false
set_option maxRecDepth 100000
set_option maxHeartbeats 4000000
namespace L2
open PySem PySem.Spec PyProof.Rows
section
variable {X : Cx} {a b e : Expr} {es : List Expr} {te ta tb : TE} {t : TA} {pos : Pos} {st : Stmt} {rest : List Stmt} {ts us : TS}
end
end L2
set_option Elab.async false
set_option linter.all false
set_option maxRecDepth 100000
set_option maxHeartbeats 4000000
namespace L2
open PySem PySem.Spec PyProof.Rows
section
variable {X : Cx} {ex : St → XK} {C : Addr} {x m qual : Str} {st : Stmt} {ps : List Str} {k : Nat} {sp : Sp} {o e : Expr} {es : List Expr} {ta : TE} {t : TA} {apos p pos : Pos}
theorem pe_mownX0 {pl : Sem Bool} {F : Mx X.K C m qual st ps} (c : Cls X.K C) (G : FnOk X.prog X.w X.K X.mg X.base (CX1 X.prog X.w) k F.f F.fd ps sp) (hex : X.ex = []) (hr : Room k X.A) (ho : PE (X.wish (XW X ex)) o ta)
  (ht : eval (.Call (.Attribute o m apos) [] [] pos) X.env = (do
   let ov ← eval o X.env
   standAt apos.atName
   let (f, first) ← holding [ov] (getMethod ov m pl)
   callWith pos f first (backTo pos (starEach [] X.env)) (backToKw pos (keywordEach [] X.env))) := by rfl) :
  PE (X.wish (XW X ex)) (.Call (.Attribute o m apos) [] [] pos) (tMethX C m sp ex ta tNil) := by
 intro pins s σ H Q I h
 refine PySem.W.methodCall_KW (pl := pl) (thn (ho pins s σ H _ I h) fun u s1 ho_ => ?_) ht
 obtain ⟨x, H1, I1, rx, a, dx, fs, e1, ea, l, q⟩ := ho_
 subst e1
 obtain rfl : u = Value.ref a := rx
 refine getmeth_ok I1 ea c F.me l ?_
 exact PySem.W.callWith_K0 (first := [.ref a]) I1.kIn F.me.kp (run_x (us := [.ref a]) (vs := [.ref a]) hex G hr F.bi I1 (.cons rfl .nil) q)
end
section
variable {P : Program} {w : World} {K : PySem.W.Frag} {mg : Str → Option Value} {base : Heap} {N : List Str} {qual : Str} {scope : Scope} {f : Addr} {cd : Value} {A : Around} {outer : List Env} {s0 : Shared} {H0 : Hp} {E : XK}
 {x : Str} {st : Stmt} {ps : List Str} {k : Nat} {sp : Sp} {e : Expr} {es : List Expr} {t : TA} {p pos : Pos}
end
end L2
set_option Elab.async false
set_option linter.all false
set_option maxRecDepth 100000
set_option maxHeartbeats 4000000
namespace L2
open PySem PySem.Spec PyProof.Rows
section
variable {X : Cx} {K : PySem.W.Frag} {e : Expr} {es : List Expr} {te : TE} {t : TA}
def tBL (K : PySem.W.Frag) (t : TE) : TT := fun σ H Q => t σ H fun x H1 => ∃ a xs, x = .ref a ∧ SqL K H1 a xs ∧ Q (!xs.isEmpty) H1
theorem pt_lstK (hK : X.K = K) (h : PE X e te) (he : ∀ whole, isTrue e X.env whole = (do let v ← whole; standAt e.pos; holding [v] (truthy v)) := by intro _; rfl) : PT X e (tBL K te) := by
 subst hK
 intro pins s σ H Q I hw
 refine isTrue_plain (thn (h pins s σ H _ I hw) fun v s1 ho_ => ?_) (he _)
 obtain ⟨x, H1, I1, r1, q1⟩ := ho_
 obtain ⟨a, xs, rfl, hq, q⟩ := q1
 cases r1
 obtain ⟨its, rv, p, hz⟩ := I1.list hq
 have hl := rv.length
 refine wpAny_truthy_list p.isList (by rw [List.size_toArray, ← hl]; have : sizeLine = 16777216 := sizeLine_eq; omega) ⟨H1, I1.tok _, ?_⟩
 have e : its.toArray.isEmpty = xs.isEmpty := by rw [List.isEmpty_toArray]; cases rv <;> rfl
 rw [e]
 exact q
end
section
variable {P : Program} {w : World} {K : PySem.W.Frag} {mg : Str → Option Value} {base : Heap}
theorem FnOk.down {k : Nat} {f : Addr} {fd : FuncData} {ps : List Str} {sp : Sp} (F : FnOk P w K mg base (CX1 P w) k f fd ps sp) : FnOk P w K mg base CX0 k f fd ps (fun vs H Q _ => sp vs H Q fun _ _ _ => False) := by
 refine ⟨fun vs H Q E h => F.len _ _ _ _ h, fun A outer s H args us vs Q E hr he hb hv hs => codeAny_mono (F.run A outer s H args us vs Q _ hr he hb hv hs) fun r s' h => ?_⟩
 cases r with
 | error e =>
  obtain ⟨a, cls, dd, T, H', _, _, _, _, _, _, _, _, _, _, z⟩ := h
  exact z.elim
 | ok fl => cases fl <;> exact h
end
section
variable {X : Cx} {C : Addr} {m qual : Str} {st : Stmt} {ps : List Str} {k : Nat} {sp : Sp} {o : Expr} {ta : TE} {apos pos : Pos}
end
section
variable {X : Cx} {K : PySem.W.Frag}
end
theorem has_cls {K : PySem.W.Frag} {D : Addr} (h : PySem.W.hasDictIn K D = true) : (PySem.W.clsIn K D).isSome = true := by
 obtain ⟨cd, hc, _⟩ := PySem.W.any_some h
 rw [hc]
 rfl
end L2
set_option Elab.async false
set_option linter.all false
set_option maxRecDepth 100000
set_option maxHeartbeats 4000000
namespace L2
open PySem PySem.Spec PyProof.Rows
section
variable {X : Cx} {elt tg iter : Expr} {ifs : List Expr} {scope : Scope} {pos : Pos} {N : List Str} {own : Nat} {caps : List Nat} {g : TG} {tt : TT} {te : TE}
end
section
variable {M : Model} {A : Around} {E : Value → Shared → Prop} {s : Shared} {base : Heap} {env : Env} {outer : List Env} {L e : Addr} {Q : Unit → Shared → Prop}
end
section
variable {P : Program} {w : World} {K : PySem.W.Frag} {mg : Str → Option Value} {base : Heap} {N : List Str} {qual : Str} {scope : Scope} {f : Addr} {cd : Value} {A : Around} {outer : List Env} {s0 : Shared} {H0 : Hp} {E : XK}
end
section
variable {X : Cx} {E : XK} {elt tg iter : Expr} {ifs : List Expr} {scope : Scope} {pos : Pos} {N : List Str} {own : Nat} {caps : List Nat} {g : TG} {tt : TT} {te : TE} {wi : TI}
end
section
variable {X : Cx} {ex : St → XK} {x : Str} {st : Stmt} {ps : List Str} {k : Nat} {sp : Sp} {e : Expr} {es : List Expr} {t : TA} {p pos : Pos}
end
section
variable {X : Cx} {ex : St → XK} {C f : Addr} {fd : FuncData} {x : Str} {ps : List Str} {k : Nat} {sp : Sp} {dvs : List V} {ds : List Value} {e : Expr} {es : List Expr} {t : TA} {p pos : Pos}
end
end L2
set_option Elab.async false
set_option linter.all false
set_option maxRecDepth 100000
set_option maxHeartbeats 4000000
namespace L2
open PySem PySem.Spec PyProof.Rows
section
variable {P : Program} {w : World} {κ : Type} [DecidableEq κ] {knd : PySem.KeyKind P w κ} {A : Around} {E : Value → Shared → Prop} {s : Shared}
end
section
variable {P : Program} {w : World} {κ : Type} [DecidableEq κ] {knd : PySem.KeyKind P w κ} {A : Around} {E : Value → Shared → Prop} {s : Shared}
end
section
variable {P : Program} {w : World} {A : Around} {E : Value → Shared → Prop} {s : Shared}
end
end L2
set_option Elab.async false
set_option linter.all false
set_option maxRecDepth 100000
set_option maxHeartbeats 4000000
namespace L2
open PySem PySem.Spec PyProof.Rows
section
variable {X : Cx}
end
section
variable {X : Cx} {K : PySem.W.Frag}
theorem ps_quiet {X : Cx} {st : Stmt} {t : TS} (h : PS X.nox st t) : PS X st t := fun pins s σ H D I q => wpAny_mono (thn (h pins s σ H D (I.wish _) q) fun _ _ z => z.unwish) (fun _ _ z => z) fun _ _ z => False.elim z
end
end L2
set_option Elab.async false
set_option linter.all false
set_option maxRecDepth 100000
set_option maxHeartbeats 4000000
namespace L2
open PySem PySem.Spec PyProof.Rows
section
variable {X : Cx} {a b e : Expr} {ta tb te : TE} {pos : Pos}
end
end L2
set_option Elab.async false
set_option linter.all false
set_option maxRecDepth 100000
set_option maxHeartbeats 4000000
namespace L2
open PySem PySem.Spec PyProof.Rows PySem.W
section
variable {prog : Program} {w : World} {A : Around} {E : Value → Shared → Prop} {s : Shared} {K : PySem.W.Frag} {x D : Addr} {ox : Obj} {od : Option Obj}
theorem exc_findO (Y : XIs K D) : findObj K D od "__class__" = some (.bind (.builtin "getset_descriptor.__get__") (.builtin "object.__class__")) := by
 obtain ⟨cd, hc⟩ := Option.isSome_iff_exists.mp Y.cl
 unfold findObj
 rw [hc, Option.bind_some, Y.ha, Option.bind_some]
 simp [Y.hn, Y.tk]
theorem exc_road {name : Str} {tk : Tok} {expr fill : Bool} {Q : Value → Shared → Prop} (Y : XIs K D) (X : K.In s.heap) (I : PySem.W.InstAt s.heap x ox D od)
  (h : ∀ A', wpAny (model prog w) A' (Builtin.«object.__getattribute__» ⟨[.ref x, .str name tk], []⟩) (fun fin s' => ∃ v, fin = .done (.ret v) ∧ handedIn v = true ∧ Q v s') (fun _ _ => False) s) :
  wpAny (model prog w) A (getAttrBy (.ref x) (.str name tk) fill expr) Q E s := by
 obtain ⟨hh, g, d, t, os⟩ := s
 have L0 := I.type (M := model prog w)
 have L1 := looks_findIn (M := model prog w) X Y.ga
 have L2 := looks_findIn (M := model prog w) X Y.gt
 have L3 := looks_mroIn (M := model prog w) X Y.hb
 unfold getAttrBy
 refine wpAny_holding (wpAny_bind (L0.at (wpAny_bind (L1.at ?_))))
 have e1 : (onTheHeap (Value.ref D) && Value.builtin "BaseException.__getattribute__" == Value.builtin "object.__getattribute__") = false := by rw [show (Value.builtin "BaseException.__getattribute__" == Value.builtin "object.__getattribute__") = false by decide +kernel]; rfl
 simp only [e1]
 rw [if_neg (by decide)]
 unfold getAttrByItsOwn hookBefore
 rw [if_pos (show onTheHeap (Value.ref D) = true from rfl)]
 refine wpAny_bind (L2.at (wpAny_bind (wpAny_attempt (wpAny_holding ?_))))
 unfold callGetattribute boundAndCalled
 rw [if_neg (by cases expr <;> decide)]
 rw [PySem.F.excAttr_ValueError.ga.bind]
 refine wpAny_bind (wpAny_pure (wpAny_call (codeAny_call_builtin PySem.F.excAttr_ValueError.ga.plain F.entry_bexc_ga ?_)))
 have hk : builtinKind "BaseException.__getattribute__" = some .slot := by decide +kernel
 have hsp : splitId "BaseException.__getattribute__" = some ("BaseException", "__getattribute__") := by decide +kernel
 have ha := F.args_bexc_ga (.ref x) (.str name tk)
 simp only [checkBuiltinCall, hk, hsp]
 have LI : Looks (model prog w) hh (isInstance (.ref x) (.type "BaseException")) true := L0.andThen L3
 refine wpAny_bind (LI.at ?_)
 rw [if_neg (by decide)]
 refine wpAny_of_eq (a := ()) ha ?_
 refine wpAny_mono (h _) (fun fin s' z => ?_) (fun _ _ z => z.elim)
 obtain ⟨v, rfl, hv, q⟩ := z
 exact handed_on hv q
theorem exc_getO {name : Str} {v : Value} {expr : Bool} {Q : Value → Shared → Prop} (Y : XIs K D) (X : K.In s.heap) (I : PySem.W.InstAt s.heap x ox D od) (hf : findObj K D od name = some (.value v)) (hh : handedIn v = true)
  (h : Q v { s with toks := s.toks + 1 }) : wpAny (model prog w) A (getAttr (.ref x) name expr) Q E s := by
 unfold getAttr
 obtain ⟨hp, g, d, t, os⟩ := s
 refine wpAny_bind (wpAny_mkText (exc_road (s := ⟨hp, g, d, t + 1, os⟩) Y X I fun A' => ?_))
 have L0 := I.type (M := model prog w)
 have L1 := looks_find (M := model prog w) X I hf
 unfold Builtin.«object.__getattribute__»
 refine wpAny_bind (wpAny_pure ?_)
 refine wpAny_bind (wpAny_pure ?_)
 refine wpAny_bind (L0.at (wpAny_bind (L1.at ?_)))
 exact wpAny_pure ⟨v, rfl, hh, h⟩
theorem exc_classO {Q : Option Value → Shared → Prop} (Y : XIs K D) (X : K.In s.heap) (I : PySem.W.InstAt s.heap x ox D od) (h : Q (some (.ref D)) { s with toks := s.toks + 1 }) :
  wpAny (model prog w) A (getAttr? (.ref x) "__class__") Q E s := by
 unfold getAttr? getAttrBy?
 obtain ⟨hh, g, d, t, os⟩ := s
 have L0 := I.type (M := model prog w)
 have L1 := looks_find (M := model prog w) X I (exc_findO Y)
 refine wpAny_bind (wpAny_mkText (wpAny_bind (wpAny_attempt (exc_road (s := ⟨hh, g, d, t + 1, os⟩) Y X I fun A' => ?_))))
 unfold Builtin.«object.__getattribute__»
 refine wpAny_bind (wpAny_pure ?_)
 refine wpAny_bind (wpAny_pure ?_)
 refine wpAny_bind (L0.at (wpAny_bind (L1.at ?_)))
 show wpAny _ _ (Builtin.ObjectAttr.bindTo _ _ _ _) _ _ _
 show wpAny _ _ (holding [Value.builtin "object.__class__"] (call (.builtin "getset_descriptor.__get__") [.builtin "object.__class__", .ref x, .ref D]) >>= ret) _ _ _
 exact wpAny_bind (wpAny_holding (wpAny_call (class_get (ox := ox) (od := od) (s := ⟨hh, g, d, t + 1, os⟩) X I Y.hm (wpAny_pure ⟨_, rfl, rfl, wpAny_pure h⟩))))
theorem kitx_excO (Y : XIs K D) : KitX K (.ref x) (.ref D) (fun h => ∃ ox od, PySem.W.InstAt h x ox D od) where
 ty := fun _ _ _ ⟨_, _, I⟩ => I.type
 it := fun _ _ X _ => by
  obtain ⟨cd, hc⟩ := Option.isSome_iff_exists.mp Y.cl
  unfold clsIn at hc
  split at hc
  case h_2 => cases hc
  case h_1 ho =>
   intro A' Q' E' s' k q
   unfold isType loadHead
   exact wpAny_bind (wpAny_loadPart (k _ _ (X _ _ ho)) (wpAny_pure q))
 ne := fun h tp dd its n sl X htp => by
  obtain ⟨cd, hc⟩ := Option.isSome_iff_exists.mp Y.cl
  refine Bool.eq_false_iff.mpr fun q => ?_
  have e : D = tp := Value.ref.inj (beq_iff_eq.mp q)
  subst e
  unfold clsIn at hc
  split at hc
  case h_2 => cases hc
  case h_1 ho =>
   rw [X _ _ ho] at htp
   cases htp
 ca := fun X ⟨_, _, I⟩ k => exc_classO Y X I k
end
abbrev newF (t : Addr) : Array Value := #[.ref t, .none, .none, .none, .bool false, .none]
def excX (a D : Addr) (dd : Option Addr) (nw : Bool) : HO := .ext fun h => ∃ ox vs, h.get? a = some ox ∧ ox.cls = .ref D ∧ ox.dict = dd ∧ ox.data = .fields vs ∧ (nw = true → ∃ t, vs = newF t)
def xdO (d : Addr) (fs : List (Str × V)) : HO := .ext fun h => ∃ mA, h.Ns1 d mA ∧ ∀ f, RelO (fs.lookup f) (mA f)
theorem xdO_ok {P : Program} {w : World} {H : Hp} {h : Heap} {d : Addr} {fs : List (Str × V)} {mA : Str → Option Value} (n : h.Ns1 d mA) (r : ∀ f, RelO (fs.lookup f) (mA f)) : ObjOk P w H h d (xdO d fs) := by
 obtain ⟨o, es, ep, e, q⟩ := id n
 refine ⟨⟨mA, n, r⟩, ⟨o, e⟩, fun h1 h2 ⟨m, ⟨o, es, ep, e, q⟩, r⟩ k => ⟨m, ⟨o, es, ep, k _ e, q⟩, r⟩⟩
def XD (H : Hp) (dd : Option Addr) : Prop := dd = none ∨ ∃ d fs, dd = some d ∧ H d = some (xdO d fs)
theorem excX_ok {P : Program} {w : World} {H : Hp} {h : Heap} {a D : Addr} {dd : Option Addr} {nw : Bool} {ox : Obj} {vs : Array Value} (e : h.get? a = some ox) (c : ox.cls = .ref D) (d : ox.dict = dd) (f : ox.data = .fields vs) (n : nw = true → ∃ t, vs = newF t) :
  ObjOk P w H h a (excX a D dd nw) := ⟨⟨ox, vs, e, c, d, f, n⟩, ⟨ox, e⟩, fun h1 h2 ⟨ox, vs, e, r⟩ k => ⟨ox, vs, k _ e, r⟩⟩
theorem XD.inst {P : Program} {w : World} {H : Hp} {h : Heap} {a D : Addr} {dd : Option Addr} {nw : Bool} (ok : HOk P w H h) (ea : H a = some (excX a D dd nw)) (x : XD H dd) : ∃ ox od, PySem.W.InstAt h a ox D od := by
 obtain ⟨⟨ox, vs, e, c, d, f, n⟩, _⟩ := ok a _ ea
 have nc : PySem.W.notCls ox = true := by unfold PySem.W.notCls; rw [f]
 rcases x with rfl | ⟨dx, fs, rfl, hd⟩
 ·exact ⟨ox, none, e, c, nc, by rw [d]; trivial⟩
 ·obtain ⟨⟨mA, ⟨o, es, ep, eo, _⟩, _⟩, _⟩ := ok dx _ hd
  exact ⟨ox, some o, e, c, nc, by rw [d]; exact eo⟩
section
variable {X : Cx} {K : PySem.W.Frag}
theorem call_isY (hK : X.K = K) : CallR X (.builtin "isinstance") (fun xs H Q => ∃ a c D dd nw b, xs = [.ref a, .ref c] ∧ H a = some (excX a D dd nw) ∧ XD H dd ∧ XIs K D ∧ PySem.W.kitOne K (.ref D) (.ref c) = some b ∧ Q (.bl b) H) := by
 subst hK
 intro pins s σ H xs us Q I r h
 obtain ⟨a, c, D, dd, nw, b, rfl, ea, xd, Y, hk, q⟩ := h
 obtain ⟨v, w', rfl, rx, rw'⟩ := vals2 r
 cases rx
 cases rw'
 exact PySem.W.kia_one (kitx_excO Y) I.kIn (xd.inst I.hok ea) hk (fun z => nomatch z) fun tk => ⟨.bl b, H, I.tok tk, rfl, q⟩
structure XGet (K : PySem.W.Frag) (D : Addr) (f : Str) : Prop where
 is : XIs K D
 no : findIn K (.ref D) f = some none
 hd : hasDictIn K D = true
def tXFld (K : PySem.W.Frag) (ta : TE) (f : Str) : TE := fun σ H Q => ta σ H fun x H1 => ∃ a D d nw fs v, x = .ref a ∧ H1 a = some (excX a D (some d) nw) ∧ H1 d = some (xdO d fs) ∧ XGet K D f ∧ fs.lookup f = some v ∧ Q v H1
theorem pe_xfld {e : Expr} {f : Str} {pos : Pos} {ta : TE} (hK : X.K = K) (he : PE X e ta) (hb : attributeBase e f X.env (eval e X.env) = eval e X.env) : PE X (.Attribute e f pos) (tXFld K ta f) := by
 subst hK
 intro pins s σ H Q I h
 refine attr_of hb (thn (he pins s σ H _ I h) fun u s1 ⟨x, H1, I1, rx, a, D, d, nw, fs, v, ex, ea, ed, G, l, q⟩ => ?_)
 subst ex
 obtain rfl : u = Value.ref a := rx
 obtain ⟨⟨mA, ns, r⟩, _⟩ := I1.hok d _ ed
 obtain ⟨⟨ox, vs, e1, c1, d1, f1, n1⟩, _⟩ := I1.hok a _ ea
 obtain ⟨o, ho, lk⟩ := lookIn_ns ns
 obtain ⟨u, hu, ru⟩ := RelO.some_of (v := v) (o := mA f) (by rw [← l]; exact r f)
 have nc : PySem.W.notCls ox = true := by unfold PySem.W.notCls; rw [f1]
 have J : PySem.W.InstAt s1.heap a ox D (some o) := ⟨e1, c1, nc, by rw [d1]; exact ho⟩
 obtain ⟨cd, hc, hdc⟩ := PySem.W.any_some G.hd
 have hf : findObj X.K D (some o) f = some (.value u) := by
  unfold findObj
  rw [hc, Option.bind_some, G.no, Option.bind_some]
  show (PySem.W.ownOf cd (some o) f).bind _ = _
  unfold PySem.W.ownOf
  rw [hdc, if_pos rfl]
  dsimp only
  rw [lk, hu]
  rfl
 exact exc_getO G.is I1.kIn J hf (handed_of ru) ⟨v, H1, I1.tok _, ru, q⟩
end
end L2
set_option Elab.async false
set_option linter.all false
set_option maxRecDepth 100000
set_option maxHeartbeats 4000000
namespace L2
open PySem PySem.Spec PyProof.Rows PySem.W PySem.Builtin PySem.Builtin.ObjectAttr
def onlyExc : List Value → Bool
 | .ref _ :: r => onlyExc r
 | [.type a, .type b, .type c, .type d] => a == "ValueError" && b == "Exception" && c == "BaseException" && d == "object"
 | _ => false
theorem onlyExc_refs : ∀ {l : List Value}, onlyExc l = true → ∃ (rs : List Addr), l = rs.map Value.ref ++ VB
 | .ref a :: r, e => by
  obtain ⟨rs, h⟩ := onlyExc_refs (l := r) (by unfold onlyExc at e; exact e)
  exact ⟨a :: rs, by rw [h]; rfl⟩
 | [.type a, .type b, .type c, .type d], e => by
  unfold onlyExc at e
  simp only [Bool.and_eq_true, beq_iff_eq] at e
  obtain ⟨⟨⟨rfl, rfl⟩, rfl⟩, rfl⟩ := e
  exact ⟨[], rfl⟩
theorem refuse_refs (self : Value) : ∀ (rs : List Addr), refuseLoop self "__setattr__" (rs.map Value.ref ++ VB) = pure ()
 | [] => PySem.F.store_ValueError.passes self
 | r :: rs => by
  show refuseLoop self "__setattr__" (.ref r :: (rs.map Value.ref ++ VB)) = pure ()
  rw [refuseLoop_ref]
  exact refuse_refs self rs
theorem has_object (rs : List Addr) : (rs.map Value.ref ++ VB).contains (.type "object") = true := by
 rw [List.contains_iff_mem]
 exact List.mem_append_right _ (by simp)
section
variable {prog : Program} {w : World} {A : Around} {K : PySem.W.Frag} {C x : Addr} {s : Shared} {R : Result → Shared → Prop} {E : Value → Shared → Prop}
structure XSet (K : PySem.W.Frag) (D : Addr) (f : Str) : Prop where
 sa : findIn K (.ref D) "__setattr__" = some (some (.builtin "object.__setattr__"))
 mr : (clsIn K D).any (fun cd => onlyExc cd.mro) = true
 no : findIn K (.ref D) f = some none
 hd : hasDictIn K D = true
theorem osa_exc {ox : Obj} {od : Option Obj} {name : Str} {tk : Tok} {v : Value} (X : K.In s.heap) (I : PySem.W.InstAt s.heap x ox C od) (Y : XSet K C name)
  (h : ∀ b, wpAny (model prog w) A.in1 (storeInOwnDict (.ref x) (.ref C) (.str name tk) name v b)
   (fun fin s' => match fin with | .done f => R (.ok f) s' | .again c' => c'.quiet = true ∧ codeAny (model prog w) A c' R s') (fun e s' => R (.error e) s') s) :
  codeAny (model prog w) A (.call (.builtin "object.__setattr__") ⟨[.ref x, .str name tk, v], []⟩) R s := by
 have SF := PySem.F.store_object
 obtain ⟨cd, hc, ho⟩ := any_some Y.mr
 obtain ⟨rs, hm⟩ := onlyExc_refs ho
 have ne : cd.mro.isEmpty = false := by rw [hm]; cases rs <;> rfl
 have sub : Looks (model prog w) s.heap (isInstance (.ref x) (.type "object")) true := I.type.andThen (looks_mroIn X (by unfold mroIn; rw [hc, Option.bind_some, if_neg (by rw [ne]; decide), hm, has_object]))
 refine codeAny_call_builtin SF.slot.plain SF.entry (@check_slot (model prog w) _ _ s "object.__setattr__" "object" "__setattr__" (.ref x) [.str name tk, v] [] _ SF.kind SF.split sub (SF.args (.ref x) (.str name tk) v) ?_)
 have hmr : Looks (model prog w) s.heap (mroOf (.ref C)) cd.mro := (looks_clsIn X hc).andThen .now
 have L3 : Looks (model prog w) s.heap (storeTaker? none) none := .now
 rw [osa_eq, refuse_eq]
 refine wpAny_bind (wpAny_bind (I.type.here (wpAny_bind (hmr.here ?_))))
 rw [hm, refuse_refs]
 refine wpAny_pure (wpAny_bind (I.type.here (wpAny_bind ((looks_findIn X Y.no).here (wpAny_bind (L3.here ?_))))))
 exact h _
theorem set_exc0 {ox : Obj} {vs : Array Value} {name : Str} {v : Value} {Q : Unit → Shared → Prop} (X : K.In s.heap) (hx : s.heap.get? x = some ox) (hcl : ox.cls = .ref C) (hdd : ox.dict = none) (hdt : ox.data = .fields vs) (Y : XSet K C name)
  (h : ∀ h' d', h'.Ns1 d' (fun y => if y = name then some v else none) → h'.get? x = some { ox with dict := some d' } → (∀ b o, b ≠ x → s.heap.get? b = some o → h'.get? b = some o) → s.heap.get? d' = none → d' ≠ x → (∃ o, h'.get? d' = some o) →
   s.heap.objs.size ≤ d' → Q () { s with heap := h', toks := s.toks + 2 }) :
  wpAny (model prog w) A (setAttr (.ref x) name v) Q E s := by
 obtain ⟨hh, g, d, t, os⟩ := s
 obtain ⟨oc, od, oda, osl⟩ := ox
 simp only at hcl hdd hdt
 subst hcl hdd hdt
 have I : PySem.W.InstAt hh x ⟨.ref C, none, .fields vs, osl⟩ C none := ⟨hx, rfl, rfl, True.intro⟩
 refine PySem.W.set_plain X I Y.sa (osa_exc (s := ⟨hh, g, d, t + 1, os⟩) X I Y fun b => ?_)
 obtain ⟨cd, hc, hd'⟩ := PySem.W.any_some Y.hd
 refine wpAny_bind (wpAny_pure (wpAny_bind (wpAny_bind (wpAny_loadPart hx (wpAny_bind (PySem.W.Looks.here (s := ⟨hh, g, d, t + 1, os⟩) (PySem.W.looks_clsIn X hc) ?_))))))
 rw [hd']
 have hx1 : (hh.push { cls := .type "dict", data := .dict #[] }).get? x = some ⟨.ref C, none, .fields vs, osl⟩ := Heap.get?_push_of_some _ hx
 have hxs : x ≠ hh.objs.size := Nat.ne_of_lt (Heap.lt_size hx)
 refine wpAny_bind (wpAny_alloc' ?_)
 refine wpAny_bind (wpAny_update' hx1 ?_)
 refine wpAny_pure ?_
 have hgd : ((hh.push { cls := .type "dict", data := .dict #[] }).update x fun o => { cls := o.cls, dict := some hh.objs.size, data := o.data, slots := o.slots }).get? hh.objs.size
   = some { cls := .type "dict", data := .dict #[] } :=
  (Heap.get?_update_ne _ _ _ _ hxs.symm).trans (Heap.get?_push_at rfl rfl)
 have hnd : ((hh.push { cls := .type "dict", data := .dict #[] }).update x fun o => { cls := o.cls, dict := some hh.objs.size, data := o.data, slots := o.slots }).Ns hh.objs.size (fun _ => none) :=
  ⟨_, #[], _, hgd, rfl, fun e he => absurd he (by simp), fun _ => rfl⟩
 show wpAny _ _ (storeInDict hh.objs.size (.str name _) name v) _ _ _
 unfold storeInDict newKeyGuard
 refine wpAny_bind (wpAny_pure (wpAny_bind (wpAny_nsSet1 (Heap.Ns1.of_empty hnd) fun h' hn' hs => ?_)))
 obtain ⟨oD, esD, epD, hoD, hdD, hcD⟩ := hn'.count (Within.cons name v Within.nil)
 refine wpAny_bind (wpAny_lookBehind hoD (by rw [hdD]; exact pastItsLine_dict (Nat.le_trans hcD (by rw [List.length_cons, List.length_nil, sizeLine_eq]; omega))) ?_)
 refine wpAny_pure (h h' hh.objs.size ?_ ?_ (fun b o hb e => ?_) (Heap.get?_none_of_le (Nat.le_refl _)) hxs.symm ⟨_, hoD⟩ (Nat.le_refl _))
 ·exact hn'
 ·refine (hs.2 x hxs).trans (Heap.get?_update_self _ hx1 rfl)
 ·exact (hs.2 b (Nat.ne_of_lt (Heap.lt_size e))).trans ((Heap.get?_update_ne _ _ _ _ hb).trans (Heap.get?_push_of_some _ e))
theorem set_exc1 {ox : Obj} {vs : Array Value} {name : Str} {v : Value} {dx : Addr} {mA : Str → Option Value} {ns : List Str} {Q : Unit → Shared → Prop} (X : K.In s.heap) (hx : s.heap.get? x = some ox) (hcl : ox.cls = .ref C) (hdd : ox.dict = some dx) (hdt : ox.data = .fields vs) (Y : XSet K C name)
  (hn : s.heap.Ns1 dx mA) (hw : Within mA ns) (hsz : ns.length ≤ sizeLine) (h : ∀ h', h'.Ns1 dx (fun y => if y = name then some v else mA y) → Heap.SameBut dx s.heap h' → Q () { s with heap := h', toks := s.toks + 2 }) :
  wpAny (model prog w) A (setAttr (.ref x) name v) Q E s := by
 obtain ⟨hh, g, d, t, os⟩ := s
 obtain ⟨oc, od, oda, osl⟩ := ox
 simp only at hcl hdd hdt
 subst hcl hdd hdt
 obtain ⟨o, es, ep, ho, _⟩ := id hn
 have I : PySem.W.InstAt hh x ⟨.ref C, some dx, .fields vs, osl⟩ C (some o) := ⟨hx, rfl, rfl, ho⟩
 refine PySem.W.set_plain X I Y.sa (osa_exc (s := ⟨hh, g, d, t + 1, os⟩) X I Y fun b => ?_)
 obtain ⟨cd, hc, hd'⟩ := PySem.W.any_some Y.hd
 refine wpAny_bind (wpAny_pure (wpAny_bind (wpAny_bind (wpAny_loadPart hx (wpAny_bind (PySem.W.Looks.here (s := ⟨hh, g, d, t + 1, os⟩) (PySem.W.looks_clsIn X hc) ?_))))))
 rw [hd']
 refine wpAny_pure (a := some dx) (wpAny_bind (wpAny_pure (wpAny_bind ?_)))
 refine wpAny_nsSet1 (s := ⟨hh, g, d, t + 1, os⟩) hn fun h' hn2 hs2 => ?_
 obtain ⟨oD, esD, epD, hoD, hdD, hcD⟩ := hn2.count (PySem.Within.cons name v hw)
 refine wpAny_bind (wpAny_lookBehind hoD (by rw [hdD]; exact pastItsLine_dict (Nat.le_trans hcD (by rw [List.length_cons]; omega))) ?_)
 exact wpAny_pure (h _ hn2 hs2)
end
def sXFld (K : PySem.W.Frag) (ta tv : TE) (f : Str) : TS := fun D σ H => tv σ H fun y H1 => ta σ H1 fun x H2 => ∃ a C nw, x = .ref a ∧ XSet K C f ∧
 ((H2 a = some (excX a C none nw) ∧ ∀ d, H2 d = none → d ≠ a → D.nx σ (upd (upd H2 a (excX a C (some d) nw)) d (xdO d [(f, y)]))) ∨
  ∃ d fs, H2 a = some (excX a C (some d) nw) ∧ H2 d = some (xdO d fs) ∧ fs.length < 1000 ∧ D.nx σ (upd H2 d (xdO d (putF f y fs))))
section
variable {X : Cx} {K : PySem.W.Frag}
theorem ps_xfld {o value : Expr} {f : Str} {pos pos' : Pos} {ta tv : TE} (hK : X.K = K) (hex : X.ex = []) (ha : PE X o ta) (hv : PE X value tv) (hs : swapsWith value (some (.Attribute o f pos')) pos.line X.env = pure false) :
  PS X (.Assign [.Attribute o f pos'] value pos) (sXFld K ta tv f) := by
 subst hK
 intro pins s σ H D I h
 refine plainObj_wpAny_Assign_Attribute (thn (hv pins s σ H _ I h) fun u s1 ⟨y, H1, I1, ry, q⟩ => thn (ha pins s1 σ H1 _ I1 q) fun ov s2 ho_ => ?_) hs
 obtain ⟨x, H2, I2, rx, a, C, nw, ex, Y, q2⟩ := ho_
 subst ex
 obtain rfl : ov = Value.ref a := rx
 rcases q2 with ⟨ea, q2⟩ | ⟨d, fs, ea, ed, hl, q2⟩
 ·obtain ⟨⟨ox, vs, e1, c1, d1, f1, n1⟩, _⟩ := I2.hok a _ ea
  refine set_exc0 I2.kIn e1 c1 d1 f1 Y fun h' d' hn hx' kp nd ne hod _ => ?_
  have aw := I2.away hex nd
  have I3 : Inv X pins σ (upd H2 a (excX a C (some d') nw)) { s2 with heap := h', toks := s2.toks + 2 } :=
   I2.write (x := a) (e := a) (by rw [ea]; exact True.intro) (.inl rfl) (fun b w hb e => kp b w hb e) ⟨_, hx'⟩ (excX_ok hx' c1 rfl f1 n1)
  refine ⟨σ, _, I3.track (o := xdO d' [(f, y)]) hex ⟨by rw [upd_ne ne]; exact aw.n, aw.z, aw.l, aw.c, aw.p⟩ (xdO_ok hn fun g => ?_), q2 d' aw.n ne⟩
  by_cases z : g = f
  ·have hb : (g == f) = true := beq_iff_eq.mpr z
   simp only [List.lookup, hb, if_pos z]
   exact ry
  ·have hb : (g == f) = false := beq_eq_false_iff_ne.mpr z
   simp only [List.lookup, hb, if_neg z]
   exact True.intro
 ·obtain ⟨⟨ox, vs, e1, c1, d1, f1, n1⟩, _⟩ := I2.hok a _ ea
  obtain ⟨⟨mA, hn, r⟩, _⟩ := I2.hok d _ ed
  have wi : PySem.Within mA (fs.map (·.1)) := fun g hg => by
   by_cases m : g ∈ fs.map (·.1)
   ·exact m
   ·have : fs.lookup g = none := by
     rw [List.lookup_eq_none_iff]
     intro p hp
     simp only [bne_iff_ne, ne_eq]
     exact fun z => m (List.mem_map.mpr ⟨p, hp, z.symm⟩)
    exact absurd (RelO.none_of (by rw [← this]; exact r g)) hg
  refine set_exc1 I2.kIn e1 c1 d1 f1 Y hn wi (by rw [List.length_map, sizeLine_eq]; omega) fun h' hn' sb => ?_
  refine ⟨σ, _, I2.write (x := d) (e := d) (by rw [ed]; exact True.intro) (.inl rfl) (fun b w hb e => (sb.2 b hb).trans e) (let ⟨o, _, _, e', _⟩ := hn'; ⟨o, e'⟩) (xdO_ok hn' fun g => ?_), q2⟩
  show RelO ((putF f y fs).lookup g) (if g = f then some u else mA g)
  rw [lookup_putF]
  by_cases q : g = f
  ·rw [if_pos q, if_pos q]; exact ry
  ·rw [if_neg q, if_neg q]; exact r g
end
end L2
set_option Elab.async false
set_option linter.all false
set_option maxRecDepth 100000
set_option maxHeartbeats 4000000
namespace L2
open PySem PySem.Spec PyProof.Rows PySem.W
def exiIn (K : PySem.W.Frag) (C f : Addr) : Bool := match K.lookup C with
 | some ⟨.type "type", _, .cls cd, sl⟩ => (match cd.mro, sl.toList with
  | .ref C' :: bm, [_, _, _, _, some (.builtin n), _] => C' == C && n == "ValueError.__new__" && !cd.hasDel && tailIn K VB bm && nsOkIn K cd.ns && nsIn K cd.ns "__init__" == some (some (.ref f))
  | _, _ => false)
 | _ => false
theorem ns_some {K : PySem.W.Frag} {h : Heap} {N : Addr} {m : Str → Option Value} {x : Str} {v : Value} (X : K.In h) (G : h.Ns N m) (e : nsIn K N x = some (some v)) : m x = some v := by
 obtain ⟨ob, rows, pp, g1, g2, g3, g4⟩ := G
 unfold nsIn at e
 split at e
 case h_2 => cases e
 case h_1 c1 d1 rows' n1 sl1 lk =>
  have same := X _ _ lk
  rw [g1] at same
  cases same
  cases g2
  split at e
  case h_1 en found =>
   cases e
   rw [← g4]
   unfold nsFind findBy
   rw [← Array.find?_toList, found]; rfl
  case h_2 => split at e <;> cases e
theorem nsMap_some {K : PySem.W.Frag} {h : Heap} {N : Addr} {x : Str} {v : Value} (X : K.In h) (ok : nsOkIn K N = true) (e : nsIn K N x = some (some v)) : h.nsMap N x = some v := ns_some X (.of_isNs (isNs_of_in X ok)) e
theorem exi_par {K : PySem.W.Frag} {C f : Addr} (q : exiIn K C f = true) :
  ∃ (bm : List Value) (N : Addr) (nm qn : Str) (bs : List Value) (hdct : Bool) (sn : List Str) (sub : List Value) (ab : Bool) (col : Option Bool) (dd : Option Addr) (k0 k1 k2 k3 k5 : Option Value), ∀ h : Heap, K.In h →
   h.get? C = some (excClassObj nm qn C N bs bm hdct sn sub ab col dd k0 k1 k2 k3 k5 "ValueError.__new__") ∧ (∃ mN, h.Ns N mN ∧ mN "__init__" = some (.ref f)) ∧ OwnTail h VB bm := by
 unfold exiIn at q
 split at q
 case h_2 => cases q
 case h_1 dd cd sl ho =>
  split at q
  case h_2 => cases q
  case h_1 C' bm k0 k1 k2 k3 n k5 hm hs =>
   obtain ⟨nm, bs, mro, ns, qn, hdt, sn, sub, ab, col, del⟩ := cd
   obtain ⟨l⟩ := sl
   simp only [Bool.and_eq_true, beq_iff_eq, Bool.not_eq_true'] at q
   obtain ⟨⟨⟨⟨⟨q1, q2⟩, q3⟩, q4⟩, q5⟩, q6⟩ := q
   subst q1 q2
   simp only at hm hs q3 q5 q6
   subst hm hs q3
   exact ⟨bm, ns, nm, qn, bs, hdt, sn, sub, ab, col, dd, k0, k1, k2, k3, k5, fun h X => ⟨X _ _ ho, ⟨_, .of_isNs (PySem.W.isNs_of_in X q5), nsMap_some X q5 q6⟩, PySem.W.tail_of_in X q4⟩⟩
section
variable {prog : Program} {w : World} {A : Around} {E : Value → Shared → Prop} {hp : Heap} {g : Array GenState} {d : Drawn} {t : Nat} {os : OsState}
variable {nm qn : Str} {C N : Addr} {bs bm : List Value} {hdct : Bool} {sn : List Str} {sub : List Value} {ab : Bool} {col : Option Bool} {dd : Option Addr} {k0 k1 k2 k3 k5 : Option Value}
theorem type_call_init (T : OwnTail hp VB bm) {mN : Str → Option Value} {xs : List Value} {fI : Addr} {oI : Obj} {Q : Fin → Shared → Prop}
  (hC : hp.get? C = some (excClassObj nm qn C N bs bm hdct sn sub ab col dd k0 k1 k2 k3 k5 "ValueError.__new__")) (hn : hp.Ns N mN) (hi : mN "__init__" = some (.ref fI))
  (hfI : hp.get? fI = some oI) (hfc : oI.cls = .type "function") (hxs : xs.length ≤ sizeLine)
  (hq : ∀ h' e, Heap.MadeExcOf hp h' e (.ref C) xs → wpAny (model prog w) A (call (.ref fI) (.ref e :: xs)) (fun r s' => r = .none ∧ Q (.done (.ret (.ref e))) s') E ⟨h', g, d, t, os⟩) :
  wpAny (model prog w) A (Builtin.«type.__call__» ⟨.ref C :: xs, []⟩) Q E ⟨hp, g, d, t, os⟩ := by
 have F := PySem.F.excBase_ValueError
 repeat (first | with_reducible refine wpAny_loadPart_at hC ?_ | with_reducible refine wpAny_madeBy_exc hC ?_ | wp_step)
 refine codeAny_call_builtin_code (Code.quiet_builtin _ F.quiet) (wpAny_check_new_subU F F.hasB T hC (codeAny_exc_new_subU F F.hasB F T hC ?_ hxs))
 show wpAny _ _ _ _ _ _
 generalize o1 : ({ cls := .type "tuple", data := .seq xs.toArray } : Obj) = ot
 generalize o2 : ({ cls := .ref C, data := .fields #[.ref hp.objs.size, .none, .none, .none, .bool false, .none] } : Obj) = oe
 have up : ∀ {b : Addr} {o : Obj}, hp.get? b = some o → ((hp.push ot).push oe).get? b = some o := fun z => Heap.get?_push_of_some _ (Heap.get?_push_of_some _ z)
 have cls := up hC
 have nsp : ((hp.push ot).push oe).Ns N mN := let ⟨o, es, ep, e, r⟩ := hn; ⟨o, es, ep, up e, r⟩
 have made : ((hp.push ot).push oe).get? (hp.objs.size + 1) = some oe := by
  have z := Heap.get?_push_size (hp.push ot) (o := oe) (by rw [← o2]; rfl)
  rwa [Heap.size_push] at z
 have self : (Value.ref C :: bm).contains (.ref C) = true := by rw [List.contains_cons, beq_self_eq_true]; rfl
 have T1 := T.keeps (h' := (hp.push ot).push oe) fun b o e => up e
 unfold isInstance
 have mcls : oe.cls = .ref C := by rw [← o2]
 repeat (first | (with_reducible refine wpAny_loadPart_at made ?_; rw [mcls]) | (with_reducible refine wpAny_isSubtype_exc cls ?_; rw [self]) | wp_step)
 refine wpAny_typeLookup_tail cls nsp T1 F.mroIs F.init.lookup ?_
 rw [hi]
 refine wpAny_holding (wpAny_bind ?_)
 unfold bindSpecial
 refine wpAny_bind (wpAny_typeOf (T := "function") ⟨_, up hfI, hfc⟩ ?_)
 rw [if_pos (by decide)]
 have mk : Heap.MadeExcOf hp ((hp.push ot).push oe) (hp.objs.size + 1) (.ref C) xs := by
  refine ⟨fun b o hb => up hb, Heap.get?_none_of_le (Nat.le_succ _), hp.objs.size, by rw [made, ← o2], Heap.get?_none_of_le (Nat.le_refl _), ?_⟩
  rw [Heap.get?_push_of_some _ (Heap.get?_push_at rfl (by rw [← o1]; rfl)), ← o1]
 refine wpAny_pure (wpAny_bind (wpAny_mono (hq _ (hp.objs.size + 1) mk) (fun r s' hr => ?_) fun _ _ x => x))
 obtain ⟨rfl, z⟩ := hr
 wp_walk
 exact z
theorem call_init (T : OwnTail hp VB bm) {mN : Str → Option Value} {xs : List Value} {fI : Addr} {oI : Obj} {Q : Value → Shared → Prop}
  (hC : hp.get? C = some (excClassObj nm qn C N bs bm hdct sn sub ab col dd k0 k1 k2 k3 k5 "ValueError.__new__")) (hn : hp.Ns N mN) (hi : mN "__init__" = some (.ref fI))
  (hfI : hp.get? fI = some oI) (hfc : oI.cls = .type "function") (hxs : xs.length ≤ sizeLine)
  (hq : ∀ h' e, Heap.MadeExcOf hp h' e (.ref C) xs → wpAny (model prog w) (A.under (.builtin "type.__call__" ⟨.ref C :: xs, []⟩)) (call (.ref fI) (.ref e :: xs)) (fun r s' => r = .none ∧ Q (.ref e) s') E ⟨h', g, d, t, os⟩) :
  wpAny (model prog w) A (call (.ref C) xs) Q E ⟨hp, g, d, t, os⟩ := by
 have f1 := tc_lookup
 have f2 := tc_bind (.ref C)
 have ty : (⟨hp, g, d, t, os⟩ : Shared).TypeIs (.ref C) "type" := ⟨_, hC, rfl⟩
 refine wpAny_call (codeAny_of_tree ?_)
 show wpAny _ _ (callAny (.ref C) _) _ _ _
 repeat (any_goals (first | assumption | with_reducible refine wpAny_loadPart_at hC ?_ | wp_step))
 refine ⟨rfl, codeAny_call_builtin_at (Code.quiet_builtin _ (by decide +kernel)) entry_typeCall (wpAny_check_type_call_sub hC (type_call_init T hC hn hi hfI hfc hxs fun h' e hm => ?_))⟩
 exact hq h' e hm
end
end L2
set_option Elab.async false
set_option linter.all false
set_option maxRecDepth 100000
set_option maxHeartbeats 4000000
namespace L2
open PySem PySem.Spec PyProof.Rows PySem.W
structure XMk (K : PySem.W.Frag) (C f : Addr) : Prop where
 x : exiIn K C f = true
 fn : isFn K (.ref f) = true
 kp : keepIn K (.ref C) = true
theorem fn_there {K : PySem.W.Frag} {h : Heap} {f : Addr} (X : K.In h) (q : isFn K (.ref f) = true) : ∃ o, h.get? f = some o ∧ o.cls = .type "function" := by
 have e := beq_iff_eq.mp q
 unfold typeIn at e
 simp only [Option.map_eq_some_iff] at e
 obtain ⟨o, ho, c⟩ := e
 exact ⟨o, X _ _ ho, c⟩
def tXMake (C : Addr) (sp : Sp) (E : XK) (t : TA) : TE := fun σ H Q => t σ H fun vs H1 => ∀ x, H1 x = none → sp (.ref x :: vs) (upd H1 x (excX x C none true)) (fun v H2 => v = .non ∧ Q (.ref x) H2) E
section
variable {X : Cx} {CX : CXT} {k : Nat} {f C : Addr} {fd : FuncData} {ps : List Str} {sp : Sp} {E : XK} {x : Str} {p pos : Pos} {e : Expr} {es : List Expr} {t : TA}
theorem madeX {pins : List (Addr × Obj)} {σ : St} {H : Hp} {s : Shared} {h' : Heap} {a : Addr} {us : List Value} (I : Inv X pins σ H s) (hex : X.ex = []) (mk : Heap.MadeExcOf s.heap h' a (.ref C) us) : H a = none ∧ Inv X pins σ (upd H a (excX a C none true)) { s with heap := h' } := by
 obtain ⟨t, he, _, _⟩ := mk.there
 have aw := I.away hex mk.new
 exact ⟨aw.n, (I.kept (t' := s.toks) fun b o z => mk.keeps b o z).track hex aw (excX_ok he rfl rfl rfl fun _ => ⟨t, rfl⟩)⟩
theorem run_xmakeN {pins : List (Addr × Obj)} {σ : St} {H : Hp} {s : Shared} {Q : VK} {us : List Value} {vs : List V} (hex : X.ex = []) (M : XMk X.K C f) (F : FnOk X.prog X.w X.K X.mg X.base CX k f fd ps sp) (hr : Room (k + 1) X.A) (hb : Binds X.K fd ps [])
  (hx : Passes CX X E) (I : Inv X pins σ H s) (r : Vals vs us) (hu : us.length ≤ sizeLine)
  (h : ∀ x, H x = none → sp (.ref x :: vs) (upd H x (excX x C none true)) (fun v H2 => v = .non ∧ Q (.ref x) H2) E) :
  wpAny (model X.prog X.w) X.A (call (.ref C) us) (fun u s' => ∃ a H', u = .ref a ∧ s.heap.get? a = none ∧ Inv X pins σ H' s' ∧ Q (.ref a) H') X.xe s := by
 obtain ⟨bm, NS, nm, qn, bs, hdct, sn, sub, ab, col, dd, k0, k1, k2, k3, k5, par⟩ := exi_par M.x
 obtain ⟨hC, ⟨mN, hN, hi⟩, T⟩ := par _ I.kIn
 obtain ⟨oI, hfI, hfc⟩ := fn_there I.kIn M.fn
 refine call_init T hC hN hi hfI hfc hu fun h' a mk => ?_
 obtain ⟨na, I2⟩ := madeX I hex mk
 have hq := h a na
 have r2 : Vals (V.ref a :: vs) (Value.ref a :: us) := .cons rfl r
 have hl : ((Value.ref a :: us) ++ []).length = ps.length := by
  have z := r2.length
  rw [F.len _ _ _ _ hq] at z
  rw [List.append_nil]
  exact z.symm
 have hb2 := hb { s with heap := h' } (Value.ref a :: us) I2.kIn hl
 rw [List.append_nil] at hb2
 refine wpAny_call (codeAny_mono (F.run _ X.stack _ _ ⟨Value.ref a :: us, []⟩ (Value.ref a :: us) _ _ E (hr.make C us []) (I2.env0.make C us []) hb2 r2 hq) fun q s' hq' => ?_)
 cases q with
 | error z => exact hx pins σ _ _ z s' I2 hq'
 | ok fl =>
  cases fl with
  | ret u =>
   obtain ⟨v, H', I3, rv, ev, q3⟩ := I2.after hq'
   subst ev
   exact ⟨rv, ⟨a, H', rfl, mk.new, I3, q3⟩⟩
  | next => exact False.elim hq'
  | brk => exact False.elim hq'
  | cont => exact False.elim hq'
end
def del (H : Hp) (a : Addr) : Hp := fun b => if b = a then none else H b
theorem del_same {H : Hp} {a : Addr} : del H a a = none := if_pos rfl
theorem del_ne {H : Hp} {a b : Addr} (h : b ≠ a) : del H a b = H b := if_neg h
theorem HOk.del {P : Program} {w : World} {H : Hp} {h : Heap} {a : Addr} {φ : Heap → Prop} (x : HOk P w H h) (ea : H a = some (.ext φ)) : HOk P w (del H a) h := fun b o e => by
 have hb : b ≠ a := fun z => by rw [z, del_same] at e; cases e
 rw [del_ne hb] at e
 have nx : ∀ {c : Addr} {u : HO}, (∀ ψ, u ≠ .ext ψ) → H c = some u → L2.del H a c = some u := fun {c u} n q => by
  rw [del_ne fun z => by rw [z, ea] at q; cases q; exact n _ rfl]
  exact q
 exact (x b o e).stay (fun _ _ _ q => q) (fun c q => nx (fun _ z => nomatch z) q) fun c ys q => nx (fun _ z => nomatch z) q
section
variable {M : Model} {A : Around} {E : Value → Shared → Prop} {env : Env} {nm qn : Str} {C N : Addr} {bs bm : List Value} {hdct : Bool} {sn : List Str} {sub : List Value} {ab : Bool} {col : Option Bool} {dd : Option Addr} {k0 k1 k2 k3 k5 : Option Value}
theorem raise_made {s : Shared} {x : Sem Value} {Q : Flow → Shared → Prop} (hbase : bm.contains (.type "BaseException") = true) (hh : A.handled = none)
  (h : wpAny M A x (fun v s1 => ∃ a t oe, v = .ref a ∧ s1.heap.get? C = some (excClassObj nm qn C N bs bm hdct sn sub ab col dd k0 k1 k2 k3 k5 "ValueError.__new__") ∧ s1.heap.get? a = some oe ∧ oe.cls = .ref C ∧ oe.data = .fields (newF t) ∧ E (.ref a) s1) E s) :
  wpAny M A (raiseStmt env (some x) none) Q E s := by
 have has : (Value.ref C :: bm).contains (.type "BaseException") = true := by rw [List.contains_cons, hbase]; exact Bool.or_true _
 unfold raiseStmt
 refine wpAny_bind (wpAny_mono h (fun v s1 q => ?_) fun _ _ z => z)
 obtain ⟨a, t, ⟨oc, od, oda, osl⟩, rfl, cls, made, e1, e2, out⟩ := q
 simp only at e1 e2
 subst e1 e2
 obtain ⟨hp, g, d, tk, os⟩ := s1
 repeat (first | with_reducible refine wpAny_loadPart_at made ?_ | with_reducible refine wpAny_loadPart_at cls ?_ | (with_reducible refine wpAny_isSubtype_exc cls ?_; rw [has]) | wp_step)
 exact wpAny_raiseNew_none hh out
end
section
variable {P : Program} {w : World} {K : PySem.W.Frag} {mg : Str → Option Value} {base : Heap} {N : List Str} {qual : Str} {scope : Scope} {f : Addr} {cd : Value} {A : Around} {outer : List Env} {s0 : Shared} {H0 : Hp} {E : XK}
 {k : Nat} {f2 C : Addr} {fd : FuncData} {ps : List Str} {sp : Sp} {x : Str} {p np cpos pos : Pos} {e : Expr} {es : List Expr} {t : TA}
def tXRaise (C : Addr) (sp : Sp) (E : XK) (t : TA) : TS := fun _ σ H => tXMake C sp E0 t σ H fun v H2 => ∃ a d, v = .ref a ∧ H2 a = some (excX a C (some d) true) ∧ E (.ref C) (some d) (del H2 a)
theorem ps_raiseI (M : XMk K C f2) (F : FnOk P w K mg base CX0 k f2 fd ps sp) (hr : Room (k + 1) (cxOf (CX1 P w) P w K mg base N qual scope f cd A outer s0 H0 E).A) (hg : Gl (cxOf (CX1 P w) P w K mg base N qual scope f cd A outer s0 H0 E) x) (hm : mg x = some (.ref C)) (hb : Binds K fd ps [])
  (ha : PA (cxOf (CX1 P w) P w K mg base N qual scope f cd A outer s0 H0 E) (e :: es) t) (hps : ps.length ≤ 1000 := by decide) (hdb : (x == ("__debug__" : Str)) = false := by decide)
  (he : starEach (e :: es) (cxOf (CX1 P w) P w K mg base N qual scope f cd A outer s0 H0 E).env = (false, eval e (cxOf (CX1 P w) P w K mg base N qual scope f cd A outer s0 H0 E).env) :: starEach es (cxOf (CX1 P w) P w K mg base N qual scope f cd A outer s0 H0 E).env := by rfl)
  (hpl : (backTo cpos (starEach es (cxOf (CX1 P w) P w K mg base N qual scope f cd A outer s0 H0 E).env)).any (·.1) = false := by rfl) :
  PS (cxOf (CX1 P w) P w K mg base N qual scope f cd A outer s0 H0 E) (.Raise (some (.Call (.Name x np) (e :: es) [] cpos)) none pos) (tXRaise C sp E t) := by
 intro pins s σ H D I h
 obtain ⟨bm, NS, nm, qn, bs, hdct, sn, sub, ab, col, dd, k0, k1, k2, k3, k5, par⟩ := exi_par M.x
 obtain ⟨hC, _, T⟩ := par _ I.kIn
 rw [arm_exec_Raise]
 refine wpAny_bind (wpAny_standAt (raise_made (C := C) (nm := nm) (qn := qn) (N := NS) (bs := bs) (bm := bm) (hdct := hdct) (sn := sn) (sub := sub) (ab := ab) (col := col) (dd := dd) (k0 := k0) (k1 := k1) (k2 := k2) (k3 := k3) (k5 := k5) (T.hasType PySem.F.excBase_ValueError.hasBase) (I.ok.hd rfl) ?_))
 refine wpAny_bind (wpAny_Call_Name_kw (ld_glob I hg hm ?_ hdb))
 refine PySem.W.callWith_K (h₀ := base) I.ok.mod.kin M.kp (thn (ha cpos pins s σ H _ I h) fun us s1 ⟨vs, H1, I1, r, q⟩ => ⟨I1.kIn, ?_⟩) he hpl
 have lv := F.len _ _ _ _ (q _ (I1.hok.fresh (Nat.le_refl _)))
 refine thn (run_xmakeN (Q := fun v H2 => ∃ a d, v = .ref a ∧ H2 a = some (excX a C (some d) true) ∧ E (.ref C) (some d) (del H2 a)) rfl M F hr hb pass0 I1 r (by rw [List.nil_append, ← r.length, sizeLine_eq]; simp only [List.length_cons] at lv; omega) q) fun u s2 ho_ => ?_
 obtain ⟨a, H2, eu, na, I2, a', d, ea', ea, q2⟩ := ho_
 cases ea'
 subst eu
 obtain ⟨⟨ox, fv, e1, c1, d1, f1, n1⟩, _⟩ := I2.hok a _ ea
 obtain ⟨tt, rfl⟩ := n1 rfl
 obtain ⟨hC', _⟩ := par _ I2.kIn
 refine wpAny_bind (wpAny_standAt (wpAny_pure ⟨a, tt, ox, rfl, hC', e1, c1, f1, ?_⟩))
 show wpAny _ _ (leaving _ (.ref a)) _ _ _
 refine leave_first I2.ok.frames I2.stack rfl e1 f1 rfl fun h3 T3 l t3 nT => ?_
 rw [c1, d1] at t3
 have nT2 : H2 T3 = none := I2.hok.none nT
 have old : s0.heap.get? a = none := I1.old rfl na
 have xa : ∀ b ∈ [a], b = a := fun b hb => List.mem_singleton.mp hb
 have kd : HOk P w (del H2 a) s2.heap := I2.hok.del ea
 have ud : Un (frs (cxOf (CX1 P w) P w K mg base N qual scope f cd A outer s0 H0 E).stack) [] H2 (del H2 a) s2.heap s2.heap := by
  have nx : ∀ {c : Addr} {u : HO}, (∀ ψ, u ≠ .ext ψ) → H2 c = some u → del H2 a c = some u := fun {c u} n z => by
   rw [del_ne fun y => by rw [y, ea] at z; cases z; exact n _ rfl]
   exact z
  refine ⟨fun b o z _ _ _ => z, fun b o z _ _ _ => ⟨o.slots, z⟩, fun b o z n _ => ?_, fun b o z _ => ⟨o, z⟩, fun b ys z => nx (fun _ y => nomatch y) z, fun b o v z => nx (fun _ y => nomatch y) z, fun b ps z => ⟨#[], by rw [Array.append_empty]; exact nx (fun _ y => nomatch y) z⟩⟩
  by_cases hb : b = a
  ·rw [hb]; exact del_same
  ·rw [del_ne hb]; exact n
 refine ⟨a, .ref C, some d, T3, del H2 a, rfl, I2.os, I2.bare, un_lft I2 rfl ⟨rfl, rfl⟩ ud l fun b hb => by (rw [xa b hb]; exact old), ?_, t3, old, I2.old rfl nT, del_same, ?_, q2⟩
 ·refine kd.lft l (fun b hb => ?_) fun b hb => by (rw [xa b hb]; exact del_same)
  have z := I2.stkFree b hb
  by_cases hb : b = a
  ·rw [hb]; exact del_same
  ·rw [del_ne hb]; exact z
 ·by_cases hb : T3 = a
  ·rw [hb]; exact del_same
  ·rw [del_ne hb]; exact nT2
end
end L2
set_option Elab.async false
set_option linter.all false
set_option maxRecDepth 100000
set_option maxHeartbeats 4000000
namespace L2
open PySem PySem.Spec PyProof.Rows
def Hnd (X : Cx) (hs : List ExceptHandler) (ex : Ends → St → XK) : Prop := ∀ (pins pins' : List (Addr × Obj)) (σ : St) (H : Hp) (s : Shared) (a Dc T : Addr) (dd : Option Addr) (D : Ends),
 Inv (X.held pins) pins' σ H s → Trc s.heap a (.ref Dc) dd T → Away (X.held pins) pins' H a → Away (X.held pins) pins' H T → ex D σ (.ref Dc) dd H → wpAny (model X.prog X.w) X.A (handleBy (.ref a) X.env hs) (SP X pins D) X.xe s
abbrev gone (i : Nat) (D : Ends) : Ends := { nx := fun σ2 H2 => D.nx (σ2.set i none) H2, rt := D.rt, bk := fun σ2 H2 => D.bk (σ2.set i none) H2, ct := fun σ2 H2 => D.ct (σ2.set i none) H2 }
def exC (K : PySem.W.Frag) (Cc : Addr) (i : Nat) (ts : TS) (more : Ends → St → XK) : Ends → St → XK := fun D σ cls dd H => ∃ Dc, cls = .ref Dc ∧
 ((PySem.W.exmOne K (.ref Dc) (.ref Cc) = some true ∧ ∀ a, H a = none → ts (gone i D) (σ.set i (some (.ref a))) (upd H a (excX a Dc dd false))) ∨ (PySem.W.exmOne K (.ref Dc) (.ref Cc) = some false ∧ more D σ cls dd H))
def exNo : Ends → St → XK := fun _ _ _ _ _ => False
section
variable {X : Cx} {K : PySem.W.Frag}
theorem hnd_nil : Hnd X [] exNo := fun _ _ _ _ _ _ _ _ _ _ _ _ _ _ z => z.elim
theorem hnd_cons {suite : List Stmt} {b0 : Stmt} {c n : Str} {Cc : Addr} {np hpos : Pos} {i : Nat} {ts : TS} {rest : List ExceptHandler} {more : Ends → St → XK} (hK : X.K = K) (hc : X.calm = true) (hex : X.ex = []) (hst : X.stack = X.env :: X.outer ∧ X.env.frame = some X.env.locals)
  (hg : Gl X c) (hm : X.mg c = some (.ref Cc)) (hN : X.N.Nodup) (hi : X.N[i]? = some n) (hk : X.env.scope.names.lookup n = some .local) (hs : ∀ pins v, PSs ((X.held pins).marked v) (b0 :: suite) ts) (hr : Hnd X rest more) (hdb : (c == ("__debug__" : Str)) = false := by decide) :
  Hnd X (.ExceptHandler (some (.Name c np)) (some n) (b0 :: suite) hpos :: rest) (exC K Cc i ts more) := by
 subst hK
 intro pins pins' σ H s a Dc T dd D I t A1 A2 h
 obtain ⟨Dc', e, h⟩ := h
 cases e
 obtain ⟨hp, g, dr, tk, os⟩ := s
 have Im : Inv ((X.held pins).marked (.ref a)) pins' σ H ⟨hp, g, dr, tk, os⟩ := I.marked
 have LT : PySem.W.Looks (model X.prog X.w) hp (typeOf (.ref a)) (.ref Dc) := by
  obtain ⟨oe, vs, oT, ts', t1, t3, _⟩ := t
  exact t3 ▸ (PySem.W.Looks.ld t1).andThen .now
 refine wpAny_handleBy_cons (codeAny_handlers_test (ld_glob (X := (X.held pins).marked (.ref a)) Im hg hm ?_ hdb)) (by intro z; cases z)
 rcases h with ⟨hx, h⟩ | ⟨hx, h⟩
 ·refine (PySem.W.exm_one (M := model X.prog X.w) I.kIn LT hx).here ?_
  show codeAny _ _ _ _ _
  refine codeAny_handlers_suite_as (flight_none t fun h3 k3 hT3 t3 => ?_)
  have l3 : Lft (frs (X.held pins).stack) [T] hp h3 := by
   obtain ⟨_, _, oT, tv, _, _, _, _, _, _, u7, u8, _⟩ := t
   have ne : ∀ b o, hp.get? b = some o → (∀ vs, o.data ≠ .fields vs) → b ≠ T := fun b o e nf z => by
    rw [z, u7] at e
    cases e
    exact nf _ u8
   exact ⟨fun b o e _ nx => k3 b o (fun z => nx (by simp [z])) e, fun b o e _ nf => ⟨o.slots, k3 b o (ne b o e nf) e⟩, fun b o e _ _ nf => ⟨o, k3 b o (ne b o e nf) e⟩⟩
  have I3 : Inv (X.held pins) pins' σ H ⟨h3, g, dr, tk, os⟩ := I.lft hex hst l3 fun b hb => by
   rw [List.mem_singleton.mp hb]
   exact A2
  have ok : ObjOk X.prog X.w (upd H a (excX a Dc dd false)) h3 a (excX a Dc dd false) := by
   obtain ⟨oe, vs, oT, tv, u1, u2, u3, u4, _⟩ := t3
   exact excX_ok u1 u2 u3 u4 fun z => nomatch z
  have I4 := I3.track hex A1 ok
  have hh : X.A.handled = none := I.ok.hd hc
  refine store_ok (X := X.held pins) I4 hN hi (.inl hk) (v := .ref a) (u := .ref a) rfl (fun s4 I5 => ?_) (.inr hk)
  refine wpAny_mono (hs pins (.ref a) pins' s4 _ _ _ I5.marked (h a A1.n)) (fun f s5 z => ?_) (fun _ _ z => z.elim)
  cases f with
  | next => obtain ⟨σ5, H5, I6, y⟩ := z; exact Inv.goes (X := X.held pins) (I6.unmarked hc hh) hN hi hk fun s6 I7 => ⟨_, _, I7.unheld, y⟩
  | brk => obtain ⟨σ5, H5, I6, y⟩ := z; exact Inv.goes (X := X.held pins) (I6.unmarked hc hh) hN hi hk fun s6 I7 => ⟨_, _, I7.unheld, y⟩
  | cont => obtain ⟨σ5, H5, I6, y⟩ := z; exact Inv.goes (X := X.held pins) (I6.unmarked hc hh) hN hi hk fun s6 I7 => ⟨_, _, I7.unheld, y⟩
  | ret u => obtain ⟨v, σ5, H5, I6, r, y⟩ := z; exact Inv.goes (X := X.held pins) (I6.unmarked hc hh) hN hi hk fun s6 I7 => ⟨v, _, H5, I7.unheld, r, y⟩
 ·refine (PySem.W.exm_one (M := model X.prog X.w) I.kIn LT hx).here ?_
  exact hr pins pins' σ H _ a Dc T dd D I t A1 A2 h
def tTryM (tb : (St → XK) → TS) (ex : Ends → St → XK) : TS := fun D σ H => tb (fun σ1 cls dd H1 => (∃ Dc, cls = .ref Dc) ∧ ex D σ1 cls dd H1) D σ H
theorem ps_tryM {body : List Stmt} {h0 : ExceptHandler} {hs : List ExceptHandler} {pos : Pos} {tb : (St → XK) → TS} {ex : Ends → St → XK} (hex : X.ex = []) (hst : X.stack = X.env :: X.outer ∧ X.env.frame = some X.env.locals)
  (hb : ∀ pins ex, PSs ((X.held pins).wish (XW (X.held pins) ex)) body (tb ex)) (hh : Hnd X (h0 :: hs) ex) : PS X (.Try body (h0 :: hs) [] [] pos) (tTryM tb ex) := by
 intro pins s σ H D I h
 have toSP : ∀ {pins' : List (Addr × Obj)} {f : Flow} {s' : Shared}, SP (X.held pins) pins' D f s' → SP X pins D f s' := fun {pins' f s'} q => by
  cases f with
  | next => obtain ⟨σ', H', I', z⟩ := q; exact ⟨σ', H', I'.unheld, z⟩
  | brk => obtain ⟨σ', H', I', z⟩ := q; exact ⟨σ', H', I'.unheld, z⟩
  | cont => obtain ⟨σ', H', I', z⟩ := q; exact ⟨σ', H', I'.unheld, z⟩
  | ret u => obtain ⟨v, σ', H', I', r, z⟩ := q; exact ⟨v, σ', H', I'.unheld, r, z⟩
 refine wpAny_Try_except (wpAny_mono (hb pins _ [] s σ H D (I.held.wish _) h) (fun f s1 q => ?_) fun e s1 q => ?_)
 ·have q' := toSP q.unwish
  cases f with
  | next => exact wpAny_execs_nil q'
  | brk => exact q'
  | cont => exact q'
  | ret v => exact q'
 ·obtain ⟨pins', σ1, a, cls, dd, T, H1, rfl, I1, t, A1, A2, ⟨Dc, rfl⟩, q⟩ := q
  refine note_next (outer := X.outer) (base := X.base) (by rw [← hst.1]; exact I1.ok.frames) (by rw [← hst.1]; exact I1.stack) hst.2 t fun h2 T2 l t2 nT => ?_
  have l' : Lft (frs (X.held pins).stack) [a, T] s1.heap h2 := by
   show Lft (frs X.stack) [a, T] s1.heap h2
   rw [hst.1]
   exact l
  have I2 : Inv (X.held pins) pins' σ1 H1 { s1 with heap := h2 } := I1.lft hex hst l' fun b hb => by
   simp only [List.mem_cons, List.not_mem_nil, or_false] at hb
   rcases hb with rfl | rfl
   ·exact A1
   ·exact A2
  exact hh pins pins' σ1 H1 _ a Dc T2 dd D I2 t2 A1 (I1.away hex nT) q
end
end L2
set_option Elab.async false
set_option linter.all false
set_option maxRecDepth 100000
set_option maxHeartbeats 4000000
namespace L2
open PySem PySem.Spec PyProof.Rows
def SameV (v : V) : Prop := (∃ c, v = .ref c) ∨ (flatV v = true ∧ eqV v v = true)
def rNeI (K : PySem.W.Frag) : R2 := fun x y H Q => ∃ a b xs, x = .ref a ∧ y = .ref b ∧ SqT K H a xs ∧ SqT K H b xs ∧ (∀ v ∈ xs, SameV v) ∧ Q (.bl false) H
theorem op_neI {X : Cx} {K : PySem.W.Frag} (hK : X.K = K) (hu : X.A.units + 1 < cLine) : OpR X (compareOp .NotEq) (rNeI K) := by
 subst hK
 intro pins s σ H x y v u Q I rx ry ⟨a, b, xs, ex, ey, s1, s2, al, q⟩
 subst ex
 subst ey
 obtain rfl : v = Value.ref a := rx
 obtain rfl : u = Value.ref b := ry
 obtain ⟨us, r1, q1, _⟩ := I.tuple s1
 obtain ⟨vs, r2, q2, _⟩ := I.tuple s2
 have l1 := r1.length
 have l2 := r2.length
 have it : ∀ j (h1 : j < us.toArray.size) (h2 : j < vs.toArray.size), SeqAt.EqAt X.A.in1 s us.toArray[j] vs.toArray[j] true := fun j h1 h2 => by
  have j1 : j < us.length := by simpa using h1
  have j2 : j < vs.length := by simpa using h2
  have hx := Paired.at r1 j (by omega) j1
  have hy := Paired.at r2 j (by omega) j2
  have ok := al xs[j] (List.getElem_mem (by omega))
  have e : SeqAt.EqAt X.A.in1 s us[j] vs[j] true := by
   generalize xs[j] = z at hx hy ok
   rcases ok with ⟨c, rfl⟩ | ⟨f1, f2⟩
   ·have e1 : us[j] = Value.ref c := hx
    have e2 : vs[j] = Value.ref c := hy
    rw [e1, e2]
    exact SeqAt.EqAt.same _
   ·have z := eqAt_V (A := X.A.in1) (s := s) hx hy f1 f1
    rw [f2] at z
    exact z
  simpa using e
 refine SeqAt.RcNeAt.tuples (e := fun _ => true) (show s.heap.IsTuple a us.toArray from q1) (show s.heap.IsTuple b vs.toArray from q2) (by omega) it X.prog X.w _ _ ?_
 rw [all_true, Bool.true_and, show (us.toArray.size == vs.toArray.size) = true by simp; omega]
 exact ⟨.bl false, H, I, rfl, q⟩
end L2
set_option Elab.async false
set_option linter.all false
set_option maxRecDepth 100000
set_option maxHeartbeats 4000000
namespace L2
open PySem PySem.Spec PyProof.Rows PySem.W
section
variable {K : PySem.W.Frag} {D : Addr}
def xisB (K : PySem.W.Frag) (D : Addr) : Bool := (clsIn K D).isSome && (findIn K (.ref D) "__getattribute__" == some (some (.builtin "BaseException.__getattribute__")) && (findIn K (.ref D) "__getattr__" == some none &&
 (findIn K (.ref D) "__class__" == some (some (.builtin "object.__class__")) && (specialIn K (.builtin "object.__class__") "__get__" == some (some (.builtin "getset_descriptor.__get__")) && (takesIn K (.builtin "object.__class__") == some true &&
 (mroIn K D (.type "object") == some true && mroIn K D (.type "BaseException") == some true))))))
theorem xis_of (h : xisB K D = true) : XIs K D := by
 unfold xisB at h
 simp only [Bool.and_eq_true, beq_iff_eq] at h
 obtain ⟨h1, h2, h3, h4, h5, h6, h7, h8⟩ := h
 exact ⟨h1, h2, h3, h4, h5, h6, h7, h8⟩
def xatB (K : PySem.W.Frag) (D : Addr) (fs : List Str) : Bool := findIn K (.ref D) "__setattr__" == some (some (.builtin "object.__setattr__")) && ((clsIn K D).any (fun cd => onlyExc cd.mro) && (hasDictIn K D && fs.all fun f => findIn K (.ref D) f == some none))
theorem xset_of {fs : List Str} {f : Str} (h : xatB K D fs = true) (m : f ∈ fs) : XSet K D f := by
 unfold xatB at h
 simp only [Bool.and_eq_true, beq_iff_eq] at h
 obtain ⟨h1, h2, h3, h4⟩ := h
 exact ⟨h1, h2, beq_iff_eq.mp (List.all_eq_true.mp h4 f m), h3⟩
theorem xget_of {fs : List Str} {f : Str} (y : XIs K D) (h : xatB K D fs = true) (m : f ∈ fs) : XGet K D f := let s := xset_of h m; ⟨y, s.no, s.hd⟩
end
end L2
set_option Elab.async false
set_option linter.all false
set_option maxRecDepth 100000
set_option maxHeartbeats 4000000
namespace L2
open PySem PySem.Spec PyProof.Rows
section
variable {X : Cx} {K : PySem.W.Frag}
open Classical in
end
end L2
set_option Elab.async false
set_option linter.all false
set_option maxRecDepth 100000
set_option maxHeartbeats 4000000
namespace L2
open PySem PySem.Spec PyProof.Rows
section
variable {X : Cx} {K : PySem.W.Frag}
end
end L2
set_option Elab.async false
set_option linter.all false
set_option maxRecDepth 100000
set_option maxHeartbeats 4000000
namespace L2
open PySem PySem.Spec PyProof.Rows
theorem ints_of : ∀ {ns : List Int} {us : List Value}, Vals (ns.map V.int) us → IntsAre us ns
 | [], us, r => by rw [List.map_nil] at r; cases r; exact .nil
 | y :: ys, us, r => by
  rw [List.map_cons] at r
  cases r with
  | cons r1 r2 =>
   obtain ⟨t, e⟩ := r1
   subst e
   exact .cons y t (ints_of r2)
theorem vals_nums : ∀ {us : List Value} {ns : List Int}, IntsAre us ns → Vals (ns.map V.int) us
 | _, _, .nil => .nil
 | _, _, .cons y t r => .cons ⟨t, rfl⟩ (vals_nums r)
theorem vals_texts : ∀ {us : List Value} {ss : List Str}, StrsAre us ss → Vals (ss.map V.str) us
 | _, _, .nil => .nil
 | _, _, .cons y t r => .cons ⟨t, rfl⟩ (vals_texts r)
section
variable {X : Cx} {K : PySem.W.Frag}
theorem ints_len {us : List Value} {ns : List Int} (h : IntsAre us ns) : us.length = ns.length := by
 have := (vals_nums h).length
 rw [List.length_map] at this
 exact this.symm
theorem texts_len {us : List Value} {ns : List Str} (h : StrsAre us ns) : us.length = ns.length := by
 have := (vals_texts h).length
 rw [List.length_map] at this
 exact this.symm
theorem call_sortedI (hK : X.K = K) : CallR X (.builtin "sorted") (fun xs H Q => ∃ (p : Addr) (ns : List Int), xs = [.ref p] ∧ SqL K H p (ns.map V.int) ∧ ns.length < 64 ∧ ∀ (l : Addr) (ms : List Int), H l = none → ms.Perm ns → ms.Pairwise (· ≤ ·) → Q (.ref l) (upd H l (.lst (ms.map V.int)))) := by
 subst hK
 intro pins s σ H xs us Q I r h
 obtain ⟨p, ns, rfl, hp, h64, q⟩ := h
 obtain ⟨u, rfl, ru⟩ := vals1 r
 cases ru
 obtain ⟨its, rv, pl, _⟩ := I.list hp
 have hI := ints_of rv
 have ll := ints_len hI
 refine sorted_ints pl.isList hI (by omega) fun out ms hm pm so => ?_
 obtain ⟨e, he⟩ := sortedAll_at s.heap its out
 have lm := ints_len hm
 have lp := pm.length_eq
 refine ⟨.ref (s.heap.objs.size + 1), _, I.laid (t' := s.toks) (o := .lst (ms.map V.int)) (fun b ob z => sortedAll_old z) (Nat.le_succ _) ?_, rfl, q _ ms (I.hok.fresh (Nat.le_succ _)) pm so⟩
 exact ⟨by rw [List.length_map]; exact small_line (by omega), out.toList, e, vals_nums hm, he⟩
end
end L2
set_option Elab.async false
set_option linter.all false
set_option maxRecDepth 100000
set_option maxHeartbeats 4000000
namespace L2
open PySem PySem.Spec PyProof.Rows
section
variable {prog : Program} {w : World} {A : Around} {E : Value → Shared → Prop} {s : Shared} {T : String} {r d : Addr} {n : Nat} {P : Nat → Value → Prop} {OK : Heap → Prop}
theorem collect_src {Q : List Value → Shared → Prop} (K : PySem.W.KdlSrc prog w T r d n P OK) (hh : A.handled = none) (hok : OK s.heap) (hn : n ≤ sizeLine)
  (hQ : ∀ h' tk acc, s.heap.objs.size ≤ h'.objs.size → (∀ b o, s.heap.get? b = some o → h'.get? b = some o) → ItemsOf P acc n → Q acc.toList { s with heap := h', toks := tk }) : wpAny (model prog w) A (collect (.ref r)) Q E s := by
 have hlt := K.there _ hok
 unfold collect
 refine wpAny_bind (wpAny_runValue (codeAny_builtin F.entry_proto_collect ?_))
 rw [Around.under_plainId F.plain_proto_collect _]
 show wpAny _ A.in1 (newList [] >>= fun l => again (.builtin "list.__iadd__" ⟨[l, .ref r], []⟩)) _ _ s
 refine wpAny_bind (wpAny_newObj_type ?_)
 refine wpAny_pure ⟨plainId_quiet F.plain_list_iadd _, codeAny_builtin F.entry_list_iadd ?_⟩
 rw [Around.under_plainId F.plain_list_iadd _]
 have hS : (s.heap.push { cls := .type "list", data := .seq ([] : List Value).toArray }).get? s.heap.objs.size = some { cls := .type "list", data := .seq #[] } := Heap.get?_push_size _ rfl
 show wpAny _ A.in1 (Builtin.List.listExtendWith (.ref s.heap.objs.size) (.ref r) (.ref s.heap.objs.size)) _ _ _
 let R : Result → Shared → Prop := fun res s' => ∃ (h' : Heap) (tk : Nat) (acc : Array Value) (c : Nat), res = .ok (.ret (.ref s.heap.objs.size)) ∧ s' = { s with heap := h', toks := tk } ∧ (∀ b o, s.heap.get? b = some o → h'.get? b = some o) ∧ h'.get? s.heap.objs.size = some { cls := .type "list", dict := none, data := .seq acc c, slots := #[] } ∧ ItemsOf P acc n
 refine wpAny_mono (PySem.W.kdl_extend (A := A) (R := R) (s := { s with heap := s.heap.push { cls := .type "list", data := .seq ([] : List Value).toArray } }) K hh (K.keep _ _ hok fun b _ o e => Heap.get?_push_of_some _ e) s.heap.objs.size (Nat.ne_of_gt hlt.1) (Nat.ne_of_gt hlt.2) (.ref s.heap.objs.size) _ hS (fun h' tk acc' c' hk hS' hacc => ⟨h', tk, acc', c', rfl, rfl, fun b o e => hk b o (Nat.ne_of_lt (Heap.lt_size e)) (Heap.get?_push_of_some _ e), hS', hacc⟩) hn) (fun f s' hf => ?_) (fun e s' he => ?_)
 ·cases f with
  | done fl =>
   obtain ⟨h', tk, acc, c, e, rfl, kp, hS', it⟩ := hf
   cases e
   exact wpAny_bind (wpAny_load hS' (wpAny_pure (hQ h' tk acc (Nat.le_of_lt (Heap.lt_size hS')) kp it)))
  | again c' =>
   refine ⟨hf.1, codeAny_mono hf.2 fun res s2 hr => ?_⟩
   obtain ⟨h', tk, acc, c, e, rfl, kp, hS', it⟩ := hr
   cases e
   exact wpAny_bind (wpAny_load hS' (wpAny_pure (hQ h' tk acc (Nat.le_of_lt (Heap.lt_size hS')) kp it)))
 ·obtain ⟨_, _, _, _, z, _⟩ := he
  cases z
theorem sortedHeap_keeps {h : Heap} {vs : List Value} {out : Array Value} {b : Addr} {o : Obj} (hb : h.get? b = some o) : (sortedHeap (h.push (seqObj "list" vs.toArray 0)) h.objs.size vs out).get? b = some o := by
 have hlt := Heap.lt_size hb
 rw [sortedHeap_old (Nat.ne_of_lt hlt) (by rw [size_push']; exact Nat.lt_succ_of_lt hlt)]
 exact Heap.get?_push_of_some _ hb
theorem sorted_ints_src {Q : Value → Shared → Prop} {ns : List Int} (K : PySem.W.KdlSrc prog w T r d n P OK) (hh : A.handled = none) (hok : OK s.heap) (hn : n ≤ sizeLine) (hI : ∀ acc : Array Value, ItemsOf P acc n → IntsAre acc.toList ns) (h64 : ns.length < 64)
  (h : ∀ (a : Addr) (h' : Heap) (tk e : Nat) (out : Array Value) (ms : List Int), s.heap.objs.size ≤ a → (∀ b o, s.heap.get? b = some o → h'.get? b = some o) → h'.get? a = some (seqObj "list" out e) → IntsAre out.toList ms → ms.Perm ns → ms.Pairwise (· ≤ ·) → Q (.ref a) { s with heap := h', toks := tk }) :
  wpAny (model prog w) A (call (.builtin "sorted") [.ref r]) Q E s := by
 refine Calls.call_function_entry kind_sorted plain_sorted entry_sorted (args_sorted1 _) ?_
 unfold Builtin.«sorted»
 refine wpAny_bind (m := checkCount "sorted" 1 1 _) (wpAny_pure ?_)
 refine wpAny_bind (collect_src K hh hok hn fun h1 tk acc sz kp it => ?_)
 have hA := hI acc it
 have l64 : acc.toList.length < 64 := by rw [ints_len hA]; exact h64
 refine wpAny_bind (wpAny_newList ?_)
 have hoL : (h1.push (seqObj "list" acc.toList.toArray 0)).get? h1.objs.size = some (seqObj "list" acc.toList.toArray 0) := Heap.get?_push_size _ rfl
 refine wpAny_bind (wpAny_holding (wpAny_call_entry slot_list_sort ⟨_, hoL, rfl⟩ entry_list_sort (list_sort_tree hoL hA l64 fun out ms a1 a2 a3 => ⟨_, rfl, ?_⟩) (args_list_sort _)))
 obtain ⟨e, he⟩ := sortedHeap_at (out := out) hoL
 exact wpAny_pure ⟨_, rfl, h h1.objs.size _ tk e out ms sz (fun b o z => sortedHeap_keeps (kp b o z)) he a1 a2 a3⟩
theorem sorted_strs_src {Q : Value → Shared → Prop} {ss : List Str} (K : PySem.W.KdlSrc prog w T r d n P OK) (hh : A.handled = none) (hok : OK s.heap) (hn : n ≤ sizeLine) (hI : ∀ acc : Array Value, ItemsOf P acc n → StrsAre acc.toList ss) (h64 : ss.length < 64)
  (h : ∀ (a : Addr) (h' : Heap) (tk e : Nat) (out : Array Value) (ms : List Str), s.heap.objs.size ≤ a → (∀ b o, s.heap.get? b = some o → h'.get? b = some o) → h'.get? a = some (seqObj "list" out e) → StrsAre out.toList ms → ms.Perm ss → sortedS ms = true → Q (.ref a) { s with heap := h', toks := tk }) :
  wpAny (model prog w) A (call (.builtin "sorted") [.ref r]) Q E s := by
 refine Calls.call_function_entry kind_sorted plain_sorted entry_sorted (args_sorted1 _) ?_
 unfold Builtin.«sorted»
 refine wpAny_bind (m := checkCount "sorted" 1 1 _) (wpAny_pure ?_)
 refine wpAny_bind (collect_src K hh hok hn fun h1 tk acc sz kp it => ?_)
 have hA := hI acc it
 have l64 : acc.toList.length < 64 := by rw [texts_len hA]; exact h64
 refine wpAny_bind (wpAny_newList ?_)
 have hoL : (h1.push (seqObj "list" acc.toList.toArray 0)).get? h1.objs.size = some (seqObj "list" acc.toList.toArray 0) := Heap.get?_push_size _ rfl
 refine wpAny_bind (wpAny_holding (wpAny_call_entry slot_list_sort ⟨_, hoL, rfl⟩ entry_list_sort (list_sort_treeK strKind_oneLt hoL hA.keysOf (fun v₁ v₂ rest e => keyKind_strs (by rw [← e]; exact hA)) l64 fun st' hp hs => ⟨_, rfl, ?_⟩) (args_list_sort _)))
 obtain ⟨ms, a1, a2, a3⟩ := sorted_out_str hA hp hs
 obtain ⟨e, he⟩ := sortedHeap_at (out := (arrOf st').map (·.2)) hoL
 exact wpAny_pure ⟨_, rfl, h h1.objs.size _ tk e _ ms sz (fun b o z => sortedHeap_keeps (kp b o z)) he a1 a2 a3⟩
end
end L2
set_option Elab.async false
set_option linter.all false
set_option maxRecDepth 100000
set_option maxHeartbeats 4000000
namespace L2
open PySem PySem.Spec PyProof.Rows
section
variable {X : Cx}
theorem keys_vals {kvs : List (Key × V)} {vs : List (Key × Value)} (h : KV kvs vs) : vs.map (·.1) = kvs.map (·.1) := by
 induction h with
 | nil => rfl
 | cons r _ ih => rw [List.map_cons, List.map_cons, ih, r.1]
theorem ints_items {vs : List (Key × Value)} : ∀ {us : List Value} {ns : List Int}, vs.map (·.1) = ns.map (Sum.inl : Int → Key) → us.length = vs.length → (∀ (i : Nat) (v : Value), us[i]? = some v → ∃ k x, vs[i]? = some (k, x) ∧ keyIs k v = true) → IntsAre us ns := by
 induction vs with
 | nil =>
  intro us ns e l _
  cases ns with
  | nil => cases us with
   | nil => exact .nil
   | cons _ _ => cases l
  | cons _ _ => cases e
 | cons p vs ih =>
  intro us ns e l h
  cases ns with
  | nil => cases e
  | cons n ns =>
   cases us with
   | nil => cases l
   | cons u us =>
    rw [List.map_cons, List.map_cons] at e
    injection e with e1 e2
    obtain ⟨k, x, ek, hk⟩ := h 0 u rfl
    have ek : p = (k, x) := Option.some.inj ek
    rw [ek] at e1
    have e1 : k = Sum.inl n := e1
    subst e1
    rcases keyIs_shape hk with ⟨i, t, a, rfl⟩ | ⟨y, t, a, rfl⟩
    ·cases a
     exact .cons n t (ih e2 (Nat.succ.inj l) fun i v hv => h (i + 1) v hv)
    ·cases a
theorem texts_items {vs : List (Key × Value)} : ∀ {us : List Value} {ns : List Str}, vs.map (·.1) = ns.map (Sum.inr : Str → Key) → us.length = vs.length → (∀ (i : Nat) (v : Value), us[i]? = some v → ∃ k x, vs[i]? = some (k, x) ∧ keyIs k v = true) → StrsAre us ns := by
 induction vs with
 | nil =>
  intro us ns e l _
  cases ns with
  | nil => cases us with
   | nil => exact .nil
   | cons _ _ => cases l
  | cons _ _ => cases e
 | cons p vs ih =>
  intro us ns e l h
  cases ns with
  | nil => cases e
  | cons n ns =>
   cases us with
   | nil => cases l
   | cons u us =>
    rw [List.map_cons, List.map_cons] at e
    injection e with e1 e2
    obtain ⟨k, x, ek, hk⟩ := h 0 u rfl
    have ek : p = (k, x) := Option.some.inj ek
    rw [ek] at e1
    have e1 : k = Sum.inr n := e1
    subst e1
    rcases keyIs_shape hk with ⟨i, t, a, rfl⟩ | ⟨y, t, a, rfl⟩
    ·cases a
    ·cases a
     exact .cons n t (ih e2 (Nat.succ.inj l) fun i v hv => h (i + 1) v hv)
theorem call_sortedDI (hc : X.calm = true) : CallR X (.builtin "sorted") (fun xs H Q => ∃ (p : Addr) (kvs : List (Key × V)) (ns : List Int), xs = [.ref p] ∧ H p = some (.dK kvs) ∧ kvs.map (·.1) = ns.map (Sum.inl : Int → Key) ∧ ns.length < 64 ∧ ∀ (l : Addr) (ms : List Int), H l = none → ms.Perm ns → ms.Pairwise (· ≤ ·) → Q (.ref l) (upd H l (.lst (ms.map V.int)))) := by
 intro pins s σ H xs us Q I r h
 obtain ⟨p, kvs, ns, rfl, hp, ek, h64, q⟩ := h
 obtain ⟨u, rfl, ru⟩ := vals1 r
 cases ru
 obtain ⟨hz, lo, vs, kv, hd0⟩ := I.hok p _ hp
 obtain ⟨ep, hd⟩ := hd0.dictAt
 have lkv : vs.length ≤ sizeLine := by have := Paired.length kv; omega
 have ev := keys_vals kv
 refine sorted_ints_src (ns := ns) (PySem.W.kdl_dict (knd := mixKind X.prog X.w) (ep := ep) lo) (I.ok.hd hc) hd lkv (fun acc it => ?_) h64 fun a h' tk e out ms sz kp he hm pm so => ?_
 ·exact ints_items (ev.trans ek) (by rw [Array.length_toList]; exact it.1) fun i v hv => it.2 i v (by rw [← Array.getElem?_toList]; exact hv)
 ·have lm := ints_len hm
  have lp := pm.length_eq
  refine ⟨.ref a, _, I.laid (t' := tk) (o := .lst (ms.map V.int)) kp sz ?_, rfl, q _ ms (I.hok.fresh sz) pm so⟩
  exact ⟨by rw [List.length_map]; exact small_line (by omega), out.toList, e, vals_nums hm, he⟩
theorem call_sortedDS (hc : X.calm = true) : CallR X (.builtin "sorted") (fun xs H Q => ∃ (p : Addr) (kvs : List (Key × V)) (ns : List Str), xs = [.ref p] ∧ H p = some (.dK kvs) ∧ kvs.map (·.1) = ns.map (Sum.inr : Str → Key) ∧ ns.length < 64 ∧ ∀ (l : Addr) (ms : List Str), H l = none → ms.Perm ns → sortedS ms = true → Q (.ref l) (upd H l (.lst (ms.map V.str)))) := by
 intro pins s σ H xs us Q I r h
 obtain ⟨p, kvs, ns, rfl, hp, ek, h64, q⟩ := h
 obtain ⟨u, rfl, ru⟩ := vals1 r
 cases ru
 obtain ⟨hz, lo, vs, kv, hd0⟩ := I.hok p _ hp
 obtain ⟨ep, hd⟩ := hd0.dictAt
 have lkv : vs.length ≤ sizeLine := by have := Paired.length kv; omega
 have ev := keys_vals kv
 refine sorted_strs_src (ss := ns) (PySem.W.kdl_dict (knd := mixKind X.prog X.w) (ep := ep) lo) (I.ok.hd hc) hd lkv (fun acc it => ?_) h64 fun a h' tk e out ms sz kp he hm pm so => ?_
 ·exact texts_items (ev.trans ek) (by rw [Array.length_toList]; exact it.1) fun i v hv => it.2 i v (by rw [← Array.getElem?_toList]; exact hv)
 ·have lm := texts_len hm
  have lp := pm.length_eq
  refine ⟨.ref a, _, I.laid (t' := tk) (o := .lst (ms.map V.str)) kp sz ?_, rfl, q _ ms (I.hok.fresh sz) pm so⟩
  exact ⟨by rw [List.length_map]; exact small_line (by omega), out.toList, e, vals_texts hm, he⟩
end
end L2
set_option Elab.async false
set_option linter.all false
set_option maxRecDepth 100000
set_option maxHeartbeats 4000000
namespace L2
open PySem PySem.Spec PyProof.Rows
section
variable {P : Program} {w : World} {A : Around} {E : Value → Shared → Prop} {s : Shared}
end
end L2
set_option Elab.async false
set_option linter.all false
set_option maxRecDepth 100000
set_option maxHeartbeats 4000000
namespace L2
open PySem PySem.Spec PyProof.Rows
section
variable {P : Program} {w : World} {A : Around} {E : Value → Shared → Prop} {s : Shared}
end
section
variable {X : Cx}
end
end L2
set_option Elab.async false
set_option linter.all false
set_option maxRecDepth 100000
set_option maxHeartbeats 4000000
namespace L2
open PySem
section
variable {prog : Program} {w : World} {A : Around} {E : Value → Shared → Prop} {s : Shared}
end
end L2
set_option Elab.async false
set_option linter.all false
set_option maxRecDepth 100000
set_option maxHeartbeats 4000000
namespace L2
open PySem
section
variable {prog : Program} {w : World} {A : Around} {E : Value → Shared → Prop} {s : Shared} {it a : Addr} {i n ep : Nat} {o : Obj} {es : Array (Int × Value)} {t : SetTable}
end
end L2
set_option Elab.async false
set_option linter.all false
set_option maxRecDepth 100000
set_option maxHeartbeats 4000000
namespace L2
open PySem
section
variable {prog : Program} {w : World} {A : Around} {E : Value → Shared → Prop} {s : Shared} {it a : Addr} {i n ep : Nat} {o : Obj} {es : Array (Int × Value)} {t : SetTable}
end
end L2
set_option Elab.async false
set_option linter.all false
set_option maxRecDepth 100000
set_option maxHeartbeats 4000000
namespace L2
open PySem
section
variable {prog : Program} {w : World} {A : Around} {E : Value → Shared → Prop} {s : Shared} {it a : Addr} {i n ep : Nat} {o : Obj} {es : Array (Int × Value)} {t : SetTable}
end
end L2
set_option Elab.async false
set_option linter.all false
set_option maxRecDepth 100000
set_option maxHeartbeats 4000000
namespace L2
open PySem PySem.Spec PyProof.Rows
section
variable {prog : Program} {w : World} {A : Around} {E : Value → Shared → Prop} {s : Shared} {a : Addr} {ep : Nat} {o : Obj} {es : Array (Int × Value)} {t : SetTable}
end
section
variable {X : Cx} {K : PySem.W.Frag}
end
end L2
set_option Elab.async false
set_option linter.all false
set_option maxRecDepth 100000
set_option maxHeartbeats 4000000
namespace L2
open PySem PySem.Spec PyProof.Rows
section
variable {X : Cx} {CX : CXT} {k : Nat} {ps : List Str} {ι : Type} {C : ι → Addr} {sp : ι → Sp} {E : XK} {m : Str} {pos apos : Pos} {e o : Expr} {es : List Expr} {ta : TE} {t : TA}
end
section
variable {P : Program} {w : World} {K : PySem.W.Frag} {mg : Str → Option Value} {base : Heap} {N : List Str} {qual : Str} {scope : Scope} {f : Addr} {cd : Value} {A : Around} {outer : List Env} {s0 : Shared} {H0 : Hp} {E : XK}
 {k : Nat} {ps : List Str} {ι : Type} {C : ι → Addr} {sp : ι → Sp} {m : Str} {pos apos : Pos} {e o : Expr} {es : List Expr} {ta : TE} {t : TA}
end
section
variable {X : Cx}
end
end L2
set_option Elab.async false
set_option linter.all false
set_option maxRecDepth 100000
set_option maxHeartbeats 4000000
namespace L2
open PySem PySem.Spec PyProof.Rows
section
variable {P : Program} {w : World} {A : Around} {E : Value → Shared → Prop} {s : Shared} {a : Addr} {o : Obj} {xs : Array Value} {n : Nat}
end
section
variable {X : Cx}
end
section
variable {P : Program} {w : World} {A : Around} {E : Value → Shared → Prop} {s : Shared} {κ : Type} [DecidableEq κ] {knd : PySem.KeyKind P w κ} {a b : Addr}
end
end L2
set_option Elab.async false
set_option linter.all false
set_option maxRecDepth 100000
set_option maxHeartbeats 4000000
namespace L2
open PySem PySem.Spec PyProof.Rows
section
variable {P : Program} {w : World} {A : Around} {E : Value → Shared → Prop} {s : Shared} {κ : Type} [DecidableEq κ] {knd : PySem.KeyKind P w κ} {a b : Addr}
end
section
variable {X : Cx}
end
section
variable {X : Cx} {a : Addr} {kvs : List (Str × Str)}
end
end L2
set_option Elab.async false
set_option linter.all false
set_option maxRecDepth 100000
set_option maxHeartbeats 4000000
namespace L2
open PySem PySem.Spec PyProof.Rows
section
variable {κ : PyProof.Rows.KeyKind} {xs : Array Keyed} {k : Nat}
end
section
variable {P : Program} {w : World} {A : Around} {E : Value → Shared → Prop} {s : Shared} {κ : PyProof.Rows.KeyKind} {a₀ : Array Keyed} {st : SortSt} {n m : Nat} {kd : SortKind}
end
end L2
set_option Elab.async false
set_option linter.all false
set_option maxRecDepth 100000
set_option maxHeartbeats 4000000
namespace L2
open PySem PySem.Spec PyProof.Rows
section
variable {P : Program} {w : World} {A : Around} {E : Value → Shared → Prop} {s : Shared} {κ : PyProof.Rows.KeyKind} {a₀ : Array Keyed} {st : SortSt} {n m : Nat} {kd : SortKind}
end
end L2
set_option Elab.async false
set_option linter.all false
set_option maxRecDepth 100000
set_option maxHeartbeats 4000000
namespace L2
open PySem PySem.Spec PyProof.Rows
section
variable {P : Program} {w : World} {A : Around} {E : Value → Shared → Prop} {s : Shared}
end
end L2
set_option Elab.async false
set_option linter.all false
set_option maxRecDepth 100000
set_option maxHeartbeats 4000000
namespace L2
open PySem PySem.Spec PyProof.Rows
section
variable {P : Program} {w : World} {A : Around} {E : Value → Shared → Prop} {s : Shared}
end
end L2
set_option Elab.async false
set_option linter.all false
set_option maxRecDepth 100000
set_option maxHeartbeats 4000000
namespace L2
open PySem PySem.Spec PyProof.Rows
section
variable {P : Program} {w : World} {A : Around} {E : Value → Shared → Prop} {s : Shared}
end
end L2
set_option Elab.async false
set_option linter.all false
set_option maxRecDepth 100000
set_option maxHeartbeats 4000000
namespace L2
open PySem PySem.Spec PyProof.Rows
end L2
set_option Elab.async false
set_option linter.all false
set_option maxRecDepth 100000
set_option maxHeartbeats 4000000
namespace L2
open PySem PySem.Spec PyProof.Rows
section
variable {prog : Program} {w : World} {A : Around} {E : Value → Shared → Prop} {s : Shared} {it a : Addr} {i n ep : Nat} {o : Obj} {es : Array (Int × Value)} {t : SetTable}
end
end L2
set_option Elab.async false
set_option linter.all false
set_option maxRecDepth 100000
set_option maxHeartbeats 4000000
namespace L2
open PySem PySem.Spec PyProof.Rows
section
variable {prog : Program} {w : World} {A : Around} {E : Value → Shared → Prop} {s : Shared} {a : Addr} {ep : Nat} {o : Obj} {es : Array (Int × Value)} {t : SetTable}
end
section
variable {P : Program} {w : World} {A : Around} {E : Value → Shared → Prop} {s : Shared}
end
section
variable {X : Cx}
end
section
variable {prog : Program} {w : World} {A : Around} {E : Value → Shared → Prop} {s : Shared} {a : Addr} {ep : Nat} {o : Obj} {es : Array (Int × Value)} {t : SetTable}
end
section
variable {X : Cx} {K : PySem.W.Frag}
end
end L2
set_option Elab.async false
set_option linter.all false
set_option maxRecDepth 100000
set_option maxHeartbeats 4000000
namespace L2
open PySem PySem.Spec PyProof.Rows
section
variable {P : Program} {w : World} {A : Around} {E : Value → Shared → Prop} {s : Shared}
end
section
variable {X : Cx} {K : PySem.W.Frag}
end
end L2
set_option Elab.async false
set_option linter.all false
set_option maxRecDepth 100000
set_option maxHeartbeats 4000000
namespace L2
open PySem PySem.Spec PyProof.Rows
section
variable {X : Cx} {pins : List (Addr × Obj)} {σ : St} {H : Hp} {s : Shared}
end
section
variable {X : Cx} {K : PySem.W.Frag}
end
end L2
set_option linter.all false
namespace L2
open PySem PySem.Spec PyProof.Rows
theorem sq1 {a b : TS} {D : Ends} {σ : St} {H : Hp} (f : ∀ R : TS, (∀ {D : Ends} {σ : St} {H : Hp}, b D σ H → R D σ H) → tSeq a R D σ H) : tSeq a b D σ H := f b fun h => h
end L2
namespace L2
open PySem PySem.Spec PyProof.Rows
theorem ixL {K : PySem.W.Frag} {p : Addr} {xs : List V} {i : Int} {v : V} {H : Hp} {Q : VK} (h : SqL K H p xs) (e : atI xs i = some v) (q : Q v H) : rIxL K (.ref p) (.int i) H Q := ⟨p, xs, i, v, rfl, rfl, h, e, q⟩
end L2
namespace L2
open PySem PySem.Spec PyProof.Rows
theorem ixTc {K : PySem.W.Frag} {p : Addr} {xs : List V} {i : Int} {v : V} {σ : St} {H : Hp} {Q : VK} (h : SqT K H p xs) (e : atI xs i = some v) (q : Q v H) : tC (.int i) σ H fun y H2 => rIxT K (.ref p) y H2 Q := ⟨p, xs, i, v, rfl, rfl, h, e, q⟩
end L2
namespace L2
open PySem PySem.Spec PyProof.Rows
theorem ea {α : Sort _} {A B : α → Prop} {w : α} (a : A w) (b : B w) : ∃ v, A v ∧ B v := ⟨w, a, b⟩
end L2
namespace L2
open PySem PySem.Spec PyProof.Rows
structure Gf (K : PySem.W.Frag) (x : Str) (st : Stmt) (f : Addr) : Prop where
 a : PySem.W.nsIn K mainGlobals x = some (some (.ref f))
 d : ∃ fd, Fun K x x st f fd
structure Mf (K : PySem.W.Frag) (C : Addr) (x qual : Str) (st : Stmt) (f : Addr) : Prop where
 a : PySem.W.findIn K (.ref C) x = some (some (.ref f))
 i : PySem.W.isFn K (.ref f) = true
 d : ∃ fd, Fun K x qual st f fd
theorem b0 {B : List Value → Prop} (h : B []) (us : List Value) (hl : us.length = 0) : B us := (List.eq_nil_of_length_eq_zero hl) ▸ h
theorem bs {B : List Value → Prop} {n : Nat} (h : ∀ a us, us.length = n → B (a :: us)) (us : List Value) (hl : us.length = n + 1) : B us := by
 obtain ⟨a, l, rfl⟩ := List.exists_cons_of_length_eq_add_one hl
 exact h a l (Nat.succ.inj hl)
section
variable {K : PySem.W.Frag} {h : Heap} {mg : Str → Option Value} {x qual : Str} {st : Stmt} {f C : Addr} {ps : List Str}
noncomputable def Gf.fx (g : Gf K x st f) (X : K.In h) (G : h.Ns mainGlobals mg) (hb : ∀ (kV doc pm : Value) (an : Option Addr) (cdv ct : Value) (us : List Value), us.length = ps.length → bindArgs (PySem.W.fnOf x x (defArgs st) (defBody st) (defScope st) .none kV doc pm an cdv ct) ⟨us, []⟩ = pure (ps.zip us)) : Fx K mg x st ps :=
 ⟨f, g.d.choose, g.d.choose_spec, g.d.choose_spec.binds hb, PySem.W.mg_of X G g.a⟩
noncomputable def Mf.mx (g : Mf K C x qual st f) (hb : ∀ (kV doc pm : Value) (an : Option Addr) (cdv ct : Value) (us : List Value), us.length = ps.length → bindArgs (PySem.W.fnOf x qual (defArgs st) (defBody st) (defScope st) .none kV doc pm an cdv ct) ⟨us, []⟩ = pure (ps.zip us)) : Mx K C x qual st ps :=
 ⟨f, g.d.choose, g.d.choose_spec, g.d.choose_spec.binds hb, ⟨g.a, g.i, g.d.choose_spec.kp⟩⟩
end
end L2
set_option Elab.async false
set_option linter.all false
set_option maxRecDepth 100000
set_option maxHeartbeats 4000000
namespace L2
open PySem PySem.Spec PyProof.Rows
end L2
set_option Elab.async false
set_option linter.all false
set_option maxRecDepth 100000
set_option maxHeartbeats 4000000
namespace L2
open PySem PySem.Spec PyProof.Rows
section
variable {X : Cx} {pins : List (Addr × Obj)} {σ : St} {H : Hp} {s : Shared} {A : Around} {E : Value → Shared → Prop}
end
end L2
set_option Elab.async false
set_option linter.all false
set_option maxRecDepth 100000
set_option maxHeartbeats 4000000
namespace L2
open PySem PySem.Spec PyProof.Rows
section
variable {X : Cx} {pins : List (Addr × Obj)} {σ : St} {H : Hp} {s : Shared}
theorem Inv.freeze {a : Addr} {kvs : List (Key × V)} {ob : Obj} (I : Inv X pins σ H s) (e : H a = some (.dK kvs)) (eo : s.heap.get? a = some ob) : Inv X pins σ (upd H a (.frz ob (.dK kvs))) s := by
 have ok := I.hok _ _ e
 refine I.write (h' := s.heap) (t' := s.toks) (x := a) (e := a) (by rw [e]; exact trivial) (.inl rfl) (fun b u _ q => q) ⟨_, eo⟩ ⟨eo, ?_⟩
 exact ok.stay (fun b u _ q => q) (fun b q => by rw [upd_ne (ne_of q e (fun z => nomatch z))]; exact q) (fun b xs q => by rw [upd_ne (ne_of q e (fun z => nomatch z))]; exact q)
def NoF (H₀ : Hp) (a : Addr) : Prop := ∀ o u, H₀ a ≠ some (.frz o u)
theorem Inv.nof {a : Addr} {kvs : List (Key × V)} (I : Inv X pins σ H s) (e : H a = some (.dK kvs)) : NoF X.H₀ a := fun o u q => by
 have := I.base.frzs _ _ _ q
 rw [e] at this
 cases this
theorem Inv.thaw {a : Addr} {kvs : List (Key × V)} {ob : Obj} (I : Inv X pins σ H s) (n : NoF X.H₀ a) (e : H a = some (.frz ob (.dK kvs))) : Inv X pins σ (upd H a (.dK kvs)) s := by
 obtain ⟨eo, ok⟩ := (show s.heap.get? a = some ob ∧ ObjOk X.prog X.w H s.heap a (.dK kvs) from I.hok _ _ e)
 have ne : ∀ {b : Addr}, H b = none → b ≠ a := fun h z => by rw [z, e] at h; cases h
 have nx : ∀ {b : Addr} {o : HO}, H b = some o → (∀ ob u, o ≠ .frz ob u) → b ≠ a := fun h k z => by rw [z, e] at h; cases h; exact k _ _ rfl
 have st : ∀ {b : Addr} {o : HO}, b ≠ a → ObjOk X.prog X.w H s.heap b o → ObjOk X.prog X.w (upd H a (.dK kvs)) s.heap b o := fun {b o} _ k => k.stay (fun _ _ _ q => q) (fun c q => by rw [upd_ne (nx q fun _ _ z => nomatch z)]; exact q) (fun c xs q => by rw [upd_ne (nx q fun _ _ z => nomatch z)]; exact q)
 refine ⟨I.ok, I.os, I.bare, ⟨I.base.keep, I.base.slot, fun b o q k hx => ?_, I.base.there, fun b xs q => ?_, fun b o u q => ?_, fun b ps q => ?_⟩, I.loc, I.cell, ?_, fun x c q => ?_, fun p hp => ?_, fun b o q => ?_, I.len⟩
 ·have := I.base.free b o q k hx
  rw [upd_ne (ne this)]
  exact this
 ·have := I.base.tups b xs q
  rw [upd_ne (nx this fun _ _ z => nomatch z)]
  exact this
 ·have z : b ≠ a := fun z => n o u (z ▸ q)
  rw [upd_ne z]
  exact I.base.frzs b o u q
 ·obtain ⟨more, z⟩ := I.base.tbls b ps q
  exact ⟨more, by rw [upd_ne (nx z fun _ _ z => nomatch z)]; exact z⟩
 ·rw [upd_ne (ne I.free)]
  exact I.free
 ·rw [upd_ne (ne (I.freeC x c q))]
  exact I.freeC x c q
 ·obtain ⟨a1, a2, a3⟩ := I.pin p hp
  exact ⟨a1, by rw [upd_ne (ne a2)]; exact a2, a3⟩
 ·by_cases z : b = a
  ·subst z
   rw [upd_same] at q
   cases q
   exact ok.stay (fun _ _ _ q => q) (fun c q => by rw [upd_ne (nx q fun _ _ z => nomatch z)]; exact q) (fun c xs q => by rw [upd_ne (nx q fun _ _ z => nomatch z)]; exact q)
  ·rw [upd_ne z] at q
   exact st z (I.hok _ _ q)
end
def Itd (a : Addr) (ob : Obj) (kvs : List (Key × V)) : It := ⟨fun i H => H a = some (.frz ob (.dK kvs)) ∧ i < kvs.length, fun i H x H' => H' = H ∧ ∃ p, kvs[i]? = some p ∧ x = kV p.1, fun i H => H a = some (.frz ob (.dK kvs)) ∧ kvs.length ≤ i⟩
theorem is_kV {k : Key} {u : Value} (h : keyIs k u = true) : RelV (kV k) u := by
 rcases keyIs_shape h with ⟨i, t, rfl, rfl⟩ | ⟨x, t, rfl, rfl⟩
 ·exact ⟨t, rfl⟩
 ·exact ⟨t, rfl⟩
theorem frz_at {P : Program} {w : World} {H : Hp} {h : Heap} {a : Addr} {ob : Obj} {kvs : List (Key × V)} {es : Array DictEntry} {ep : Nat} (hdat : ob.data = .dict es ep) (x : ObjOk P w H h a (.frz ob (.dK kvs))) : ∃ vs, KV kvs vs ∧ h.DictAt (mixKind P w) a vs ep := by
 obtain ⟨eo, z, hd, vs, rel, o', es', ep', ho, c, d, r⟩ := x
 rw [eo] at ho
 cases ho
 rw [hdat] at d
 cases d
 exact ⟨vs, rel, ob, es, eo, c, hdat, r⟩
theorem turn_dict {P : Program} {w : World} {K : PySem.W.Frag} {tg : Expr} (a it : Addr) {ob : Obj} {kvs : List (Key × V)} {es : Array DictEntry} {ep : Nat} (hdat : ob.data = .dict es ep) : Turn P w K tg (Itd a ob kvs) [it] it (fun i h => h.IsKeyIter it a i kvs.length ep) where
 mem := by simp
 obj := fun i h st b hb => by
  have e : b = it := by simpa using hb
  subst e
  obtain ⟨o, e, c, d⟩ := st
  exact ⟨o, e, fun v z => by rw [d] at z; cases z⟩
 keep := fun i h h' st k => st.at fun o e => k it (by simp) o e
 item := by
  intro X hP hw hK hc i pins s σ H E I hf st hg
  subst hP hw hK
  obtain ⟨e, lt⟩ := hg
  obtain ⟨vs, rel, dd⟩ := frz_at hdat (I.hok _ _ e)
  obtain ⟨f0, f1, f2, f3, f4, f5⟩ := hf it (by simp)
  have hl := rel.length
  have r1 := Paired.at rel i lt (by omega)
  rw [hl] at st
  refine wpAny_pyNext_dict_item (knd := mixKind X.prog X.w) (k := vs[i].1) (v := vs[i].2) st dd (List.getElem?_eq_getElem (by omega)) fun key h' hk st' sb => ?_
  have I1 : Inv X pins σ H { s with heap := h' } := I.turned (t' := s.toks) (fun b o hb e => (sb.2 b hb).trans e) f0 f1 f3 f4 f5
  obtain ⟨o, e', c, d⟩ := id st'
  rw [← hl] at st'
  have rk : RelV (kV kvs[i].1) key := by rw [r1.1]; exact is_kV hk
  exact ⟨key, rfl, go_of (s := { s with heap := h' }) e' c d (by decide) ⟨_, H, I1, rk, ⟨rfl, _, List.getElem?_eq_getElem lt, rfl⟩, st', fun b hb => (hf b hb).1⟩⟩
 done := by
  intro X hP hw hK hc i pins s σ H E I hf st hg
  subst hP hw hK
  obtain ⟨e, lt⟩ := hg
  obtain ⟨vs, rel, dd⟩ := frz_at hdat (I.hok _ _ e)
  obtain ⟨f0, f1, f2, f3, f4, f5⟩ := hf it (by simp)
  have hl := rel.length
  rw [hl] at st
  exact wpAny_pyNext_dict_end (knd := mixKind X.prog X.w) (I.ok.hd hc) st dd (List.getElem?_eq_none (by omega)) fun h' eb => ⟨rfl, I.turned (t' := s.toks) (fun b o hb e => eb b o hb e) f0 f1 f3 f4 f5⟩
 self := fun _ _ _ _ _ st h => wpAny_pyIter_keyiter st h
def iDict (H₀ : Hp) (tl : TE) : TI := fun σ H R => tl σ H fun x H1 => ∃ a kvs, x = .ref a ∧ H1 a = some (.dK kvs) ∧ ∀ ob, NoF H₀ a → R (Itd a ob kvs) (upd H1 a (.frz ob (.dK kvs)))
theorem pi_dict {X : Cx} {tg l : Expr} {tl : TE} (hl : PE X l tl) : PI X tg l (iDict X.H₀ tl) := by
 intro pins s σ H R I h
 refine thn (hl pins s σ H _ I h) fun v s1 ho_ => ?_
 obtain ⟨x, H1, I1, r1, a, kvs, ex, e, q⟩ := ho_
 subst ex
 obtain rfl : v = Value.ref a := r1
 have n := I1.nof e
 obtain ⟨z, hd, vs, rel, ob, es, ep, eo, c, d, r⟩ := dk_of I1.hok e
 refine wpAny_pyIter_dict (knd := mixKind X.prog X.w) hd ⟨ob, es, eo, c, d, r⟩ ?_
 have I2 := I1.freeze e eo
 refine ⟨s1.heap.objs.size, [s1.heap.objs.size], _, _, _, rfl, I2.kept (t' := s1.toks) fun b o e => Heap.get?_push_of_some _ e, turn_dict a _ d, ⟨_, Heap.get?_push_size _ rfl, rfl, by rw [rel.length]; rfl⟩, fun b hb => ?_, q ob n⟩
 have eb : b = s1.heap.objs.size := by simpa using hb
 subst eb
 exact I2.fpOk (Nat.le_refl _) (I2.hok.fresh (Nat.le_refl _))
def tForD (H₀ : Hp) (wi : TI) (g : TG) (tb : TS) : TS := fun D σ H => tFor wi g tb { D with nx := fun σ' H' => ∃ a ob kvs, NoF H₀ a ∧ H' a = some (.frz ob (.dK kvs)) ∧ D.nx σ' (upd H' a (.dK kvs)) } σ H
theorem ps_forD {X : Cx} {tg iter : Expr} {body : List Stmt} {wi : TI} {g : TG} {tb : TS} {pos : Pos} (hp : PassesOwn (model X.prog X.w) X.A X.env X.xe) (hc : X.calm = true) (hi : PI X tg iter wi) (hg : PG X tg g) (hb : PSs X body tb)
  (hs : ∀ x, foldedSetIterable iter X.env x = pure x := by intro _; rfl) : PS X (.For tg iter body [] pos) (tForD X.H₀ wi g tb) := by
 intro pins s σ H D I h
 refine wpAny_mono (ps_for hp hc hi hg hb hs pins s σ H _ I h) (fun f s' q => ?_) (fun _ _ z => z)
 cases f with
 | next =>
  obtain ⟨σ', H', I', a, ob, kvs, n, e, q⟩ := q
  exact ⟨σ', _, I'.thaw n e, q⟩
 | brk => exact q
 | cont => exact q
 | ret u => exact q
theorem for_dict {a : Addr} {ob : Obj} {kvs : List (Key × V)} {g : TG} {tb : TS} {D : Ends} {σ : St} {H : Hp} (Pv : Nat → St → Hp → Prop) (h0 : Pv 0 σ H) (hl : ∀ i σ H, i ≤ kvs.length → Pv i σ H → H a = some (.frz ob (.dK kvs)))
  (hs : ∀ i p σ H, kvs[i]? = some p → Pv i σ H → g (kV p.1) σ H fun σ2 H2 => tb { D with nx := Pv (i + 1), ct := Pv (i + 1), bk := D.nx } σ2 H2) (hd : ∀ σ H, Pv kvs.length σ H → D.nx σ H) :
  ∃ W : Nat → Nat → St → Hp → Prop, (∃ m, W 0 m σ H) ∧ ∀ i m σ H, W i m σ H →
   ((Itd a ob kvs).stop i H ∧ D.nx σ H) ∨ ((Itd a ob kvs).go i H ∧ ∃ N : St → Hp → Prop, (∀ σ' H', N σ' H' → ∃ m', m' < m ∧ W (i + 1) m' σ' H') ∧ ∀ x H', (Itd a ob kvs).yld i H x H' → g x σ H' fun σ2 H2 => tb { D with nx := N, ct := N, bk := D.nx } σ2 H2) := by
 refine ⟨fun i m σ H => m = kvs.length - i ∧ i ≤ kvs.length ∧ Pv i σ H, ⟨kvs.length, by simp, Nat.zero_le _, h0⟩, ?_⟩
 rintro i m σ H ⟨rfl, hi, p⟩
 have q := hl i σ H hi p
 by_cases lt : i < kvs.length
 ·refine .inr ⟨⟨q, lt⟩, Pv (i + 1), fun σ' H' p' => ⟨kvs.length - (i + 1), by omega, rfl, lt, p'⟩, ?_⟩
  rintro x H' ⟨rfl, pr, e, rfl⟩
  exact hs i pr σ H' e p
 ·obtain rfl : i = kvs.length := by omega
  exact .inl ⟨⟨q, Nat.le_refl _⟩, hd σ H p⟩
end L2
set_option Elab.async false
set_option linter.all false
set_option maxRecDepth 100000
set_option maxHeartbeats 4000000
namespace L2
open PySem PySem.Spec PyProof.Rows
end L2
set_option Elab.async false
set_option linter.all false
set_option maxRecDepth 100000
set_option maxHeartbeats 4000000
namespace L2
open PySem PySem.Spec PyProof.Rows
def lamArgs (e : Expr) : Arguments := match e with
 | .Lambda a _ _ _ => a
 | _ => { posonlyargs := [], args := [], vararg := none, kwonlyargs := [], kw_defaults := [], kwarg := none, defaults := [] }
def lamBody (e : Expr) : Expr := match e with
 | .Lambda _ b _ _ => b
 | x => x
def lamScope (e : Expr) : Scope := match e with
 | .Lambda _ _ s _ => s
 | _ => { kind := .function, names := [], isGenerator := false, isCoroutine := false }
def lamPos (e : Expr) : Pos := match e with
 | .Lambda _ _ _ p => p
 | _ => ⟨0, 0, 0, 0⟩
def codO (c : Addr) (q : Str) : HO := .ext fun h => h.CodeRec (.ref c) q
def lamO (ec : List (Str × Addr)) (f : Addr) (q : Str) (L : Expr) (c : Addr) : HO := .ext fun h => ∃ (cl : List (Str × Addr)) (pm ctv : Value),
 (∀ x d, cl.lookup x = some d → ec.lookup x = some d) ∧ (∀ n, (n, NameKind.free) ∈ (lamScope L).names → ∃ d, cl.lookup n = some d) ∧
 h.get? f = some (PySem.W.kla_obj "<lambda>" q (lamArgs L) (lamBody L) (lamScope L) cl pm c ctv)
def LamAt (H : Hp) (ec : List (Str × Addr)) (f : Addr) (q : Str) (L : Expr) : Prop := ∃ c, H f = some (lamO ec f q L c) ∧ H c = some (codO c q)
def Tbl (H : Hp) (P : Addr) (q : Str) : Prop := ∃ ps : Array Value, H P = some (.tbl ps) ∧ TriplesOk ps.toList ∧ ∀ pos v, codeAmong pos ps.toList = some v → ∃ c, v = .ref c ∧ H c = some (codO c q)
def Kp (P : Addr) (H H' : Hp) : Prop := ∀ b u, b ≠ P → H b = some u → H' b = some u
theorem Kp.upd {P a : Addr} {H : Hp} {o : HO} (h : H a = none) : Kp P H (L2.upd H a o) := fun b u _ e => by rw [upd_ne (ne_of_none e h)]; exact e
theorem codO_ne {c : Addr} {q : Str} {ps : Array Value} : codO c q ≠ HO.tbl ps := fun z => nomatch z
theorem lamO_ne {ec : List (Str × Addr)} {f : Addr} {q : Str} {L : Expr} {c : Addr} {ps : Array Value} : lamO ec f q L c ≠ HO.tbl ps := fun z => nomatch z
theorem Tbl.upd {H : Hp} {P a : Addr} {q : Str} {o : HO} (t : Tbl H P q) (h : H a = none) : Tbl (L2.upd H a o) P q := by
 obtain ⟨ps, e, ok, c⟩ := t
 refine ⟨ps, by rw [upd_ne (ne_of_none e h)]; exact e, ok, fun pos v z => ?_⟩
 obtain ⟨d, e1, e2⟩ := c pos v z
 exact ⟨d, e1, by rw [upd_ne (ne_of_none e2 h)]; exact e2⟩
theorem LamAt.kp {H H' : Hp} {ec : List (Str × Addr)} {f P : Addr} {q : Str} {L : Expr} (l : LamAt H ec f q L) (k : Kp P H H') (h : ∃ ps, H P = some (.tbl ps)) : LamAt H' ec f q L := by
 obtain ⟨c, e1, e2⟩ := l
 obtain ⟨ps, e⟩ := h
 exact ⟨c, k _ _ (ne_of e1 e lamO_ne) e1, k _ _ (ne_of e2 e codO_ne) e2⟩
theorem Tbl.tbl {H : Hp} {P : Addr} {q : Str} (t : Tbl H P q) : ∃ ps, H P = some (.tbl ps) := ⟨_, t.choose_spec.1⟩
def Bm (mg : Str → Option Value) (base : Heap) : Prop := ∃ bm ob, mg "__builtins__" = some (.ref bm) ∧ bm ≠ builtinsNs ∧ base.get? bm = some ob ∧ ob.cls = .type "module" ∧ ob.dict = some builtinsNs ∧ ob.data = .plain
theorem among_snoc {pos p2 : Pos} {c v : Value} : ∀ (l : List Value), TriplesOk l → codeAmong pos (l ++ [rawInt p2.line, rawInt p2.col, c]) = some v → codeAmong pos l = some v ∨ v = c
 | [], _, h => by
  have h' : (if ((p2.line : Int) == (pos.line : Int) && (p2.col : Int) == (pos.col : Int)) = true then some c else codeAmong pos []) = some v := h
  split at h'
  ·exact .inr (Option.some.inj h').symm
  ·cases h'
 | .int a ta :: .int b tb :: d :: r, ok, h => by
  have ok' : TriplesOk r := ok
  have h' : (if (a == (pos.line : Int) && b == (pos.col : Int)) = true then some d else codeAmong pos (r ++ [rawInt p2.line, rawInt p2.col, c])) = some v := h
  show (if (a == (pos.line : Int) && b == (pos.col : Int)) = true then some d else codeAmong pos r) = some v ∨ _
  split at h'
  ·rename_i q; rw [if_pos q]; exact .inl h'
  ·rename_i q; rw [if_neg q]; exact among_snoc r ok' h'
section
variable {X : Cx} {pins : List (Addr × Obj)} {σ : St} {H : Hp} {s : Shared}
def tLam (ec : List (Str × Addr)) (P : Addr) (q : Str) (L : Expr) : TE := fun _ H Q => Tbl H P q ∧ ∀ H' f, Kp P H H' → Tbl H' P q → H f = none → LamAt H' ec f q L → Q (.ref f) H'
theorem lam_laid {X : Cx} {pins : List (Addr × Obj)} {σ : St} {H H' : Hp} {s : Shared} {h' : Heap} {t' : Nat} {P c f : Addr} {ps ps' : Array Value} {oc of : HO} (I : Inv X pins σ H s) (hP : H P = some (.tbl ps)) (hx : Heap.ExtBut P s.heap h')
  (hc : s.heap.objs.size ≤ c) (hf : s.heap.objs.size ≤ f) (hcf : c ≠ f) (hps : ∃ more, ps' = ps ++ more) (e1 : ∀ b, b ≠ P → b ≠ c → b ≠ f → H' b = H b) (eP : H' P = some (.tbl ps')) (eC : H' c = some oc) (eF : H' f = some of)
  (oP : h'.get? P = some (PySem.W.tabObj ps')) (oC : ObjOk X.prog X.w H' h' c oc) (oF : ObjOk X.prog X.w H' h' f of) : Inv X pins σ H' { s with heap := h', toks := t' } := by
 have nc : H c = none := I.hok.fresh hc
 have nf : H f = none := I.hok.fresh hf
 have ne : ∀ b u, H b = some u → b ≠ P → H' b = some u := fun b u e n => by
  rw [e1 b n (ne_of_none e nc) (ne_of_none e nf)]
  exact e
 have nP : ∀ b, H b = none → b ≠ P := fun b n z => by rw [z, hP] at n; cases n
 have un : Un X.fs [] H H' s.heap h' := by
  refine ⟨fun b o e n _ _ => hx b o (nP b n) e, fun b o e n _ _ => ⟨o.slots, hx b o (nP b n) e⟩, fun b o e n _ => ?_, fun b o e _ => ?_, fun b xs e => ?_, fun b o u e => ?_, fun b qs e => ?_⟩
  ·rw [e1 b (nP b n) (Nat.ne_of_lt (Nat.lt_of_lt_of_le (Heap.lt_size e) hc)) (Nat.ne_of_lt (Nat.lt_of_lt_of_le (Heap.lt_size e) hf))]
   exact n
  ·by_cases z : b = P
   ·rw [z]
    exact ⟨_, oP⟩
   ·exact ⟨o, hx b o z e⟩
  ·exact ne b _ e fun z => by rw [z, hP] at e; cases e
  ·exact ne b _ e fun z => by rw [z, hP] at e; cases e
  ·by_cases z : b = P
   ·rw [z, hP] at e
    cases e
    obtain ⟨more, rfl⟩ := hps
    exact ⟨more, by rw [z]; exact eP⟩
   ·exact ⟨#[], by rw [Array.append_empty]; exact ne b _ e z⟩
 refine I.un (h' := h') (t' := t') un fun b u e => ?_
 by_cases hbf : b = f
 ·subst hbf
  rw [eF] at e
  cases e
  exact oF
 by_cases hbc : b = c
 ·subst hbc
  rw [eC] at e
  cases e
  exact oC
 by_cases hbP : b = P
 ·subst hbP
  rw [eP] at e
  cases e
  exact oP
 rw [e1 b hbP hbc hbf] at e
 refine (I.hok b u e).stay (fun d v hd q => hx d v ?_ q) (fun d q => ?_) fun d xs q => ?_
 ·rcases hd with z | z
  ·rw [z]; exact hbP
  ·intro z2; rw [z2, hP] at z; cases z
 ·exact ne d _ q fun z => by rw [z, hP] at q; cases q
 ·exact ne d _ q fun z => by rw [z, hP] at q; cases q
theorem pe_lam {c P : Addr} {q : Str} {L : Expr} (hL : L = .Lambda (lamArgs L) (lamBody L) (lamScope L) (lamPos L)) (hcode : X.env.code = .ref c) (hq : X.env.qual ++ "<lambda>" = q) (C : PySem.W.codeHdIn X.K c P = true) (B : Bm X.mg X.base)
  (hf : ((lamScope L).names.all fun p => p.2 != .free || X.env.kindOf p.1 == some .cell || X.env.kindOf p.1 == some .free) = true) (hd : defaultsOf (lamArgs L) X.env = ([], [])) :
  PE X L (tLam X.env.cells P q L) := by
 intro pins s σ H Q I h
 obtain ⟨t, h⟩ := h
 obtain ⟨ps, hP, ok, hcs⟩ := id t
 have free : ∀ n, (n, NameKind.free) ∈ (lamScope L).names → ∃ d, X.env.cells.lookup n = some d := fun n hn => I.ok.has n (by
  simp only [List.all_eq_true] at hf
  have := hf (n, .free) hn
  simpa using this)
 obtain ⟨cl, hcl, hcl1, hcl2⟩ := clos_of free
 have hPh : s.heap.get? P = some (PySem.W.tabObj ps) := I.hok P _ hP
 have hns := I.ok.mod.glob.keeps I.bk
 have hCd := PySem.W.codeHd_of_K I.kIn C
 obtain ⟨bm, ob, b1, b2, b3, b4, b5, b6⟩ := B
 have nb : ∀ b o, X.base.get? b = some o → b ≠ P := fun b o e z => by
  have := (I.bs b o e).2
  rw [z, hP] at this
  cases this
 have hgP : mainGlobals ≠ P := by
  obtain ⟨o, es, ep, e, _⟩ := I.ok.mod.glob
  exact nb _ o e
 have hbG : bm ≠ mainGlobals := fun z => by
  obtain ⟨o, es, ep, e, hd, _⟩ := I.ok.mod.glob
  rw [z, e] at b3; cases b3; rw [hd] at b6; cases b6
 have hB : s.heap.BuiltinsAt X.mg P := ⟨bm, ob, b1, b2, hbG, nb _ _ b3, I.bk _ _ b3, b4, b5, b6⟩
 have laidF : ∀ {H' : Hp} {h' : Heap} {c' : Addr} {ctv : Value} {pm : Value} {f : Addr}, h'.get? f = some (PySem.W.kla_obj "<lambda>" q (lamArgs L) (lamBody L) (lamScope L) cl pm c' ctv) → ObjOk X.prog X.w H' h' f (lamO X.env.cells f q L c') := fun {H' h' c' ctv pm f} e =>
  ⟨⟨cl, pm, ctv, hcl1, hcl2, e⟩, ⟨_, e⟩, fun h1 h2 ⟨cl, pm, ctv, a1, a2, a3⟩ k => ⟨cl, pm, ctv, a1, a2, k _ a3⟩⟩
 have laidC : ∀ {H' : Hp} {h' : Heap} {c' : Addr}, h'.CodeRec (.ref c') q → ObjOk X.prog X.w H' h' c' (codO c' q) := fun {H' h' c'} r => by
  refine ⟨r, ?_, ?_⟩
  ·obtain ⟨c2, oc, vs, tq, e, hoc, _⟩ := r
   cases e
   exact ⟨oc, hoc⟩
  ·rintro h1 h2 ⟨c2, oc, vs, tq, e, hoc, r2⟩ k
   cases e
   exact ⟨c', oc, vs, tq, rfl, k _ hoc, r2⟩
 have key : wpAny (model X.prog X.w) X.A (makeFunction "<lambda>" (X.env.qual ++ "<lambda>") (lamArgs L) (.expr (lamBody L)) (lamScope L) X.env [] [] [] (lamPos L) (lamPos L).line) (EP X pins σ Q) X.xe s := by
  rw [hq]
  cases hm : codeAmong (lamPos L) ps.toList with
  | none =>
   refine PySem.W.kla_makeFunction (mg := X.mg) hcl I.ok.glob hns hcode hCd hPh ok hm hgP hB fun c' ctv h' tk hx hge hlt hrec htb => ?_
   have hPl : P < s.heap.objs.size := Heap.lt_size hPh
   have hPc : P ≠ c' := Nat.ne_of_lt (Nat.lt_of_lt_of_le hPl hge)
   have hcf : c' ≠ h'.objs.size := Nat.ne_of_lt hlt
   have hsz : s.heap.objs.size ≤ h'.objs.size := Nat.le_of_lt (Nat.lt_of_le_of_lt hge hlt)
   have hPf : P ≠ h'.objs.size := Nat.ne_of_lt (Nat.lt_of_lt_of_le hPl hsz)
   have nc : H c' = none := I.hok.fresh hge
   have nf : H h'.objs.size = none := I.hok.fresh hsz
   obtain ⟨H', eH⟩ : ∃ H', H' = L2.upd (L2.upd (L2.upd H P (.tbl (ps ++ #[rawInt (lamPos L).line, rawInt (lamPos L).col, .ref c']))) c' (codO c' q)) h'.objs.size (lamO X.env.cells h'.objs.size q L c') := ⟨_, rfl⟩
   have e1 : ∀ b, b ≠ P → b ≠ c' → b ≠ h'.objs.size → H' b = H b := fun b n1 n2 n3 => by rw [eH, upd_ne n3, upd_ne n2, upd_ne n1]
   have eP : H' P = some (.tbl (ps ++ #[rawInt (lamPos L).line, rawInt (lamPos L).col, .ref c'])) := by rw [eH, upd_ne hPf, upd_ne hPc, upd_same]
   have eC : H' c' = some (codO c' q) := by rw [eH, upd_ne hcf, upd_same]
   have eF : H' h'.objs.size = some (lamO X.env.cells h'.objs.size q L c') := by rw [eH, upd_same]
   clear eH
   have kp : Kp P H H' := fun b u n e => by rw [e1 b n (ne_of_none e nc) (ne_of_none e nf)]; exact e
   have push : ∀ b o, h'.get? b = some o → (h'.push (PySem.W.kla_obj "<lambda>" q (lamArgs L) (lamBody L) (lamScope L) cl ((X.mg "__name__").getD .none) c' ctv)).get? b = some o := fun b o e => Heap.get?_push_of_some _ e
   refine ⟨.ref h'.objs.size, H', lam_laid (t' := tk) I hP (fun b o n e => push _ _ (hx b o n e)) hge hsz hcf ⟨_, rfl⟩ e1 eP eC eF (push _ _ htb) (laidC ?_) (laidF (Heap.get?_push_size _ rfl)), rfl, h H' _ kp ?_ nf ⟨c', eF, eC⟩⟩
   ·obtain ⟨c2, oc, vs, tq, e, hoc, r2⟩ := hrec
    exact ⟨c2, oc, vs, tq, e, push _ _ hoc, r2⟩
   ·refine ⟨_, eP, ?_, fun pos v z => ?_⟩
    ·rw [Array.toList_append]
     exact TriplesOk_snoc _ _ _ _ ok
    ·rw [Array.toList_append] at z
     rcases among_snoc _ ok z with z | z
     ·obtain ⟨d, a1, a2⟩ := hcs pos v z
      exact ⟨d, a1, kp _ _ (ne_of a2 hP codO_ne) a2⟩
     ·exact ⟨c', z, eC⟩
  | some cv =>
   obtain ⟨c', rfl, hc'⟩ := hcs _ _ hm
   refine PySem.W.kla_makeFunctionHit (mg := X.mg) hcl I.ok.glob hns hcode hCd hPh ok hm hB fun ctv h' tk hk hsz => ?_
   have nf : H h'.objs.size = none := I.hok.fresh hsz
   refine ⟨.ref h'.objs.size, _, I.laid (t' := tk) (fun b o e => Heap.get?_push_of_some _ (hk b o e)) hsz (laidF (c' := c') (Heap.get?_push_size _ rfl)), rfl, h _ _ (Kp.upd nf) (t.upd nf) nf ⟨c', upd_same, ?_⟩⟩
   rw [upd_ne (ne_of_none hc' nf)]
   exact hc'
 rw [hL]
 exact PySem.W.kla_eval (by first | exact hd | (rw [← hL]; exact hd)) key
end
end L2
set_option Elab.async false
set_option linter.all false
set_option maxRecDepth 100000
set_option maxHeartbeats 4000000
namespace L2
open PySem PySem.Spec PyProof.Rows
def cxLam (X : Cx) (N : List Str) (q : Str) (sc : Scope) (f : Addr) (cd : Value) (cl : List (Str × Addr)) (s : Shared) (H : Hp) (E : XK) : Cx where
 prog := X.prog
 w := X.w
 K := X.K
 mg := X.mg
 base := X.base
 A := X.A.deeper (PySem.W.envX q sc s.heap.objs.size f cd cl)
 N := N
 s₀ := s
 H₀ := H
 env := PySem.W.envX q sc s.heap.objs.size f cd cl
 outer := X.stack
 stack := PySem.W.envX q sc s.heap.objs.size f cd cl :: X.stack
 ex := []
 calm := true
 fn := fun _ => false
 pn := []
 xe := fun e s' => wpAny (model X.prog X.w) (X.A.deeper (PySem.W.envX q sc s.heap.objs.size f cd cl)) (leaving (PySem.W.envX q sc s.heap.objs.size f cd cl) e) (fun _ s'' => CX1 X.prog X.w X.stack H s E e s'') (fun e' s'' => CX1 X.prog X.w X.stack H s E e' s'') s'
section
variable {X : Cx} {N : List Str} {q : Str} {sc : Scope} {f : Addr} {cd : Value} {cl : List (Str × Addr)} {s0 : Shared} {H0 : Hp} {E : XK}
theorem passL : Passes (CX1 X.prog X.w) (cxLam X N q sc f cd cl s0 H0 E) E := by
 rintro pins σ H s e s' I ⟨a, cls, dd, T, H', rfl, os, bare, un, hok, t, na, nT, ha, hT, q⟩
 have I1 : Inv _ pins σ H' s' := I.call' os un hok bare (fun b z => absurd z (by simp))
 have old : ∀ {z : Addr}, s.heap.get? z = none → s0.heap.get? z = none := fun {z} hz => by
  cases q : s0.heap.get? z with
  | none => rfl
  | some o =>
   obtain ⟨o', e'⟩ := I.base.there z o q (show z ∉ ([] : List Addr) by simp)
   rw [hz] at e'
   cases e'
 show wpAny _ _ (leaving _ (.ref a)) _ _ _
 refine leave_next I1.ok.frames I1.stack rfl t fun h2 T2 l t2 hT2 => ?_
 have l' : Lft (frs (cxLam X N _ sc f cd cl s0 H0 E).stack) [a, T] s'.heap h2 := l
 have hx : ∀ b ∈ [a, T], s0.heap.get? b = none := by
  intro b hb
  simp only [List.mem_cons, List.not_mem_nil, or_false] at hb
  rcases hb with rfl | rfl
  ·exact old na
  ·exact old nT
 have hx' : ∀ b ∈ [a, T], H' b = none := by
  intro b hb
  simp only [List.mem_cons, List.not_mem_nil, or_false] at hb
  rcases hb with rfl | rfl
  ·exact ha
  ·exact hT
 have nT1 : s.heap.get? T2 = none := by
  cases z : s.heap.get? T2 with
  | none => rfl
  | some o =>
   obtain ⟨o2, e2⟩ := un.there T2 o z (by simp)
   rw [hT2] at e2
   cases e2
 have hT2' : H' T2 = none := by
  cases z : H' T2 with
  | none => rfl
  | some o =>
   obtain ⟨o', e'⟩ := (hok T2 o z).here
   rw [hT2] at e'
   cases e'
 refine ⟨a, cls, dd, T2, H', rfl, os.trans I.os, bare, ?_, hok.lft l' I1.stkFree hx', t2, old na, old nT1, ha, hT2', q⟩
 exact un_lft I rfl ⟨rfl, rfl⟩ un l' hx
end
def lamSt (vs : List V) (caps : List Nat) (σ : St) : St := vs.map some ++ caps.map fun i => (σ[i]?).join
def lamOk (L : Expr) (ps : List Str) : Bool :=
 ((lamScope L).kind == .function) && !(lamScope L).isCoroutine && !(lamScope L).isGenerator && ((lamScope L).names.all fun p => p.2 != .cell) && ps.all fun x => (lamScope L).names.lookup x == some .local
theorem zip_nodup (us : List Value) : ∀ (P : List Str), P.Nodup → ((P.zip us).map (·.1)).Nodup := by
 induction us with
 | nil => intro P _; rw [List.zip_nil_right]; exact .nil
 | cons u us ih =>
  intro P nd
  cases P with
  | nil => exact .nil
  | cons p P =>
   rw [List.nodup_cons] at nd
   show (p :: (P.zip us).map (·.1)).Nodup
   rw [List.nodup_cons]
   refine ⟨fun m => ?_, ih P nd.2⟩
   obtain ⟨⟨y, v⟩, hy, e⟩ := List.mem_map.mp m
   have e : y = p := e
   rw [e] at hy
   exact nd.1 (List.of_mem_zip hy).1
theorem rev_lookup : ∀ {P : List Str} {us : List Value} {i : Nat} {x : Str} {u : Value}, P.Nodup → P[i]? = some x → us[i]? = some u → (P.zip us).reverse.lookup x = some u := by
 intro P us i x u nd h1 h2
 have key : ∀ (l : List (Str × Value)), (l.map (·.1)).Nodup → (x, u) ∈ l → l.lookup x = some u := by
  intro l
  induction l with
  | nil => intro _ m; cases m
  | cons p r ih =>
   obtain ⟨y, v⟩ := p
   intro nd m
   rw [List.map_cons, List.nodup_cons] at nd
   rw [List.lookup_cons]
   rcases List.mem_cons.mp m with z | z
   ·cases z
    simp
   ·have hx : (x == y) = false := by
     cases hb : x == y with
     | false => rfl
     | true =>
      have e : x = y := by simpa using hb
      subst e
      exact absurd (List.mem_map.mpr ⟨_, z, rfl⟩) nd.1
    rw [hx]
    exact ih nd.2 z
 refine key _ ?_ ?_
 ·rw [List.map_reverse]
  refine List.pairwise_reverse.mpr (List.Pairwise.imp (fun h => Ne.symm h) ?_)
  exact zip_nodup us P nd
 ·rw [List.mem_reverse]
  refine List.mem_iff_getElem?.mpr ⟨i, ?_⟩
  rw [List.getElem?_zip_eq_some]
  exact ⟨h1, h2⟩
section
variable {X : Cx} {pins : List (Addr × Obj)} {σ : St} {H : Hp} {s : Shared} {N ps : List Str} {q : Str} {L : Expr} {f c : Addr} {cl : List (Str × Addr)} {caps : List Nat} {E : XK} {vs : List V} {us : List Value} {h1 : Heap} {t' : Nat}
theorem lam_inv (I : Inv X pins σ H s) (hh : X.A.handled = none) (hcl1 : ∀ x d, cl.lookup x = some d → X.env.cells.lookup x = some d) (hcl2 : ∀ n, (n, NameKind.free) ∈ (lamScope L).names → ∃ d, cl.lookup n = some d)
  (hok : lamOk L ps = true) (hcap : capOk X (lamScope L) N ps.length caps = true) (pre : N.take ps.length = ps) (nd : ps.Nodup) (r : Vals vs us) (hl : vs.length = ps.length)
  (hns : h1.Ns s.heap.objs.size fun x => (ps.zip us).reverse.lookup x) (hk : ∀ b o, s.heap.get? b = some o → h1.get? b = some o) :
  Inv (cxLam X N q (lamScope L) f (.ref c) cl s H E) [] (lamSt vs caps σ) H { s with heap := h1, toks := t' } := by
 simp only [lamOk, Bool.and_eq_true, List.all_eq_true, beq_iff_eq] at hok
 obtain ⟨⟨⟨⟨hkind, _⟩, _⟩, hcell⟩, hpar⟩ := hok
 simp only [capOk, Bool.and_eq_true, List.all_eq_true, beq_iff_eq] at hcap
 obtain ⟨hlen, hcap⟩ := hcap
 have hmem : ∀ x, (lamScope L).names.lookup x = some .free → (x, NameKind.free) ∈ (lamScope L).names := fun x h => PySem.mem_of_lookup h
 have okX : (cxLam X N q (lamScope L) f (.ref c) cl s H E).Ok := by
  refine ⟨I.ok.mod, hkind, rfl, rfl, Nat.le_refl _, fun x y c e1 e2 => I.ok.inj x y c (hcl1 x c e1) (hcl1 y c e2), fun x hx => ?_, (fun x c z => nomatch z), fun _ => hh, Around.frames_deeper I.ok.frames, .inr ⟨rfl, rfl⟩,
   fun b z => absurd (show b ∈ ([] : List Addr) from z) (by simp), I.bs, Nat.le_trans I.ok.bsz I.sz, fun b _ _ z => absurd (show b ∈ ([] : List Addr) from z) (by simp), fun b z => absurd (show b ∈ ([] : List Addr) from z) (by simp), I.stack, I.stkFree⟩
  have hx : (lamScope L).names.lookup x = some .cell ∨ (lamScope L).names.lookup x = some .free := hx
  rcases hx with z | z
  ·have := hcell _ (PySem.mem_of_lookup z)
   simp at this
  ·exact hcl2 x (hmem x z)
 refine ⟨okX, rfl, I.bare, Un.kept hk, ⟨_, hns, ?_⟩, ?_, I.hok.fresh (Nat.le_refl _), fun x d e => I.freeC x d (hcl1 x d e), fun p hp => absurd (show p ∈ ([] : List (Addr × Obj)) from hp) (by simp), I.hok.kept hk, ?_⟩
 ·intro i x v e1 e2 e3
  by_cases hi : i < vs.length
  ·rw [lamSt, List.getElem?_append_left (by simpa using hi), List.getElem?_map] at e2
   have ha : vs[i]? = some v := by
    cases e : vs[i]? with
    | none => rw [e] at e2; cases e2
    | some a => rw [e] at e2; cases e2; rfl
   obtain ⟨u, hu, rv⟩ := r.get ha
   have hp : ps[i]? = some x := by
    rw [← pre, List.getElem?_take_of_lt (by omega)]; exact e1
   exact ⟨u, rv, .inl ⟨hpar x (List.mem_of_getElem? hp), rev_lookup nd hp hu⟩⟩
  ·have hio : vs.length ≤ i := Nat.le_of_not_lt hi
   rw [lamSt, List.getElem?_append_right (by simpa using hio), List.length_map, List.getElem?_map] at e2
   cases ec : caps[i - vs.length]? with
   | none => rw [ec] at e2; cases e2
   | some k =>
    rw [ec] at e2
    have e2' : (σ[k]?).join = some v := Option.some.inj e2
    have hm : (k, x) ∈ caps.zip (N.drop ps.length) := by
     have e1' : (N.drop ps.length)[i - vs.length]? = some x := by
      rw [List.getElem?_drop, hl]
      have : ps.length + (i - ps.length) = i := by omega
      rw [this]; exact e1
     refine List.mem_iff_getElem?.mpr ⟨i - vs.length, ?_⟩
     rw [List.getElem?_zip_eq_some]
     exact ⟨ec, e1'⟩
    have hk' := hcap (k, x) hm
    simp only [Bool.or_eq_true, beq_iff_eq] at hk'
    obtain ⟨⟨hk1, hk2⟩, hk3⟩ := hk'
    have hσ : σ[k]? = some (some v) := by
     cases ez : σ[k]? with
     | none => rw [ez] at e2'; cases e2'
     | some o => rw [ez] at e2'; cases o with
      | none => cases e2'
      | some v' => have : v' = v := Option.some.inj e2'; rw [this]
    obtain ⟨m, hn, hl2⟩ := I.loc
    obtain ⟨u, r, l⟩ := hl2 k x v hk1 hσ (.inr hk3)
    rcases l with ⟨lk, _⟩ | ⟨lk, d, lc, lz⟩
    ·rcases hk3 with z | z <;> (rw [z] at lk; cases lk)
    ·obtain ⟨d', hd'⟩ := hcl2 x (hmem x hk2)
     have ecc : d' = d := Option.some.inj ((hcl1 x d' hd').symm.trans lc)
     subst ecc
     refine ⟨u, r, .inr ⟨.inr hk2, d', hd', ?_⟩⟩
     obtain ⟨o, ho, hd⟩ := lz
     exact ⟨o, hk _ o ho, hd⟩
 ·intro x d e
  obtain ⟨v, o, ho, hd⟩ := I.cell x d (hcl1 x d e)
  exact ⟨v, o, hk _ o ho, hd⟩
 ·show (lamSt vs caps σ).length = N.length
  rw [lamSt, List.length_append, List.length_map, List.length_map, hlen, hl]
theorem lam_run {Q : VK} {te : XK → TE} (I : Inv X pins σ H s) (hr : X.A.depth < recursionLimit) (hh : X.A.handled = none) (la : LamAt H X.env.cells f q L) (hok : lamOk L ps = true) (hcap : capOk X (lamScope L) N ps.length caps = true) (pre : N.take ps.length = ps) (nd : ps.Nodup)
  (hb : ∀ cl pm cd ctv us, us.length = ps.length → bindArgs (PySem.W.kla_fn "<lambda>" q (lamArgs L) (lamBody L) (lamScope L) cl pm cd ctv) ⟨us, []⟩ = pure (ps.zip us))
  (he : ∀ E f cd cl s H, PE (cxLam X N q (lamScope L) f cd cl s H E) (lamBody L) (te E)) (r : Vals vs us) (hl : vs.length = ps.length) (h : te E (lamSt vs caps σ) H Q) :
  codeAny (model X.prog X.w) X.A (.call (.ref f) ⟨us, []⟩) (CR (CX1 X.prog X.w) X.stack X.prog X.w H s Q E) s := by
 obtain ⟨c, eF, eC⟩ := la
 obtain ⟨⟨cl, pm, ctv, hcl1, hcl2, ho⟩, _⟩ := I.hok f _ eF
 obtain ⟨hrec, _⟩ := I.hok c _ eC
 have ok' := hok
 simp only [lamOk, Bool.and_eq_true, List.all_eq_true, beq_iff_eq, Bool.not_eq_true'] at ok'
 obtain ⟨⟨⟨⟨hkind, hco⟩, hgen⟩, hcell⟩, hpar⟩ := ok'
 have hcell' : ∀ y ∈ (lamScope L).names, y.2 ≠ .cell := fun y hy => by have := hcell y hy; simpa using this
 refine PySem.W.kla_callFunE hr ho rfl hco hgen rfl hrec ?_
 rw [hb _ _ _ _ us (by rw [← r.length]; exact hl)]
 refine wpAny_pure (wpAny_newFunctionEnv hcell' (fun y hy => hpar _ (List.of_mem_zip hy).1) (fun h1 hns hsb => ⟨I.nolimit.fresh _ hsb, ?_⟩) hkind)
 show codeAny _ _ (.expr (lamBody L) (PySem.W.envX q (lamScope L) s.heap.objs.size f (.ref c) cl)) _ _
 have hk : ∀ b o, s.heap.get? b = some o → h1.get? b = some o := fun b o e => hsb.extBut b o (Nat.ne_of_lt (Heap.lt_size e)) (Heap.get?_push_of_some _ e)
 have I1 := lam_inv (N := N) (q := q) (f := f) (c := c) (E := E) (t' := s.toks + (ps.zip us).length) I hh hcl1 hcl2 hok hcap pre nd r hl hns hk
 refine PySem.W.kla_codeExpr (wpAny_mono (he E f (.ref c) cl s H [] _ _ H Q I1 h) (fun u s' hq => ?_) fun e s' hs => hs)
 obtain ⟨v, H', J, rv, qv⟩ := hq
 exact ⟨v, H', J.os, J.bare, J.base, J.hok, rv, qv⟩
end
def tLamX (ec : List (Str × Addr)) (q : Str) (Ls : List Expr) (np : Nat) (caps : List Nat) (tb : Nat → XK → TE) (ex : St → XK) (tf : TE) (t : TA) : TE := fun σ H Q => tf σ H fun v H1 => ∃ f j L, v = .ref f ∧ Ls[j]? = some L ∧ LamAt H1 ec f q L ∧
 t σ H1 fun vs H2 => LamAt H2 ec f q L ∧ vs.length = np ∧ tb j (ex σ) (lamSt vs caps σ) H2 Q
section
variable {X : Cx} {ex : St → XK} {N ps : List Str} {q x : Str} {Ls : List Expr} {caps : List Nat} {tb : Nat → XK → TE} {tf : TE} {t : TA} {e : Expr} {es : List Expr} {p pos : Pos}
theorem LamAt.fnAt {pins : List (Addr × Obj)} {σ : St} {H : Hp} {s : Shared} {ec : List (Str × Addr)} {f : Addr} {L : Expr} (I : Inv X pins σ H s) (l : LamAt H ec f q L) : PySem.W.FnAt f s.heap := by
 obtain ⟨c, eF, eC⟩ := l
 obtain ⟨⟨cl, pm, ctv, _, _, ho⟩, _⟩ := I.hok f _ eF
 exact ⟨_, _, _, _, ho⟩
theorem pe_lamX {ec : List (Str × Addr)} (hec : X.env.cells = ec) (hex : X.ex = []) (hr : X.A.depth < recursionLimit) (hh : X.A.handled = none) (ok : (Ls.all fun L => lamOk L ps && capOk X (lamScope L) N ps.length caps) = true) (pre : N.take ps.length = ps) (nd : ps.Nodup)
  (hb : ∀ L ∈ Ls, ∀ cl pm cd ctv us, us.length = ps.length → bindArgs (PySem.W.kla_fn "<lambda>" q (lamArgs L) (lamBody L) (lamScope L) cl pm cd ctv) ⟨us, []⟩ = pure (ps.zip us))
  (he : ∀ j L, Ls[j]? = some L → ∀ E f cd cl s H, PE (cxLam X N q (lamScope L) f cd cl s H E) (lamBody L) (tb j E))
  (hf : PE (X.wish (XW X ex)) (.Name x p) tf) (ha : PA (X.wish (XW X ex)) (e :: es) t)
  (hst : starEach (e :: es) X.env = (false, eval e X.env) :: starEach es X.env := by rfl) (hpl : (backTo pos (starEach es X.env)).any (·.1) = false := by rfl) :
  PE (X.wish (XW X ex)) (.Call (.Name x p) (e :: es) [] pos) (tLamX ec q Ls ps.length caps tb ex tf t) := by
 subst hec
 intro pins s σ H Q I h
 refine wpAny_Call_Name_kw (thn (hf pins s σ H _ I h) fun u s1 ho_ => ?_)
 obtain ⟨v, H1, I1, rv, f, j, L, rfl, hj, la, h1⟩ := ho_
 obtain rfl : u = Value.ref f := rv
 refine PySem.W.callWith_F (la.fnAt I1) (thn (ha pos pins s1 σ H1 _ I1 h1) fun us s2 ⟨vs, H2, I2, r, la2, hl, q2⟩ => ⟨la2.fnAt I2, ?_⟩) hst hpl
 have hm : L ∈ Ls := List.mem_of_getElem? hj
 have okL := List.all_eq_true.mp ok L hm
 simp only [Bool.and_eq_true] at okL
 have I0 := I2.unwish
 show wpAny (model X.prog X.w) X.A (call (.ref f) us) (EP (X.wish (XW X ex)) pins σ Q) (XW X ex) s2
 refine wpAny_call (codeAny_mono (lam_run (X := X) (te := tb j) I0 hr hh la2 okL.1 okL.2 pre nd (hb L hm) (he j L hj) r hl q2) fun r s' hq => ?_)
 cases r with
 | error e =>
  obtain ⟨a, cls, dd, T, H', rfl, os, bare, un, hok, t, na, nT, ha, hT, q⟩ := hq
  have J : Inv X pins σ H' s' := I0.call' os un hok bare (fun b z => absurd z (by simp))
  have A1 := I0.away hex na
  have A2 := I0.away hex nT
  exact ⟨pins, σ, a, cls, dd, T, H', rfl, J, t, ⟨ha, A1.z, A1.l, A1.c, A1.p⟩, ⟨hT, A2.z, A2.l, A2.c, A2.p⟩, q⟩
 | ok fl =>
  cases fl with
  | ret u => exact I2.after hq
  | next => exact False.elim hq
  | brk => exact False.elim hq
  | cont => exact False.elim hq
end
theorem pe_mownL {X : Cx} {N : List Str} {q : Str} {sc : Scope} {f : Addr} {cd : Value} {cl : List (Str × Addr)} {s0 : Shared} {H0 : Hp} {E : XK} {C : Addr} {m q2 : Str} {st : Stmt} {ps : List Str} {k : Nat} {sp : Sp} {o e : Expr} {es : List Expr} {ta : TE} {t : TA} {apos pos : Pos} {pl : Sem Bool}
  {F : Mx X.K C m q2 st ps} (c : Cls X.K C) (G : FnOk X.prog X.w X.K X.mg X.base (CX1 X.prog X.w) k F.f F.fd ps sp) (hr : Room k (cxLam X N q sc f cd cl s0 H0 E).A)
  (ho : PE (cxLam X N q sc f cd cl s0 H0 E) o ta) (ha : PA (cxLam X N q sc f cd cl s0 H0 E) (e :: es) t)
  (hst : starEach (e :: es) (cxLam X N q sc f cd cl s0 H0 E).env = (false, eval e (cxLam X N q sc f cd cl s0 H0 E).env) :: starEach es (cxLam X N q sc f cd cl s0 H0 E).env := by rfl)
  (hpl : (backTo pos (starEach es (cxLam X N q sc f cd cl s0 H0 E).env)).any (·.1) = false := by rfl)
  (ht : eval (.Call (.Attribute o m apos) (e :: es) [] pos) (cxLam X N q sc f cd cl s0 H0 E).env = (do
   let ov ← eval o (cxLam X N q sc f cd cl s0 H0 E).env
   standAt apos.atName
   let (fv, first) ← holding [ov] (getMethod ov m pl)
   callWith pos fv first (backTo pos (starEach (e :: es) (cxLam X N q sc f cd cl s0 H0 E).env)) (backToKw pos (keywordEach [] (cxLam X N q sc f cd cl s0 H0 E).env))) := by rfl) :
  PE (cxLam X N q sc f cd cl s0 H0 E) (.Call (.Attribute o m apos) (e :: es) [] pos) (tMeth C m sp [] E ta t) := pe_meth ho c F.me G hr F.bi .nil passL ha hst hpl ht
end L2
set_option Elab.async false
set_option linter.all false
set_option maxRecDepth 100000
set_option maxHeartbeats 4000000
namespace L2
open PySem PySem.Spec PyProof.Rows
def OnlyT (R : Addr) (H : Hp) : Prop := H R = some (.tbl #[]) ∧ ∀ b, b ≠ R → H b = none ∨ ∃ o xs, H b = some (.frz o (.lst xs))
theorem law_callT {P : Program} {w : World} {K : PySem.W.Frag} {mg mb : Str → Option Value} {CX : CXT} {k : Nat} {fa a c R : Addr} {fd : FuncData} {x : Str} {sp : Sp} {s₁ : Shared} {vs : List Value} {ns : List Int}
  (KX : K.In s₁.heap) (hns : s₁.heap.Ns mainGlobals mg) (hb : s₁.heap.Ns builtinsNs mb) (hbb : ∀ x : Str, x ≠ "__name__" → mb x = bootBuiltins x) (hlim : s₁.heap.NoLimit) (hg : s₁.gens = #[])
  (hBm : Bm mg s₁.heap) (hT : s₁.heap.TableAt c R #[]) (hKR : K.lookup R = none)
  (ha : s₁.heap.get? a = some { cls := .type "list", data := .seq vs.toArray }) (hi : IntsAre vs ns) (hl : ns.length ≤ sizeLine) (hr : Room k callerA)
  (F : ∀ base : Heap, K.In base → base.Ns mainGlobals mg → Bm mg base → FnOk P w K mg base CX k fa fd [x] sp) (hbind : ∀ (s : Shared) (u : Value), BindsTo s fd ⟨[u], []⟩ [(x, u)])
  (hsp : ∀ H : Hp, OnlyT R H → SqL K H a (ns.map V.int) → sp [.ref a] H (fun v _ => v = .bl true) fun _ _ _ => False)
  (hCX : ∀ H e s', CX [] H s₁ (fun _ _ _ => False) e s' → False) :
  codeAny (model P w) callerA (.call (.ref fa) ⟨[.ref a], []⟩) (fun r s' => r = .ok (.ret (.bool true)) ∧ OldK s₁.heap s'.heap ∧ s'.os = s₁.os ∧ AllBare s'.gens) s₁ := by
 have rv := vals_ints hi
 have lenV := hi.length
 have hR : s₁.heap.get? R = some { cls := .none, data := .fields #[] } := hT.2
 have hRa : R ≠ a := fun z => by rw [z, ha] at hR; cases hR
 have core : ∀ H : Hp, OnlyT R H → SqL K H a (ns.map V.int) → HOk P w H s₁.heap → (∀ b, H b ≠ none → b = a ∨ b = R) → (H a ≠ none → K.lookup a = none) →
   codeAny (model P w) callerA (.call (.ref fa) ⟨[.ref a], []⟩) (fun r s' => r = .ok (.ret (.bool true)) ∧ OldK s₁.heap s'.heap ∧ s'.os = s₁.os ∧ AllBare s'.gens) s₁ := by
  intro H hO hS hok hA hK
  have base_of : ∀ {b : Addr} {o : Obj}, s₁.heap.get? b = some o → H b = none → (hidT s₁.heap H).get? b = some o := fun e n => hidT_get e n
  have noA : ∀ {b : Addr} {o : Obj} {es : Array DictEntry} {ep : Nat}, s₁.heap.get? b = some o → o.data = .dict es ep → H b = none := fun {b o es ep} e d => by
   cases q : H b with
   | none => rfl
   | some u =>
    rcases hA b (by rw [q]; simp) with e' | e'
    ·subst e'
     rw [ha] at e; cases e
     have d' : Data.seq vs.toArray _ = Data.dict es ep := d
     cases d'
    ·subst e'
     rw [hR] at e; cases e
     have d' : Data.fields #[] = Data.dict es ep := d
     cases d'
  have nsK : ∀ {b : Addr} {m : Str → Option Value}, s₁.heap.Ns b m → (hidT s₁.heap H).Ns b m := fun {b m} ⟨o, es, ep, e, d, r⟩ => ⟨o, es, ep, base_of e (noA e d), d, r⟩
  have hKb : K.In (hidT s₁.heap H) := fun b o e => base_of (KX b o e) (by
   cases q : H b with
   | none => rfl
   | some u =>
    rcases hA b (by rw [q]; simp) with e' | e'
    ·subst e'
     rw [hK (by rw [q]; simp)] at e; cases e
    ·subst e'
     rw [hKR] at e; cases e)
  have hBb : Bm mg (hidT s₁.heap H) := by
   obtain ⟨bm, ob, b1, b2, b3, b4, b5, b6⟩ := hBm
   refine ⟨bm, ob, b1, b2, base_of b3 ?_, b4, b5, b6⟩
   cases q : H bm with
   | none => rfl
   | some u =>
    rcases hA bm (by rw [q]; simp) with e' | e'
    ·subst e'
     rw [ha] at b3; cases b3; cases b6
    ·subst e'
     rw [hR] at b3; cases b3; cases b6
  have hM : Mod K mg (hidT s₁.heap H) := ⟨hKb, nsK hns, ⟨mb, nsK hb, hbb⟩, let ⟨mc, h1, h2⟩ := hlim; ⟨mc, nsK h1, h2⟩⟩
  have e0 : Env0 P w K mg (hidT s₁.heap H) callerA [] s₁ H := ⟨rfl, hM, fun b o e => of_hidT e, Nat.le_of_eq (hidT_size _ _), trivial, fun b hb => absurd (show b ∈ ([] : List Addr) from hb) (by simp), hok, .of_eq hg⟩
  refine codeAny_mono ((F _ hKb (nsK hns) hBb).run callerA [] s₁ H ⟨[.ref a], []⟩ [.ref a] [.ref a] _ _ hr e0 (hbind s₁ (.ref a)) (.cons rfl .nil) (hsp H hO hS)) fun r s' h => ?_
  cases r with
  | error e => exact (hCX H e s' h).elim
  | ok fl =>
   cases fl with
   | next => exact False.elim h
   | brk => exact False.elim h
   | cont => exact False.elim h
   | ret u =>
    obtain ⟨v, H', os, bare, un, hok', r', q⟩ := h
    have q' : v = .bl true := q
    subst q'
    obtain rfl : u = Value.bool true := r'
    have keep : ∀ b o, b ≠ R → s₁.heap.get? b = some o → s'.heap.get? b = some o := fun b o hbR e => by
     cases q : H b with
     | none => exact un.keep b o e q (by intro z; exact absurd (show b ∈ ([] : List Addr) from z) (by simp)) (by simp)
     | some u =>
      rcases hO.2 b hbR with z | ⟨ob, xs, z⟩
      ·rw [q] at z; cases z
      ·have z2 := un.frzs b ob _ z
       obtain ⟨e1, _⟩ := hok b _ z
       obtain ⟨e2, _⟩ := hok' b _ z2
       rw [e] at e1; cases e1
       exact e2
    obtain ⟨more, hR'⟩ := un.tbls R _ hO.1
    have hR2 : s'.heap.get? R = some { cls := .none, data := .fields (#[] ++ more) } := hok' R _ hR'
    refine ⟨rfl, ⟨fun b o e => ?_, fun b o e => ?_⟩, os, bare⟩
    ·by_cases hbR : b = R
     ·subst hbR
      rw [hR] at e
      cases e
      exact .inr (.inl ⟨hT.isCodeTable, rfl, #[], more, rfl, hR2⟩)
     ·exact .inl (keep b o hbR e)
    ·by_cases hbR : b = R
     ·rw [hbR]
      exact ⟨_, hR2⟩
     ·exact ⟨o, keep b o hbR e⟩
 cases hk : K.lookup a with
 | some o =>
  have e := KX a o hk
  rw [ha] at e
  cases e
  refine core (fun b => if b = R then some (.tbl #[]) else none) ⟨if_pos rfl, fun b hb => .inl (if_neg hb)⟩ (.inr ⟨_, vs.toArray, _, hk, rfl, rfl, rfl, by rw [List.size_toArray, lenV]; exact hl, by simpa using rv⟩) (fun b u z => ?_) (fun b z => ?_) fun z => absurd (if_neg (Ne.symm hRa)) z
  ·by_cases hb : b = R
   ·have z' := (if_pos hb).symm.trans z
    cases z'
    subst hb
    exact hR
   ·have z' := (if_neg hb).symm.trans z
    cases z'
  ·by_cases hb : b = R
   ·exact .inr hb
   ·exact absurd (if_neg hb) z
 | none =>
  refine core (fun b => if b = R then some (.tbl #[]) else if b = a then some (.frz { cls := .type "list", data := .seq vs.toArray } (.lst (ns.map V.int))) else none) ⟨if_pos rfl, fun b hb => ?_⟩ (.inl (.inr ⟨{ cls := .type "list", data := .seq vs.toArray }, (if_neg (Ne.symm hRa)).trans (if_pos rfl)⟩)) (fun b u z => ?_) (fun b z => ?_) fun _ => hk
  ·by_cases hb2 : b = a
   ·exact .inr ⟨_, _, (if_neg hb).trans (if_pos hb2)⟩
   ·exact .inl ((if_neg hb).trans (if_neg hb2))
  ·by_cases hb : b = R
   ·have z' := (if_pos hb).symm.trans z
    cases z'
    subst hb
    exact hR
   ·have z := (if_neg hb).symm.trans z
    by_cases hb2 : b = a
    ·have z' := (if_pos hb2).symm.trans z
     cases z'
     subst hb2
     exact ⟨ha, by rw [List.length_map]; exact hl, vs, _, rv, ha⟩
    ·have z' := (if_neg hb2).symm.trans z
     cases z'
  ·by_cases hb : b = R
   ·exact .inr hb
   ·by_cases hb2 : b = a
    ·exact .inl hb2
    ·exact absurd ((if_neg hb).trans (if_neg hb2)) z
theorem walk_ofT {l : PySem.W.OpenLaw} {n k : Nat} {q : Program} {loose : List Str} {XP : (Str → Option Value) → Heap → Prop} {YP : World → Heap → Prop} {d d2 : DefRec} {K : Params → PySem.W.Frag} {CX : CXT} {sp : PySem.W.Frag → Sp} {x y : Str} {c R : Addr}
  (hn : l.most = some n) (hn2 : n ≤ sizeLine) (hdf : d.params.defaults = []) (hr : Room k callerA)
  (hY : ∀ (w : World) (h : Heap), YP w h → (K w.params).In h)
  (hrec : (recsOf q).find? (fun e => e.name == y) = some d2) (htab : ∀ w : World, PySem.W.tabIn (K w.params) y = some (c, R)) (hKR : ∀ w : World, (K w.params).lookup R = none)
  (F : ∀ (w : World) (mg : Str → Option Value) (fa : Addr) (h : Heap), (K w.params).In h → h.Ns mainGlobals mg → mg d.name = some (.ref fa) →
   ∃ fd : FuncData, (∀ (s : Shared) (u : Value), BindsTo s fd ⟨[u], []⟩ [(x, u)]) ∧
    ∀ base : Heap, (K w.params).In base → base.Ns mainGlobals mg → Bm mg base → FnOk l.prog w (K w.params) mg base CX k fa fd [x] (sp (K w.params)))
  (hsp : ∀ (K : PySem.W.Frag) (H : Hp) (a : Addr) (ns : List Int), ns.length ≤ n → OnlyT R H → SqL K H a (ns.map V.int) → sp K [.ref a] H (fun v _ => v = .bl true) fun _ _ _ => False)
  (hCX : ∀ (H : Hp) (s : Shared) (e : Value) (s' : Shared), CX [] H s (fun _ _ _ => False) e s' → False) :
  PySem.W.WalkO q loose XP YP l.row.toRowW d [] (fun f vs => PySem.call f vs) := by
 refine Att.attach_call hn hdf fun w s₀ s₁ mg mb fa o pm cd doc a vs ns G Y ho hd hcd hmg hobj hints hlen hg => ?_
 have KX := hY w _ Y
 obtain ⟨fd, hb, hF⟩ := F w mg fa _ KX G.T.g hmg
 obtain ⟨t1, t2⟩ := PySem.W.tab_of G.T KX hrec (htab w)
 obtain ⟨bm, ob, b1, b2, b3, b4, b5, b6⟩ := G.T.bmain
 exact law_callT KX G.T.g G.T.b G.T.builtins G.T.nolimit hg ⟨bm, ob, b1, b2, b3, b4, b5, b6⟩ (t1.tab t2) (hKR w) hobj hints (Nat.le_trans hlen hn2) hr hF hb (fun H hO hS => hsp (K w.params) H a ns hlen hO hS) fun H e s' => hCX H s₁ e s'
def lamB (K : PySem.W.Frag) (f c R : Addr) : Bool := (match K.lookup f with
 | some ⟨_, _, .func fd, _⟩ => (match fd.code with
  | .ref c' => c' == c
  | _ => false)
 | _ => false) && PySem.W.codeHdIn K c R
section
variable {P : Program} {w : World} {K : PySem.W.Frag} {mg : Str → Option Value} {base : Heap}
theorem Fun.okT {x qual : Str} {st : Stmt} {f c R : Addr} {fd : FuncData} {N ps : List Str} {k : Nat} {sp : Sp} (F : Fun K x qual st f fd) (hl : lamB K f c R = true) (S : FnScope N ps (defScope st)) (len : ∀ vs H Q E, sp vs H Q E → vs.length = ps.length)
  (hbody : PySem.W.codeHdIn K c R = true → ∀ (A : Around) (outer : List Env) (s : Shared) (H : Hp) (vs : List V) (Q : VK) (E : XK), Room k (A.deeper (envOfC qual (defScope st) s.heap.objs.size f (.ref c))) → sp vs H Q E →
   ∃ t, PSs (cxOf CX0 P w K mg base N qual (defScope st) f (.ref c) A outer s H E).nox (defBody st) t ∧ t { nx := fun _ H' => Q .non H', rt := Q } (start N vs) H) : FnOk P w K mg base CX0 (k + 1) f fd ps sp := by
 obtain ⟨oc, od, kV, doc, pm, an, cdv, ct, osl, rfl, lk, hcd⟩ := F.ex
 unfold lamB at hl
 rw [lk] at hl
 simp only [Bool.and_eq_true] at hl
 obtain ⟨h1, h2⟩ := hl
 have e : cdv = .ref c := by
  split at h1
  ·rename_i c'
   rw [← beq_iff_eq.mp h1]
  ·cases h1
 subst e
 refine fn_of lk hcd S len fun A outer s H vs Q E hr hsp => ?_
 obtain ⟨t, h, q⟩ := hbody h2 A outer s H vs Q E hr hsp
 exact ⟨t, h.nox, q⟩
end
end L2
set_option Elab.async false
set_option linter.all false
set_option maxRecDepth 100000
set_option maxHeartbeats 4000000
namespace K16
open PySem L2 PySem.Spec PyProof.Rows PySem.NumText
def top (i : Nat) : Stmt := PySem.Challenge.pw_planstore_k16_how_many_dealings.main.body.getD i (.Pass ⟨0, 0, 0, 0⟩)
abbrev s_Over___init__ : Stmt := inClass (top 8) 0
abbrev s_is_whole : Stmt := top 14
abbrev s_has_only : Stmt := top 15
abbrev s_is_name : Stmt := top 16
abbrev s_is_value : Stmt := top 17
abbrev s_Makes___init__ : Stmt := inClass (top 19) 0
abbrev s_Makes_last_make : Stmt := inClass (top 19) 4
abbrev s_AtMake___init__ : Stmt := inClass (top 22) 0
abbrev s_Dealing___init__ : Stmt := inClass (top 26) 0
abbrev s_Dealing_need_not_over : Stmt := inClass (top 26) 1
abbrev s_Dealing_written : Stmt := inClass (top 26) 7
abbrev s_Dealing_fate : Stmt := inClass (top 26) 8
abbrev s_Dealing_end_kept : Stmt := inClass (top 26) 9
abbrev s_Dealing_end_broken : Stmt := inClass (top 26) 10
abbrev s_Dealings___init__ : Stmt := inClass (top 27) 0
abbrev s_Dealings_begin : Stmt := inClass (top 27) 1
abbrev s_Dealings_open_list : Stmt := inClass (top 27) 2
abbrev s_Dealings_may_keep : Stmt := inClass (top 27) 3
abbrev s_Dealings_settled : Stmt := inClass (top 27) 4
abbrev s_Dealings_keep_it : Stmt := inClass (top 27) 5
abbrev s_Dealings_broken : Stmt := inClass (top 27) 6
abbrev s_few_of : Stmt := top 31
abbrev s_pair_of : Stmt := top 32
abbrev s_need_name : Stmt := top 33
abbrev s_need_unlike : Stmt := top 34
abbrev s_column_from : Stmt := top 35
abbrev s_table_from : Stmt := top 36
abbrev s_tables_from : Stmt := top 37
abbrev s_order_from : Stmt := top 38
abbrev s_orders_from : Stmt := top 39
abbrev s_Schema___init__ : Stmt := inClass (top 40) 0
abbrev s_Schema_table_names : Stmt := inClass (top 40) 1
abbrev s__law_at : Stmt := top 42
abbrev s__law_mix : Stmt := top 43
abbrev s__law_over : Stmt := top 44
abbrev s__law_begun : Stmt := top 45
abbrev s_law : Stmt := top 46
set_option genInjectivity false in
set_option genSizeOf false in
structure Txt (K : PySem.W.Frag) (mg : Str → Option Value) where
 D_KINDS : Addr
 c_KINDS : mg "KINDS" = some (.ref D_KINDS)
 t_KINDS : ∃ (o : Obj) (its : Array Value) (n : Nat), K.lookup D_KINDS = some o ∧ o.cls = .type "tuple" ∧ o.data = .seq its n ∧ its.size ≤ sizeLine ∧ Vals [.str "number", .str "word"] its.toList
 C_Makes : Addr
 c_Makes : mg "Makes" = some (.ref C_Makes)
 l_Makes : Cls K C_Makes
 n_Makes_schema : NoAttr K C_Makes "schema"
 n_Makes_last : NoAttr K C_Makes "last"
 n_Makes_still_told : NoAttr K C_Makes "still_told"
 n_Makes_stretches : NoAttr K C_Makes "stretches"
 n_Makes_last_written : NoAttr K C_Makes "last_written"
 C_AtMake : Addr
 c_AtMake : mg "AtMake" = some (.ref C_AtMake)
 l_AtMake : Cls K C_AtMake
 n_AtMake_makes : NoAttr K C_AtMake "makes"
 n_AtMake_make : NoAttr K C_AtMake "make"
 C_Dealing : Addr
 c_Dealing : mg "Dealing" = some (.ref C_Dealing)
 l_Dealing : Cls K C_Dealing
 n_Dealing_number : NoAttr K C_Dealing "number"
 n_Dealing_schema : NoAttr K C_Dealing "schema"
 n_Dealing_begun_at : NoAttr K C_Dealing "begun_at"
 n_Dealing_beneath : NoAttr K C_Dealing "beneath"
 n_Dealing_laid_over : NoAttr K C_Dealing "laid_over"
 n_Dealing_fate_now : NoAttr K C_Dealing "fate_now"
 C_Dealings : Addr
 c_Dealings : mg "Dealings" = some (.ref C_Dealings)
 l_Dealings : Cls K C_Dealings
 n_Dealings_makes : NoAttr K C_Dealings "makes"
 n_Dealings_begun_many : NoAttr K C_Dealings "begun_many"
 n_Dealings_not_over : NoAttr K C_Dealings "not_over"
 n_Dealings_written_by : NoAttr K C_Dealings "written_by"
 C_Schema : Addr
 c_Schema : mg "Schema" = some (.ref C_Schema)
 l_Schema : Cls K C_Schema
 n_Schema_tables : NoAttr K C_Schema "tables"
 n_Schema_orders : NoAttr K C_Schema "orders"
 n_Schema_columns : NoAttr K C_Schema "columns"
 C_StoreError : Addr
 c_StoreError : mg "StoreError" = some (.ref C_StoreError)
 C_Over : Addr
 c_Over : mg "Over" = some (.ref C_Over)
 C_TooMany : Addr
 c_TooMany : mg "TooMany" = some (.ref C_TooMany)
 C_NoRow : Addr
 c_NoRow : mg "NoRow" = some (.ref C_NoRow)
 x_TooMany : PySem.W.excIn K C_TooMany VB "ValueError.__new__" = true
 y_TooMany : XIs K C_TooMany
 e_ov : PySem.W.exmOne K (.ref C_Over) (.ref C_StoreError) = some true
 e_tm : PySem.W.exmOne K (.ref C_TooMany) (.ref C_TooMany) = some true
 k_tm : PySem.W.kitOne K (.ref C_TooMany) (.ref C_StoreError) = some true
 k_oo : PySem.W.kitOne K (.ref C_Over) (.ref C_Over) = some true
 k_on : PySem.W.kitOne K (.ref C_Over) (.ref C_NoRow) = some false
 Over___init__ : Mx K C_Over "__init__" "Over.__init__" s_Over___init__ ["self", "number"]
 is_whole : Fx K mg "is_whole" s_is_whole ["thing"]
 has_only : Fx K mg "has_only" s_has_only ["signs", "text"]
 is_name : Fx K mg "is_name" s_is_name ["thing"]
 is_value : Fx K mg "is_value" s_is_value ["kind", "thing"]
 Makes___init__ : MxD K C_Makes "__init__" "Makes.__init__" s_Makes___init__
 Makes_last_make : Mx K C_Makes "last_make" "Makes.last_make" s_Makes_last_make ["self"]
 AtMake___init__ : Mx K C_AtMake "__init__" "AtMake.__init__" s_AtMake___init__ ["self", "makes", "make"]
 Dealing___init__ : Mx K C_Dealing "__init__" "Dealing.__init__" s_Dealing___init__ ["self", "number", "makes"]
 Dealing_need_not_over : Mx K C_Dealing "need_not_over" "Dealing.need_not_over" s_Dealing_need_not_over ["self"]
 Dealing_written : Mx K C_Dealing "written" "Dealing.written" s_Dealing_written ["self"]
 Dealing_fate : Mx K C_Dealing "fate" "Dealing.fate" s_Dealing_fate ["self"]
 Dealing_end_kept : Mx K C_Dealing "end_kept" "Dealing.end_kept" s_Dealing_end_kept ["self", "make"]
 Dealing_end_broken : Mx K C_Dealing "end_broken" "Dealing.end_broken" s_Dealing_end_broken ["self"]
 Dealings___init__ : Mx K C_Dealings "__init__" "Dealings.__init__" s_Dealings___init__ ["self", "makes"]
 Dealings_begin : Mx K C_Dealings "begin" "Dealings.begin" s_Dealings_begin ["self"]
 Dealings_open_list : Mx K C_Dealings "open_list" "Dealings.open_list" s_Dealings_open_list ["self"]
 Dealings_may_keep : Mx K C_Dealings "may_keep" "Dealings.may_keep" s_Dealings_may_keep ["self", "dealing"]
 Dealings_settled : Mx K C_Dealings "settled" "Dealings.settled" s_Dealings_settled ["self", "dealing"]
 Dealings_keep_it : Mx K C_Dealings "keep_it" "Dealings.keep_it" s_Dealings_keep_it ["self", "dealing"]
 Dealings_broken : Mx K C_Dealings "broken" "Dealings.broken" s_Dealings_broken ["self", "dealing"]
 few_of : Fx K mg "few_of" s_few_of ["thing", "least"]
 pair_of : Fx K mg "pair_of" s_pair_of ["thing"]
 need_name : Fx K mg "need_name" s_need_name ["thing"]
 need_unlike : Fx K mg "need_unlike" s_need_unlike ["things"]
 column_from : Fx K mg "column_from" s_column_from ["thing"]
 table_from : Fx K mg "table_from" s_table_from ["thing"]
 tables_from : Fx K mg "tables_from" s_tables_from ["thing"]
 order_from : Fx K mg "order_from" s_order_from ["tables", "thing"]
 orders_from : Fx K mg "orders_from" s_orders_from ["tables", "thing"]
 Schema___init__ : MxD K C_Schema "__init__" "Schema.__init__" s_Schema___init__
 Schema_table_names : Mx K C_Schema "table_names" "Schema.table_names" s_Schema_table_names ["self"]
 _law_at : Fx K mg "_law_at" s__law_at ["_law_script", "_law_k"]
 _law_mix : Fx K mg "_law_mix" s__law_mix ["_law_cell", "_law_k"]
 _law_over : Fx K mg "_law_over" s__law_over ["_law_dealings", "_law_deal"]
 _law_begun : Fx K mg "_law_begun" s__law_begun ["_law_dealings", "_law_many", "_law_going"]
 law : Fx K mg "law" s_law ["_law_script"]
 c_ov : Addr
 P_ov : Addr
 m_ov : lamB K _law_over.f c_ov P_ov = true
 y_Over : XIs K C_Over
 k_Over : XMk K C_Over Over___init__.f
 g_Over_number : XGet K C_Over "number"
 s_Over_number : XSet K C_Over "number"
 k_Makes : Mk K C_Makes Makes___init__.f
 k_AtMake : Mk K C_AtMake AtMake___init__.f
 k_Dealing : Mk K C_Dealing Dealing___init__.f
 k_Dealings : Mk K C_Dealings Dealings___init__.f
 k_Schema : Mk K C_Schema Schema___init__.f
 b_all : mg "all" = none
 b_bool : mg "bool" = none
 b_dict : mg "dict" = none
 b_int : mg "int" = none
 b_isinstance : mg "isinstance" = none
 b_len : mg "len" = none
 b_list : mg "list" = none
 b_range : mg "range" = none
 b_set : mg "set" = none
 b_sorted : mg "sorted" = none
 b_str : mg "str" = none
 b_tuple : mg "tuple" = none
 u_GREATEST : Value
 c_GREATEST : mg "GREATEST" = some u_GREATEST
 r_GREATEST : RelV (.int 1000000000) u_GREATEST
 u_LETTERS : Value
 c_LETTERS : mg "LETTERS" = some u_LETTERS
 r_LETTERS : RelV (.str "abcdefghijklmnopqrstuvwxyz") u_LETTERS
 u_LONGEST_NAME : Value
 c_LONGEST_NAME : mg "LONGEST_NAME" = some u_LONGEST_NAME
 r_LONGEST_NAME : RelV (.int 8) u_LONGEST_NAME
 u_MOST : Value
 c_MOST : mg "MOST" = some u_MOST
 r_MOST : RelV (.int 4) u_MOST
 u_MOST_AT_ONCE : Value
 c_MOST_AT_ONCE : mg "MOST_AT_ONCE" = some u_MOST_AT_ONCE
 r_MOST_AT_ONCE : RelV (.int 12) u_MOST_AT_ONCE
 u_MOST_IN_ALL : Value
 c_MOST_IN_ALL : mg "MOST_IN_ALL" = some u_MOST_IN_ALL
 r_MOST_IN_ALL : RelV (.int 400) u_MOST_IN_ALL
theorem sc_Over___init__ : FnScope ["self", "number"] ["self", "number"] (defScope s_Over___init__) := ⟨rfl, rfl, rfl, by decide +kernel, rfl, by decide +kernel, by decide +kernel⟩
theorem sc_has_only : FnScope ["signs", "text"] ["signs", "text"] (defScope s_has_only) := ⟨rfl, rfl, rfl, by decide +kernel, rfl, by decide +kernel, by decide +kernel⟩
theorem sc_is_name : FnScope ["thing"] ["thing"] (defScope s_is_name) := ⟨rfl, rfl, rfl, by decide +kernel, rfl, by decide +kernel, by decide +kernel⟩
theorem sc_Makes___init__ : FnScope ["self", "schema", "rows", "table", "first", "row"] ["self", "schema", "rows"] (defScope s_Makes___init__) := ⟨rfl, rfl, rfl, by decide +kernel, rfl, by decide +kernel, by decide +kernel⟩
theorem sc_Makes_last_make : FnScope ["self"] ["self"] (defScope s_Makes_last_make) := ⟨rfl, rfl, rfl, by decide +kernel, rfl, by decide +kernel, by decide +kernel⟩
theorem sc_AtMake___init__ : FnScope ["self", "makes", "make"] ["self", "makes", "make"] (defScope s_AtMake___init__) := ⟨rfl, rfl, rfl, by decide +kernel, rfl, by decide +kernel, by decide +kernel⟩
theorem sc_Dealing___init__ : FnScope ["self", "number", "makes", "table"] ["self", "number", "makes"] (defScope s_Dealing___init__) := ⟨rfl, rfl, rfl, by decide +kernel, rfl, by decide +kernel, by decide +kernel⟩
theorem sc_Dealing_need_not_over : FnScope ["self"] ["self"] (defScope s_Dealing_need_not_over) := ⟨rfl, rfl, rfl, by decide +kernel, rfl, by decide +kernel, by decide +kernel⟩
theorem sc_Dealing_written : FnScope ["self", "writes", "table", "laid"] ["self"] (defScope s_Dealing_written) := ⟨rfl, rfl, rfl, by decide +kernel, rfl, by decide +kernel, by decide +kernel⟩
theorem sc_Dealing_fate : FnScope ["self"] ["self"] (defScope s_Dealing_fate) := ⟨rfl, rfl, rfl, by decide +kernel, rfl, by decide +kernel, by decide +kernel⟩
theorem sc_Dealing_end_kept : FnScope ["self", "make"] ["self", "make"] (defScope s_Dealing_end_kept) := ⟨rfl, rfl, rfl, by decide +kernel, rfl, by decide +kernel, by decide +kernel⟩
theorem sc_Dealing_end_broken : FnScope ["self"] ["self"] (defScope s_Dealing_end_broken) := ⟨rfl, rfl, rfl, by decide +kernel, rfl, by decide +kernel, by decide +kernel⟩
theorem sc_Dealings___init__ : FnScope ["self", "makes"] ["self", "makes"] (defScope s_Dealings___init__) := ⟨rfl, rfl, rfl, by decide +kernel, rfl, by decide +kernel, by decide +kernel⟩
theorem sc_Dealings_begin : FnScope ["self", "dealing"] ["self"] (defScope s_Dealings_begin) := ⟨rfl, rfl, rfl, by decide +kernel, rfl, by decide +kernel, by decide +kernel⟩
theorem sc_Dealings_open_list : FnScope ["self"] ["self"] (defScope s_Dealings_open_list) := ⟨rfl, rfl, rfl, by decide +kernel, rfl, by decide +kernel, by decide +kernel⟩
theorem sc_Dealings_may_keep : FnScope ["self", "dealing", "table", "key", "row", "make"] ["self", "dealing"] (defScope s_Dealings_may_keep) := ⟨rfl, rfl, rfl, by decide +kernel, rfl, by decide +kernel, by decide +kernel⟩
theorem sc_Dealings_settled : FnScope ["self", "dealing", "writes", "make"] ["self", "dealing"] (defScope s_Dealings_settled) := ⟨rfl, rfl, rfl, by decide +kernel, rfl, by decide +kernel, by decide +kernel⟩
theorem sc_Dealings_keep_it : FnScope ["self", "dealing"] ["self", "dealing"] (defScope s_Dealings_keep_it) := ⟨rfl, rfl, rfl, by decide +kernel, rfl, by decide +kernel, by decide +kernel⟩
theorem sc_Dealings_broken : FnScope ["self", "dealing"] ["self", "dealing"] (defScope s_Dealings_broken) := ⟨rfl, rfl, rfl, by decide +kernel, rfl, by decide +kernel, by decide +kernel⟩
theorem sc_few_of : FnScope ["thing", "least"] ["thing", "least"] (defScope s_few_of) := ⟨rfl, rfl, rfl, by decide +kernel, rfl, by decide +kernel, by decide +kernel⟩
theorem sc_pair_of : FnScope ["thing"] ["thing"] (defScope s_pair_of) := ⟨rfl, rfl, rfl, by decide +kernel, rfl, by decide +kernel, by decide +kernel⟩
theorem sc_need_name : FnScope ["thing"] ["thing"] (defScope s_need_name) := ⟨rfl, rfl, rfl, by decide +kernel, rfl, by decide +kernel, by decide +kernel⟩
theorem sc_need_unlike : FnScope ["things"] ["things"] (defScope s_need_unlike) := ⟨rfl, rfl, rfl, by decide +kernel, rfl, by decide +kernel, by decide +kernel⟩
theorem sc_column_from : FnScope ["thing", "pair"] ["thing"] (defScope s_column_from) := ⟨rfl, rfl, rfl, by decide +kernel, rfl, by decide +kernel, by decide +kernel⟩
theorem sc_table_from : FnScope ["thing", "pair", "columns"] ["thing"] (defScope s_table_from) := ⟨rfl, rfl, rfl, by decide +kernel, rfl, by decide +kernel, by decide +kernel⟩
theorem sc_tables_from : FnScope ["thing", "tables"] ["thing"] (defScope s_tables_from) := ⟨rfl, rfl, rfl, by decide +kernel, rfl, by decide +kernel, by decide +kernel⟩
theorem sc_order_from : FnScope ["tables", "thing", "pair", "order", "name", "columns"] ["tables", "thing"] (defScope s_order_from) := ⟨rfl, rfl, rfl, by decide +kernel, rfl, by decide +kernel, by decide +kernel⟩
theorem sc_orders_from : FnScope ["tables", "thing", "orders"] ["tables", "thing"] (defScope s_orders_from) := ⟨rfl, rfl, rfl, by decide +kernel, rfl, by decide +kernel, by decide +kernel⟩
theorem sc_Schema___init__ : FnScope ["self", "tables", "orders"] ["self", "tables", "orders"] (defScope s_Schema___init__) := ⟨rfl, rfl, rfl, by decide +kernel, rfl, by decide +kernel, by decide +kernel⟩
theorem sc_Schema_table_names : FnScope ["self"] ["self"] (defScope s_Schema_table_names) := ⟨rfl, rfl, rfl, by decide +kernel, rfl, by decide +kernel, by decide +kernel⟩
theorem sc__law_at : FnScope ["_law_script", "_law_k"] ["_law_script", "_law_k"] (defScope s__law_at) := ⟨rfl, rfl, rfl, by decide +kernel, rfl, by decide +kernel, by decide +kernel⟩
theorem sc__law_mix : FnScope ["_law_cell", "_law_k", "_law_rest", "_law_j", "_law_number"] ["_law_cell", "_law_k"] (defScope s__law_mix) := ⟨rfl, rfl, rfl, by decide +kernel, rfl, by decide +kernel, by decide +kernel⟩
theorem sc__law_over : FnScope ["_law_dealings", "_law_deal", "_law_asks", "_law_fate", "_law_ask", "_law_told", "e"] ["_law_dealings", "_law_deal"] (defScope s__law_over) := ⟨rfl, rfl, rfl, by decide +kernel, rfl, by decide +kernel, by decide +kernel⟩
theorem sc__law_begun : FnScope ["_law_dealings", "_law_many", "_law_going", "_law_deal", "_law_refused", "e"] ["_law_dealings", "_law_many", "_law_going"] (defScope s__law_begun) := ⟨rfl, rfl, rfl, by decide +kernel, rfl, by decide +kernel, by decide +kernel⟩
theorem sc_law : FnScope ["_law_script", "_law_dealings", "_law_many", "_law_k", "_law_going", "_law_ended", "_law_cell", "_law_way", "_law_right", "_law_deal", "_law_due"] ["_law_script"] (defScope s_law) := ⟨rfl, rfl, rfl, by decide +kernel, rfl, by decide +kernel, by decide +kernel⟩
def isLow (c : Nat) : Bool := decide (97 ≤ c) && decide (c ≤ 122)
def isNm (x : Str) : Bool := decide (1 ≤ x.length) && decide (x.length ≤ 8) && x.cps.toList.all isLow
def isName : V → Bool
 | .str x => isNm x
 | _ => false
def isSt : V → Bool
 | .str _ => true
 | _ => false
def Thing (K : PySem.W.Frag) (H : Hp) (v : V) : Prop :=
 (∃ T, TyOf K H v (.type T) ∧ (T = "NoneType" ∨ T = "bool" ∨ T = "int" ∨ T = "str" ∨ T = "list" ∨ T = "tuple" ∨ T = "dict")) ∧ ∀ x, v = .str x → x.length ≤ 1000
theorem Thing.str {K : PySem.W.Frag} {H : Hp} {x : Str} (h : x.length ≤ 1000) : Thing K H (.str x) := ⟨⟨_, .str x, .inr (.inr (.inr (.inl rfl)))⟩, fun y e => by cases e; exact h⟩
section
variable {K : PySem.W.Frag} {H : Hp} {v : V}
theorem thing_kit (c : String) (f : V → Bool) (h : Thing K H v)
  (k1 : PySem.W.kitOne K (.type "NoneType") (.type c) = some (f .non)) (k2 : ∀ b, PySem.W.kitOne K (.type "bool") (.type c) = some (f (.bl b))) (k3 : ∀ i, PySem.W.kitOne K (.type "int") (.type c) = some (f (.int i)))
  (k4 : ∀ x, PySem.W.kitOne K (.type "str") (.type c) = some (f (.str x))) (k5 : ∀ a, PySem.W.kitOne K (.type "list") (.type c) = some (f (.ref a))) (k6 : ∀ a, PySem.W.kitOne K (.type "tuple") (.type c) = some (f (.ref a)))
  (k7 : ∀ a, PySem.W.kitOne K (.type "dict") (.type c) = some (f (.ref a))) : ∃ t, TyOf K H v t ∧ PySem.W.kitOne K t (.type c) = some (f v) := by
 obtain ⟨⟨T, y, m⟩, _⟩ := h
 cases y with
 | non => exact ⟨_, .non, k1⟩
 | bl b => exact ⟨_, .bl b, k2 b⟩
 | int i => exact ⟨_, .int i, k3 i⟩
 | str x => exact ⟨_, .str x, k4 x⟩
 | flt x => exact absurd m (by decide)
 | lst e => exact ⟨_, .lst e, k5 _⟩
 | frz e => exact ⟨_, .frz e, k5 _⟩
 | tup e => exact ⟨_, .tup e, k6 _⟩
 | dK e => exact ⟨_, .dK e, k7 _⟩
 | dT e => exact ⟨_, .dT e, k7 _⟩
theorem thing_str (h : Thing K H v) : ∃ t, TyOf K H v t ∧ PySem.W.kitOne K t (.type "str") = some (isSt v) :=
 thing_kit "str" isSt h (by rfl) (fun _ => by rfl) (fun _ => by rfl) (fun _ => kit_same) (fun _ => by rfl) (fun _ => by rfl) (fun _ => by rfl)
end
def sp_has_only : Sp := fun vs H Q _ => ∃ a x, vs = [.str a, .str x] ∧ x.length ≤ 1000 ∧ ∀ H', Same H H' → Q (.bl (x.cps.toList.all fun c => decide (c ∈ a.cps.toList))) H'
def sp_is_name (K : PySem.W.Frag) : Sp := fun vs H Q _ => ∃ v, vs = [v] ∧ Thing K H v ∧ ∀ H', Same H H' → Q (.bl (isName v)) H'
theorem q_of {Q : VK} {H : Hp} {b c : Bool} (h : Q (.bl b) H) (e : b = c) : Q (.bl c) H := e ▸ h
theorem letters_mem (c : Nat) : decide (c ∈ ("abcdefghijklmnopqrstuvwxyz" : Str).cps.toList) = isLow c := by
 have e : ("abcdefghijklmnopqrstuvwxyz" : Str).cps.toList = List.range' 97 26 := by decide +kernel
 rw [e, Bool.eq_iff_iff]
 unfold isLow
 simp only [decide_eq_true_eq, Bool.and_eq_true, List.mem_range'_1]
 omega
theorem len_cps (x : Str) : x.cps.toList.length = x.length := Array.length_toList
section
variable {P : Program} {w : World} {K : PySem.W.Frag} {mg : Str → Option Value} {base : Heap}
theorem ok_has_only (T : Txt K mg) : FnOk P w K mg base CX0 1 T.has_only.f T.has_only.fd ["signs", "text"] sp_has_only := by
 refine T.has_only.fn.ok sc_has_only (fun vs H Q E h => ?_) (fun cdv A outer s H vs Q E hr h => ?_)
 ·obtain ⟨a, x, rfl, _⟩ := h
  rfl
 ·obtain ⟨a, x, rfl, hx, k⟩ := h
  refine ⟨_, ((pss_one (ps_ret (pe_callB (call_all rfl) (by rfl) T.b_all bt_all (pa_cons (pe_comp (N := ["sign", "signs"]) (own := 1) (caps := [0]) rfl (by kernel_rfl) (by kernel_rfl) (pi_str (pv 1)) (fun _ _ _ _ _ => pg_name (i := 0) (show List.Nodup (["sign", "signs"] : List Str) by decide +kernel) rfl (Or.inl rfl)) (fun _ _ _ _ _ => pts_nil) (fun _ _ _ _ _ => (pe_cmpR op_in_str (pv 0) (pv 1) (by with_unfolding_all rfl)))) pa_nil))))), ?_⟩
  refine (ea rfl (ea rfl (fun D hD => ?_)))
  refine comp_by (J := Its x) x.cps.size (fun i τ H2 => ∃ v, τ = [v, some (.str a)] ∧ Same H H2 ∧ H2 D = some (.lst ((x.cps.toList.take i).map fun c => V.bl (decide (c ∈ a.cps.toList)))))
   ?_ (fun i τ H2 hi _ => hi) (fun τ H2 _ => Nat.le_refl _) ?_ ?_
  ·exact ⟨none, rfl, Same.new hD, upd_same⟩
  ·rintro i τ H2 y H3 hi ⟨v, rfl, sm, hd⟩ ⟨rfl, c, hc, rfl⟩
   refine (ea rfl (ea rfl ⟨_, ea rfl ⟨rfl, _, hd, ?_, ea rfl ⟨sm.upd hD, ?_⟩⟩⟩))
   ·rw [List.length_map, List.length_take, len_cps]
    exact small_line1 (by omega)
   ·rw [upd_same, StrLaws.found_one]
    have e : x.cps.toList[i]? = some c := by simpa using hc
    rw [List.take_succ, e, List.map_append]
    rfl
  ·rintro τ H2 ⟨v, rfl, sm, hd⟩
   refine ⟨_, x.cps.toList.map fun c => decide (c ∈ a.cps.toList), rfl, ?_, ?_⟩
   ·rw [hd, List.take_of_length_le (by simp), List.map_map]
    rfl
   ·refine q_of (k H2 sm) ?_
    rw [List.all_map]
    rfl
theorem ok_is_name (T : Txt K mg) : FnOk P w K mg base CX0 2 T.is_name.f T.is_name.fd ["thing"] (sp_is_name K) := by
 have G_has_only : FnOk P w K mg base CX0 1 T.has_only.f T.has_only.fd _ _ := ok_has_only T
 refine T.is_name.fn.ok sc_is_name (fun vs H Q E h => ?_) (fun cdv A outer s H vs Q E hr h => ?_)
 ·obtain ⟨v, rfl, _⟩ := h
  rfl
 ·obtain ⟨v, rfl, ht, k⟩ := h
  refine ⟨_, ((pss_cons (ps_if (pt_not (pt_val (pe_callB (call_isiTK (K := K) rfl) (by rfl) T.b_isinstance bt_isinstance (pa_cons (pv 0) (pa_cons (pe_bltn (v := .ty "str") rfl T.b_str bt_str rfl) pa_nil))))) (pss_one (ps_ret pe_bl)) pss_nil)
   (pss_one (ps_ret (pe_and (pe_chain op_le op_le pe_int (pe_callB call_len_str (by rfl) T.b_len bt_len (pa_cons (pv 0) pa_nil)) (pe_glob rfl T.c_LONGEST_NAME (T.r_LONGEST_NAME))) (pe_one (pe_own G_has_only (hr.mono (by decide)) rfl (pa_cons (pe_glob rfl T.c_LETTERS (T.r_LETTERS)) (pa_cons (pv 0) pa_nil))))))))), ?_⟩
  obtain ⟨t1, y1, e1⟩ := thing_str ht
  refine sq1 fun Rz1 qz1 => ?_
  refine (ea rfl ⟨_, _, _, ea rfl ⟨y1, e1, ea rfl ?_⟩⟩)
  cases v with
  | str x =>
   refine iteF ?_
   have hx := ht.2 x rfl
   refine qz1 ?_
   refine (ea rfl (ea rfl ⟨small_line (by omega), _, ea rfl ⟨rfl, ea rfl ?_⟩⟩))
   refine ite2 (fun h1 => ?_) (fun h1 => ?_)
   ·have h1 : (1 : Int) ≤ (x.length : Int) := of_decide_eq_true h1
    refine ⟨_, ea rfl ⟨rfl, ea rfl ?_⟩⟩
    refine ite2 (fun h2 => ?_) (fun h2 => ?_)
    ·have h2 : (x.length : Int) ≤ 8 := of_decide_eq_true h2
     refine (ea rfl ⟨_, ea rfl ⟨hx, fun H' s' => q_of (k H' s') ?_⟩⟩)
     show isNm x = _
     unfold isNm
     rw [decide_eq_true (by omega : 1 ≤ x.length), decide_eq_true (by omega : x.length ≤ 8)]
     exact congrArg (fun f => x.cps.toList.all f) (funext fun c => (letters_mem c).symm)
    ·refine q_of (k H (Same.refl H)) ?_
     show isNm x = _
     have h2 : ¬ (x.length : Int) ≤ 8 := fun z => h2 (decide_eq_true z)
     unfold isNm
     rw [decide_eq_false (by omega : ¬ x.length ≤ 8), Bool.and_false, Bool.false_and]
   ·have h1 : ¬ (1 : Int) ≤ (x.length : Int) := fun z => h1 (decide_eq_true z)
    refine (ea rfl (iteF (q_of (k H (Same.refl H)) ?_)))
    show isNm x = _
    unfold isNm
    rw [decide_eq_false (by omega : ¬ 1 ≤ x.length), Bool.false_and, Bool.false_and]
  | _ => exact iteT (k H (Same.refl H))
end
abbrev Col := Str × Str
def colV (c : Col) : List V := [.str c.1, .str c.2]
def okCol (c : Col) : Prop := isNm c.1 = true ∧ (c.2 = "number" ∨ c.2 = "word")
def ColsAt (H : Hp) (qs : List Addr) (cs : List Col) : Prop := Paired (fun q c => H q = some (.tup (colV c))) qs cs
theorem ColsAt.same {H H' : Hp} {qs : List Addr} {cs : List Col} (h : ColsAt H qs cs) (s : Same H H') : ColsAt H' qs cs := Paired.mapP h fun _ _ e => s _ _ e
def Sq (H : Hp) (a : Addr) (xs : List V) : Prop := H a = some (.lst xs) ∨ H a = some (.tup xs)
theorem Sq.same {H H' : Hp} {a : Addr} {xs : List V} (h : Sq H a xs) (s : Same H H') : Sq H' a xs := h.imp (s _ _) (s _ _)
def okTab (n : Str) (cs : List Col) : Prop := isNm n = true ∧ 1 ≤ cs.length ∧ cs.length ≤ 4 ∧ (∀ c ∈ cs, okCol c) ∧ (cs.map (·.1)).Nodup
def sp_few_of : Sp := fun vs H Q _ => ∃ (a : Addr) (xs : List V) (m : Int), vs = [.ref a, .int m] ∧ Sq H a xs ∧ m ≤ xs.length ∧ xs.length ≤ 4 ∧ ∀ H', Same H H' → Q (.ref a) H'
def sp_pair_of : Sp := fun vs H Q _ => ∃ (a : Addr) (x y : V), vs = [.ref a] ∧ H a = some (.tup [x, y]) ∧ Q (.ref a) H
def sp_need_name : Sp := fun vs H Q _ => ∃ x, vs = [.str x] ∧ isNm x = true ∧ ∀ H', Same H H' → Q (.str x) H'
def sp_need_unlike : Sp := fun vs H Q _ => (∃ (a : Addr) (ys : List Str), vs = [.ref a] ∧ H a = some (.lst (ys.map V.str)) ∧ ys.Nodup ∧ ys.length ≤ 1000 ∧ ∀ H', Same H H' → Q .non H') ∨
 ∃ (a : Addr) (qs : List Addr) (cs : List Col), vs = [.ref a] ∧ H a = some (.tup (qs.map V.ref)) ∧ ColsAt H qs cs ∧ cs.Nodup ∧ qs.length ≤ 4 ∧ ∀ H', Same H H' → Q .non H'
def sp_column_from : Sp := fun vs H Q _ => ∃ (a : Addr) (c : Col), vs = [.ref a] ∧ H a = some (.tup (colV c)) ∧ okCol c ∧ ∀ (r : Addr) (H' : Hp), H r = none → Same H H' → H' r = some (.tup (colV c)) → Q (.ref r) H'
def sp_table_from : Sp := fun vs H Q _ => ∃ (a ca : Addr) (qs : List Addr) (n : Str) (cs : List Col), vs = [.ref a] ∧ H a = some (.tup [.str n, .ref ca]) ∧ Sq H ca (qs.map V.ref) ∧ ColsAt H qs cs ∧ okTab n cs ∧
 ∀ (r ca' : Addr) (qs' : List Addr) (H' : Hp), H r = none → Same H H' → H' r = some (.tup [.str n, .ref ca']) → H' ca' = some (.tup (qs'.map V.ref)) → ColsAt H' qs' cs → Q (.ref r) H'
def colK (c : Col) : List Key := [.inr c.1, .inr c.2]
theorem colK_inj {a b : Col} (h : colK a = colK b) : a = b := by
 injection h with h1 h2
 injection h2 with h2 _
 injection h1 with h1
 injection h2 with h2
 exact Prod.ext h1 h2
theorem nodup_colK : ∀ {cs : List Col}, cs.Nodup → (cs.map colK).Nodup
 | [], _ => List.nodup_nil
 | c :: cs, h => by
  rw [List.nodup_cons] at h
  rw [List.map_cons, List.nodup_cons]
  refine ⟨fun z => ?_, nodup_colK h.2⟩
  obtain ⟨d, hd, e⟩ := List.mem_map.mp z
  exact h.1 (colK_inj e ▸ hd)
theorem colsK : ∀ {H : Hp} {qs : List Addr} {cs : List Col}, ColsAt H qs cs → ∀ {i : Nat} {q : Addr} {k : List Key}, qs[i]? = some q → (cs.map colK)[i]? = some k → H q = some (.tup (k.map kV))
 | _, _, _, .nil, i, _, _, e, _ => by simp at e
 | _, _, _, .cons r _, 0, _, _, e1, e2 => by cases e1; cases e2; exact r
 | _, _, _, .cons _ t, i + 1, _, _, e1, e2 => colsK t (i := i) e1 e2
theorem units4 {k : Nat} {A : Around} (hr : Room k A) : A.units + 4 < cLine := by have := hr.un; omega
theorem nm_len {x : Str} (h : isNm x = true) : x.length ≤ 1000 := by
 unfold isNm at h
 simp only [Bool.and_eq_true, decide_eq_true_eq] at h
 omega
theorem kit_lt {K : PySem.W.Frag} : PySem.W.kitAny K (.type "list") [.type "list", .type "tuple"] = some true := by rfl
theorem kit_tt {K : PySem.W.Frag} : PySem.W.kitAny K (.type "tuple") [.type "list", .type "tuple"] = some true := by rfl
section
variable {P : Program} {w : World} {K : PySem.W.Frag} {mg : Str → Option Value} {base : Heap}
theorem ok_few_of (T : Txt K mg) : FnOk P w K mg base CX0 1 T.few_of.f T.few_of.fd ["thing", "least"] sp_few_of := by
 refine T.few_of.fn.ok sc_few_of (fun vs H Q E h => ?_) (fun cdv A outer s H vs Q E hr h => ?_)
 ·obtain ⟨a, xs, m, rfl, _⟩ := h
  rfl
 ·obtain ⟨a, xs, m, rfl, hq, h0, h1, q⟩ := h
  refine ⟨_, ((pss_cons (ps_if (PW.pt (pw_or (pt_not (pt_val (pe_callB (call_isiTT (K := K) rfl) (by rfl) T.b_isinstance bt_isinstance (pa_cons (pv 0) (pa_cons (pe_tup (pa_cons (pe_bltn (v := .ty "list") rfl T.b_list bt_list rfl) (pa_cons (pe_bltn (v := .ty "tuple") rfl T.b_tuple bt_tuple rfl) pa_nil))) pa_nil))))) (pw_or1 (pt_not (pt_chain op_le op_le (pv 1) (pe_callB (call_len_seqK (K := K) rfl) (by rfl) T.b_len bt_len (pa_cons (pv 0) pa_nil)) (pe_glob rfl T.c_MOST (T.r_MOST))))))) (pss_one ps_never) pss_nil)
   (pss_one (ps_ret (pv 0))))), ?_⟩
  refine (ea rfl ⟨small_line (show 2 ≤ 100000 by decide), fun tp htp => ?_⟩)
  have sm : Same H (upd H tp (.tup [.ty "list", .ty "tuple"])) := Same.new htp
  have l0 : m ≤ ((xs.length : Nat) : Int) := h0
  have l1 : ((xs.length : Nat) : Int) ≤ 4 := by omega
  rcases hq with hq | hq
  ·refine ⟨_, tp, _, _, ["list", "tuple"], rfl, upd_same, .lst (sm _ _ hq), kit_lt, ea rfl (iteF ?_)⟩
   refine (ea rfl (ea rfl ⟨a, ea rfl ⟨.inl (SqL.of (sm _ _ hq)), _, ea rfl ⟨rfl, ea rfl (ite2 (fun z1 => ?_) (fun z1 => absurd (decide_eq_true l0) z1))⟩⟩⟩))
   refine ⟨_, ea rfl ⟨rfl, ea rfl (ite2 (fun z => absurd z ?_) (fun _ => (ea rfl (q _ sm))))⟩⟩
   rw [decide_eq_true l1]
   decide
  ·refine ⟨_, tp, _, _, ["list", "tuple"], rfl, upd_same, .tup (sm _ _ hq), kit_tt, ea rfl (iteF ?_)⟩
   refine (ea rfl (ea rfl ⟨a, ea rfl ⟨.inr (SqT.of (sm _ _ hq)), _, ea rfl ⟨rfl, ea rfl (ite2 (fun z1 => ?_) (fun z1 => absurd (decide_eq_true l0) z1))⟩⟩⟩))
   refine ⟨_, ea rfl ⟨rfl, ea rfl (ite2 (fun z => absurd z ?_) (fun _ => (ea rfl (q _ sm))))⟩⟩
   rw [decide_eq_true l1]
   decide
theorem ok_pair_of (T : Txt K mg) : FnOk P w K mg base CX0 1 T.pair_of.f T.pair_of.fd ["thing"] sp_pair_of := by
 refine T.pair_of.fn.ok sc_pair_of (fun vs H Q E h => ?_) (fun cdv A outer s H vs Q E hr h => ?_)
 ·obtain ⟨a, x, y, rfl, _⟩ := h
  rfl
 ·obtain ⟨a, x, y, rfl, ha, q⟩ := h
  refine ⟨_, ((pss_cons (ps_if (PW.pt (pw_or (pt_not (pt_val (pe_callB (call_isiTK (K := K) rfl) (by rfl) T.b_isinstance bt_isinstance (pa_cons (pv 0) (pa_cons (pe_bltn (v := .ty "tuple") rfl T.b_tuple bt_tuple rfl) pa_nil))))) (pw_or1 (pt_cmpR op_ne (pe_callB (call_len_seqK (K := K) rfl) (by rfl) T.b_len bt_len (pa_cons (pv 0) pa_nil)) pe_int (nomark _))))) (pss_one ps_never) pss_nil)
   (pss_one (ps_ret (pv 0))))), ?_⟩
  refine sq1 fun Rz1 qz1 => ?_
  refine (ea rfl ⟨_, _, _, ea rfl ⟨.tup ha, kit_same, ea rfl (iteF ?_)⟩⟩)
  refine (ea rfl ⟨a, ea rfl ⟨.inr (SqT.of ha), rfl, ea rfl (ite2 (fun z => absurd z (by simp)) (fun _ => ?_))⟩⟩)
  refine qz1 ?_
  exact (ea rfl q)
theorem ok_need_name (T : Txt K mg) : FnOk P w K mg base CX0 3 T.need_name.f T.need_name.fd ["thing"] sp_need_name := by
 have G_is_name : FnOk P w K mg base CX0 2 T.is_name.f T.is_name.fd _ _ := ok_is_name T
 refine T.need_name.fn.ok sc_need_name (fun vs H Q E h => ?_) (fun cdv A outer s H vs Q E hr h => ?_)
 ·obtain ⟨x, rfl, _⟩ := h
  rfl
 ·obtain ⟨x, rfl, hx, q⟩ := h
  refine ⟨_, ((pss_cons (ps_if (pt_not (pt_val (pe_own G_is_name (hr.mono (by decide)) rfl (pa_cons (pv 0) pa_nil)))) (pss_one ps_never) pss_nil)
   (pss_one (ps_ret (pv 0))))), ?_⟩
  refine sq1 fun Rz2 qz2 => ?_
  refine (ea rfl (ea rfl ⟨Thing.str (nm_len hx), fun H1 s1 => (ea rfl (ite2 (fun z => absurd z (by simp [isName, hx])) (fun _ => ?_)))⟩))
  refine qz2 ?_
  exact (ea rfl (q H1 s1))
theorem ok_need_unlike (T : Txt K mg) : FnOk P w K mg base CX0 1 T.need_unlike.f T.need_unlike.fd ["things"] sp_need_unlike := by
 refine T.need_unlike.fn.ok sc_need_unlike (fun vs H Q E h => ?_) (fun cdv A outer s H vs Q E hr h => ?_)
 ·rcases h with ⟨a, ys, rfl, _⟩ | ⟨a, qs, cs, rfl, _⟩ <;> rfl
 ·rcases h with ⟨a, ys, rfl, ha, nd, hl, q⟩ | ⟨a, qs, cs, rfl, ha, hc, nd, hl, q⟩
  ·have hu4 := units4 hr
   refine ⟨_, ((pss_one (ps_if (pt_cmpR op_ne (pe_callB call_len_setO (by rfl) T.b_len bt_len (pa_cons (pe_callTy (CallR.or (call_setSK (K := K) rfl rfl) (call_setTK (K := K) rfl rfl hu4)) (by rfl) T.b_set bt_set (pa_cons (pv 0) pa_nil)) pa_nil)) (pe_callB (call_len_seqK (K := K) rfl) (by rfl) T.b_len bt_len (pa_cons (pv 0) pa_nil)) (nomark _)) (pss_one ps_never) pss_nil))), ?_⟩
   refine (ea rfl (.inl ⟨a, ys, rfl, SqL.of ha, nd, hl, fun l hl1 => ?_⟩))
   have sm : Same H (upd H l (setO l ys.length)) := Same.new hl1
   refine ⟨l, ea rfl ⟨upd_same, hl, ea rfl ⟨a, ea rfl ⟨.inl (SqL.of (sm _ _ ha)), rfl, ea rfl (ite2 (fun z => absurd z (by simp)) (fun _ => q _ sm))⟩⟩⟩⟩
  ·have hu4 := units4 hr
   refine ⟨_, ((pss_one (ps_if (pt_cmpR op_ne (pe_callB call_len_setO (by rfl) T.b_len bt_len (pa_cons (pe_callTy (CallR.or (call_setSK (K := K) rfl rfl) (call_setTK (K := K) rfl rfl hu4)) (by rfl) T.b_set bt_set (pa_cons (pv 0) pa_nil)) pa_nil)) (pe_callB (call_len_seqK (K := K) rfl) (by rfl) T.b_len bt_len (pa_cons (pv 0) pa_nil)) (nomark _)) (pss_one ps_never) pss_nil))), ?_⟩
   refine (ea rfl (.inr ⟨a, qs, cs.map colK, rfl, SqT.of ha, by rw [List.length_map]; exact (Paired.length hc).symm, hl, nodup_colK nd, fun i q k e1 e2 => colsK hc e1 e2, fun l hl1 => ?_⟩))
   have sm : Same H (upd H l (setO l qs.length)) := Same.new hl1
   refine ⟨l, ea rfl ⟨upd_same, by omega, ea rfl ⟨a, ea rfl ⟨.inr (SqT.of (sm _ _ ha)), rfl, ea rfl (ite2 (fun z => absurd z (by simp)) (fun _ => q _ sm))⟩⟩⟩⟩
end
section
variable {P : Program} {w : World} {K : PySem.W.Frag} {mg : Str → Option Value} {base : Heap}
theorem kinds_in (T : Txt K mg) (H : Hp) : SqT K H T.D_KINDS [.str "number", .str "word"] := .inr T.t_KINDS
theorem kind_in {k : Str} (h : k = "number" ∨ k = "word") : inV (.str k) [.str "number", .str "word"] = true := by
 rcases h with rfl | rfl <;> decide +kernel
theorem ok_column_from (T : Txt K mg) : FnOk P w K mg base CX0 4 T.column_from.f T.column_from.fd ["thing"] sp_column_from := by
 have G_pair_of : FnOk P w K mg base CX0 1 T.pair_of.f T.pair_of.fd _ _ := ok_pair_of T
 have G_need_name : FnOk P w K mg base CX0 3 T.need_name.f T.need_name.fd _ _ := ok_need_name T
 refine T.column_from.fn.ok sc_column_from (fun vs H Q E h => ?_) (fun cdv A outer s H vs Q E hr h => ?_)
 ·obtain ⟨a, c, rfl, _⟩ := h
  rfl
 ·obtain ⟨a, c, rfl, ha, ⟨hn, hk⟩, q⟩ := h
  refine ⟨_, ((pss_cons (ps_set (i := 1) sc_column_from.nd rfl (Or.inl rfl) (pe_own G_pair_of (hr.mono (by decide)) rfl (pa_cons (pv 0) pa_nil)))
   (pss_cons (ps_if (PW.pt (pw_or (pt_not (pt_val (pe_callB (call_isiTK (K := K) rfl) (by rfl) T.b_isinstance bt_isinstance (pa_cons (pe_ix (ix_tupK (K := K) rfl) (pv 1) pe_int (fun _ _ => rfl)) (pa_cons (pe_bltn (v := .ty "str") rfl T.b_str bt_str rfl) pa_nil))))) (pw_or1 (pt_cmpR (op_notIn_seqK (K := K) rfl) (pe_ix (ix_tupK (K := K) rfl) (pv 1) pe_int (fun _ _ => rfl)) (pe_glob (v := .ref T.D_KINDS) rfl T.c_KINDS rfl) (by with_unfolding_all rfl))))) (pss_one ps_never) pss_nil)
   (pss_one (ps_ret (pe_tup (pa_cons (pe_own G_need_name (hr.mono (by decide)) rfl (pa_cons (pe_ix (ix_tupK (K := K) rfl) (pv 1) pe_int (fun _ _ => rfl)) pa_nil)) (pa_cons (pe_ix (ix_tupK (K := K) rfl) (pv 1) pe_int (fun _ _ => rfl)) pa_nil)))))))), ?_⟩
  refine sq1 fun Rz1 qz1 => ?_
  refine (ea rfl ⟨a, _, ea rfl ⟨ha, ?_⟩⟩)
  refine qz1 ?_
  refine (ea rfl (ixTc (SqT.of ha) rfl ⟨_, _, _, ea rfl ⟨.str c.2, kit_same, ea rfl (iteF ?_)⟩⟩))
  refine (ea rfl (ixTc (SqT.of ha) rfl ⟨T.D_KINDS, ea rfl ⟨.inr (kinds_in T _), rfl, rfl, ea rfl ?_⟩⟩))
  rw [if_pos rfl, kind_in hk]
  refine iteF (ea rfl (ixTc (SqT.of ha) rfl (ea rfl ⟨hn, fun H1 s1 => ?_⟩)))
  refine (ea rfl (ixTc (SqT.of (s1 _ _ ha)) rfl ⟨small_line (show 2 ≤ 100000 by decide), fun r hr1 => ?_⟩))
  exact q r _ (s1.free hr1) (s1.upd (s1.free hr1)) upd_same
theorem ColsAt.updL {H : Hp} {qs : List Addr} {cs : List Col} {D : Addr} {xs : List V} {o : HO} (h : ColsAt H qs cs) (hd : H D = some (.lst xs)) : ColsAt (upd H D o) qs cs :=
 Paired.mapP h fun q c e => by rw [upd_ne (ne_of e hd (fun z => nomatch z))]; exact e
theorem Paired.snoc {α β : Type} {R : α → β → Prop} {as : List α} {bs : List β} {a : α} {b : β} (h : Paired R as bs) (r : R a b) : Paired R (as ++ [a]) (bs ++ [b]) := by
 induction h with
 | nil => exact .cons r .nil
 | cons q t ih => exact .cons q ih
theorem ok_table_from (T : Txt K mg) : FnOk P w K mg base CX0 5 T.table_from.f T.table_from.fd ["thing"] sp_table_from := by
 have G_pair_of : FnOk P w K mg base CX0 1 T.pair_of.f T.pair_of.fd _ _ := ok_pair_of T
 have G_few_of : FnOk P w K mg base CX0 1 T.few_of.f T.few_of.fd _ _ := ok_few_of T
 have G_need_unlike : FnOk P w K mg base CX0 1 T.need_unlike.f T.need_unlike.fd _ _ := ok_need_unlike T
 have G_need_name : FnOk P w K mg base CX0 3 T.need_name.f T.need_name.fd _ _ := ok_need_name T
 have G_column_from : FnOk P w K mg base CX0 4 T.column_from.f T.column_from.fd _ _ := ok_column_from T
 refine T.table_from.fn.ok sc_table_from (fun vs H Q E h => ?_) (fun cdv A outer s H vs Q E hr h => ?_)
 ·obtain ⟨a, ca, qs, n, cs, rfl, _⟩ := h
  rfl
 ·obtain ⟨a, ca, qs, n, cs, rfl, ha, hq, hc, ⟨hn, l0, l1, hok, nd⟩, q⟩ := h
  have ql : qs.length = cs.length := Paired.length hc
  refine ⟨_, ((pss_cons (ps_set (i := 1) sc_table_from.nd rfl (Or.inl rfl) (pe_own G_pair_of (hr.mono (by decide)) rfl (pa_cons (pv 0) pa_nil)))
   (pss_cons (ps_set (i := 2) sc_table_from.nd rfl (Or.inl rfl) (pe_callTy (call_tuple_ofK (K := K) rfl) (by rfl) T.b_tuple bt_tuple (pa_cons (pe_comp (N := ["part"]) (own := 1) (caps := []) rfl (by kernel_rfl) (by kernel_rfl) (pi_or (pi_listK (K := K) rfl (pe_own G_few_of (hr.mono (by decide)) rfl (pa_cons (pe_ix (ix_tupK (K := K) rfl) (pv 1) pe_int (fun _ _ => rfl)) (pa_cons pe_int pa_nil)))) (pi_tupK (K := K) rfl (pe_own G_few_of (hr.mono (by decide)) rfl (pa_cons (pe_ix (ix_tupK (K := K) rfl) (pv 1) pe_int (fun _ _ => rfl)) (pa_cons pe_int pa_nil))))) (fun _ _ _ _ _ => pg_name (i := 0) (show List.Nodup (["part"] : List Str) by decide +kernel) rfl (Or.inl rfl)) (fun _ _ _ _ _ => pts_nil) (fun _ _ _ _ _ => (pe_own G_column_from (hr.mono (by decide)) rfl (pa_cons (pv 0) pa_nil)))) pa_nil)))
   (pss_cons (ps_expr (pe_own G_need_unlike (hr.mono (by decide)) rfl (pa_cons (pe_comp (N := ["column"]) (own := 1) (caps := []) rfl (by kernel_rfl) (by kernel_rfl) (pi_tupK (K := K) rfl (pv 2)) (fun _ _ _ _ _ => pg_name (i := 0) (show List.Nodup (["column"] : List Str) by decide +kernel) rfl (Or.inl rfl)) (fun _ _ _ _ _ => pts_nil) (fun _ _ _ _ _ => (pe_ix (ix_tupK (K := K) rfl) (pv 0) pe_int (fun _ _ => rfl)))) pa_nil)))
   (pss_one (ps_ret (pe_tup (pa_cons (pe_own G_need_name (hr.mono (by decide)) rfl (pa_cons (pe_ix (ix_tupK (K := K) rfl) (pv 1) pe_int (fun _ _ => rfl)) pa_nil)) (pa_cons (pv 2) pa_nil))))))))), ?_⟩
  refine sq1 fun Rz2 qz2 => ?_
  refine (ea rfl ⟨a, _, ea rfl ⟨ha, ?_⟩⟩)
  rcases hq with hq | hq
  ·refine qz2 (sq1 fun Rz3 qz3 => ?_)
   refine .inl (ea rfl (ixTc (SqT.of ha) rfl ⟨ca, _, 1, rfl, .inl hq, by rw [List.length_map]; omega, by rw [List.length_map]; omega, fun H1 s1 => ⟨ca, rfl, ⟨_, SqL.of (s1 _ _ hq)⟩, fun D hD => ?_⟩⟩))
   refine comp_by (J := Itl K ca) qs.length (fun j τ H2 => ∃ (v : Option V) (rs : List Addr), τ = [v] ∧ Same H1 H2 ∧ H2 D = some (.lst (rs.map V.ref)) ∧ ColsAt H2 rs (cs.take j))
    ⟨none, [], rfl, Same.new hD, upd_same, .nil⟩
    (fun j τ H2 hj ⟨_, _, _, sm, _⟩ => ⟨_, .ref qs[j], SqL.of (sm _ _ (s1 _ _ hq)), by rw [List.getElem?_map, List.getElem?_eq_getElem hj]; rfl⟩)
    (by rintro τ H2 ⟨_, _, _, sm, _⟩; exact ⟨_, SqL.of (sm _ _ (s1 _ _ hq)), by rw [List.length_map]; exact Nat.le_refl _⟩) ?_ ?_
   ·rintro j τ H2 y H3 hj ⟨v, rs, rfl, sm, hd, hcs⟩ ⟨rfl, hy⟩
    have ey := hy _ (SqL.of (sm _ _ (s1 _ _ hq)))
    rw [List.getElem?_map, List.getElem?_eq_getElem hj] at ey
    cases ey
    have hj' : j < cs.length := by omega
    refine (ea rfl ⟨qs[j], cs[j], rfl, sm _ _ (s1 _ _ (Paired.at hc j hj hj')), hok _ (List.getElem_mem hj'), fun r H' hr1 s' hR => ?_⟩)
    have rl : rs.length = j := by rw [Paired.length hcs, List.length_take]; omega
    refine ⟨_, s' _ _ hd, ?_, ⟨_, rs ++ [r], rfl, (sm.trans s').upd hD, by rw [upd_same, List.map_append]; rfl, ?_⟩⟩
    ·rw [List.length_map]; exact small_line1 (by omega)
    ·rw [List.take_succ_eq_append_getElem hj']
     exact Paired.snoc ((hcs.same s').updL (s' _ _ hd)) (by rw [upd_ne (ne_of hR (s' _ _ hd) (fun z => nomatch z))]; exact hR)
   ·rintro τ H2 ⟨v, rs, rfl, sm, hd, hcs⟩
    rw [ql, List.take_length] at hcs
    refine ⟨D, ea rfl (.inl ⟨SqL.of hd, fun t ht => ?_⟩)⟩
    have s3 : Same H2 (upd H2 t (.tup (rs.map V.ref))) := Same.new ht
    have hT : upd H2 t (.tup (rs.map V.ref)) t = some (.tup (rs.map V.ref)) := upd_same
    have rl : rs.length = cs.length := Paired.length hcs
    have hc3 := hcs.same s3
    have S3 : Same H (upd H2 t (.tup (rs.map V.ref))) := (s1.trans sm).trans s3
    generalize upd H2 t (.tup (rs.map V.ref)) = H3 at s3 hT hc3 S3 ⊢
    refine qz3 (sq1 fun Rz4 qz4 => ?_)
    refine (ea rfl ⟨t, rfl, ⟨_, SqT.of hT⟩, fun D2 hD2 => ?_⟩)
    refine comp_by (J := Itt K t) rs.length (fun j τ H4 => ∃ (v : Option V), τ = [v] ∧ Same H3 H4 ∧ H4 D2 = some (.lst ((((cs.take j).map (·.1))).map V.str)))
     ⟨none, rfl, Same.new hD2, upd_same⟩
     (fun j τ H4 hj ⟨_, _, sm, _⟩ => ⟨_, .ref rs[j], SqT.of (sm _ _ hT), by rw [List.getElem?_map, List.getElem?_eq_getElem hj]; rfl⟩)
     (by rintro τ H4 ⟨_, _, sm, _⟩; exact ⟨_, SqT.of (sm _ _ hT), by rw [List.length_map]; exact Nat.le_refl _⟩) ?_ ?_
    ·rintro j τ H4 y H5 hj ⟨v, rfl, sm4, hd4⟩ ⟨rfl, hy⟩
     have ey := hy _ (SqT.of (sm4 _ _ hT))
     rw [List.getElem?_map, List.getElem?_eq_getElem hj] at ey
     cases ey
     have hj' : j < cs.length := by omega
     refine (ea rfl (ixTc (SqT.of (sm4 _ _ (Paired.at hc3 j hj hj'))) rfl ⟨_, hd4, ?_, (ea rfl ⟨sm4.upd hD2, ?_⟩)⟩))
     ·rw [List.length_map, List.length_map, List.length_take]; exact small_line1 (by omega)
     ·rw [upd_same, List.take_succ_eq_append_getElem hj', List.map_append, List.map_append]
      rfl
    ·rintro τ H4 ⟨v, rfl, sm4, hd4⟩
     rw [rl, List.take_length] at hd4
     refine .inl ⟨D2, cs.map (·.1), rfl, hd4, nd, by rw [List.length_map]; omega, fun H5 s5 => ?_⟩
     have S5 : Same H H5 := (S3.trans sm4).trans s5
     refine qz4 ?_
     refine (ea rfl (ixTc (SqT.of (S5 _ _ ha)) rfl ⟨n, rfl, hn, fun H6 s6 => ?_⟩))
     refine (ea rfl ⟨small_line (show 2 ≤ 100000 by decide), fun r hr1 => ?_⟩)
     have S6 : Same H H6 := S5.trans s6
     have T6 : Same H3 H6 := (sm4.trans s5).trans s6
     have U6 : Same H6 (upd H6 r (.tup [.str n, .ref t])) := Same.new hr1
     exact q r t rs _ (S6.free hr1) (S6.trans U6) upd_same (U6 _ _ (T6 _ _ hT)) ((hc3.same T6).same U6)
  ·refine qz2 (sq1 fun Rz5 qz5 => ?_)
   refine .inr (ea rfl (ixTc (SqT.of ha) rfl ⟨ca, _, 1, rfl, .inr hq, by rw [List.length_map]; omega, by rw [List.length_map]; omega, fun H1 s1 => ⟨ca, rfl, ⟨_, SqT.of (s1 _ _ hq)⟩, fun D hD => ?_⟩⟩))
   refine comp_by (J := Itt K ca) qs.length (fun j τ H2 => ∃ (v : Option V) (rs : List Addr), τ = [v] ∧ Same H1 H2 ∧ H2 D = some (.lst (rs.map V.ref)) ∧ ColsAt H2 rs (cs.take j))
    ⟨none, [], rfl, Same.new hD, upd_same, .nil⟩
    (fun j τ H2 hj ⟨_, _, _, sm, _⟩ => ⟨_, .ref qs[j], SqT.of (sm _ _ (s1 _ _ hq)), by rw [List.getElem?_map, List.getElem?_eq_getElem hj]; rfl⟩)
    (by rintro τ H2 ⟨_, _, _, sm, _⟩; exact ⟨_, SqT.of (sm _ _ (s1 _ _ hq)), by rw [List.length_map]; exact Nat.le_refl _⟩) ?_ ?_
   ·rintro j τ H2 y H3 hj ⟨v, rs, rfl, sm, hd, hcs⟩ ⟨rfl, hy⟩
    have ey := hy _ (SqT.of (sm _ _ (s1 _ _ hq)))
    rw [List.getElem?_map, List.getElem?_eq_getElem hj] at ey
    cases ey
    have hj' : j < cs.length := by omega
    refine (ea rfl ⟨qs[j], cs[j], rfl, sm _ _ (s1 _ _ (Paired.at hc j hj hj')), hok _ (List.getElem_mem hj'), fun r H' hr1 s' hR => ?_⟩)
    have rl : rs.length = j := by rw [Paired.length hcs, List.length_take]; omega
    refine ⟨_, s' _ _ hd, ?_, ⟨_, rs ++ [r], rfl, (sm.trans s').upd hD, by rw [upd_same, List.map_append]; rfl, ?_⟩⟩
    ·rw [List.length_map]; exact small_line1 (by omega)
    ·rw [List.take_succ_eq_append_getElem hj']
     exact Paired.snoc ((hcs.same s').updL (s' _ _ hd)) (by rw [upd_ne (ne_of hR (s' _ _ hd) (fun z => nomatch z))]; exact hR)
   ·rintro τ H2 ⟨v, rs, rfl, sm, hd, hcs⟩
    rw [ql, List.take_length] at hcs
    refine ⟨D, ea rfl (.inl ⟨SqL.of hd, fun t ht => ?_⟩)⟩
    have s3 : Same H2 (upd H2 t (.tup (rs.map V.ref))) := Same.new ht
    have hT : upd H2 t (.tup (rs.map V.ref)) t = some (.tup (rs.map V.ref)) := upd_same
    have rl : rs.length = cs.length := Paired.length hcs
    have hc3 := hcs.same s3
    have S3 : Same H (upd H2 t (.tup (rs.map V.ref))) := (s1.trans sm).trans s3
    generalize upd H2 t (.tup (rs.map V.ref)) = H3 at s3 hT hc3 S3 ⊢
    refine qz5 (sq1 fun Rz6 qz6 => ?_)
    refine (ea rfl ⟨t, rfl, ⟨_, SqT.of hT⟩, fun D2 hD2 => ?_⟩)
    refine comp_by (J := Itt K t) rs.length (fun j τ H4 => ∃ (v : Option V), τ = [v] ∧ Same H3 H4 ∧ H4 D2 = some (.lst ((((cs.take j).map (·.1))).map V.str)))
     ⟨none, rfl, Same.new hD2, upd_same⟩
     (fun j τ H4 hj ⟨_, _, sm, _⟩ => ⟨_, .ref rs[j], SqT.of (sm _ _ hT), by rw [List.getElem?_map, List.getElem?_eq_getElem hj]; rfl⟩)
     (by rintro τ H4 ⟨_, _, sm, _⟩; exact ⟨_, SqT.of (sm _ _ hT), by rw [List.length_map]; exact Nat.le_refl _⟩) ?_ ?_
    ·rintro j τ H4 y H5 hj ⟨v, rfl, sm4, hd4⟩ ⟨rfl, hy⟩
     have ey := hy _ (SqT.of (sm4 _ _ hT))
     rw [List.getElem?_map, List.getElem?_eq_getElem hj] at ey
     cases ey
     have hj' : j < cs.length := by omega
     refine (ea rfl (ixTc (SqT.of (sm4 _ _ (Paired.at hc3 j hj hj'))) rfl ⟨_, hd4, ?_, (ea rfl ⟨sm4.upd hD2, ?_⟩)⟩))
     ·rw [List.length_map, List.length_map, List.length_take]; exact small_line1 (by omega)
     ·rw [upd_same, List.take_succ_eq_append_getElem hj', List.map_append, List.map_append]
      rfl
    ·rintro τ H4 ⟨v, rfl, sm4, hd4⟩
     rw [rl, List.take_length] at hd4
     refine .inl ⟨D2, cs.map (·.1), rfl, hd4, nd, by rw [List.length_map]; omega, fun H5 s5 => ?_⟩
     have S5 : Same H H5 := (S3.trans sm4).trans s5
     refine qz6 ?_
     refine (ea rfl (ixTc (SqT.of (S5 _ _ ha)) rfl ⟨n, rfl, hn, fun H6 s6 => ?_⟩))
     refine (ea rfl ⟨small_line (show 2 ≤ 100000 by decide), fun r hr1 => ?_⟩)
     have S6 : Same H H6 := S5.trans s6
     have T6 : Same H3 H6 := (sm4.trans s5).trans s6
     have U6 : Same H6 (upd H6 r (.tup [.str n, .ref t])) := Same.new hr1
     exact q r t rs _ (S6.free hr1) (S6.trans U6) upd_same (U6 _ _ (T6 _ _ hT)) ((hc3.same T6).same U6)
end
abbrev Tab := Str × List Col
def TabI (H : Hp) (t : Addr) (d : Tab) : Prop := ∃ (ca : Addr) (qs : List Addr), H t = some (.tup [.str d.1, .ref ca]) ∧ Sq H ca (qs.map V.ref) ∧ ColsAt H qs d.2
def TabT (H : Hp) (t : Addr) (d : Tab) : Prop := ∃ (ca : Addr) (qs : List Addr), H t = some (.tup [.str d.1, .ref ca]) ∧ H ca = some (.tup (qs.map V.ref)) ∧ ColsAt H qs d.2
theorem TabI.same {H H' : Hp} {t : Addr} {d : Tab} (h : TabI H t d) (s : Same H H') : TabI H' t d := by
 obtain ⟨ca, qs, a, b, c⟩ := h
 exact ⟨ca, qs, s _ _ a, b.same s, c.same s⟩
theorem TabT.same {H H' : Hp} {t : Addr} {d : Tab} (h : TabT H t d) (s : Same H H') : TabT H' t d := by
 obtain ⟨ca, qs, a, b, c⟩ := h
 exact ⟨ca, qs, s _ _ a, s _ _ b, c.same s⟩
def TabsI (H : Hp) (ts : List Addr) (ds : List Tab) : Prop := Paired (TabI H) ts ds
def TabsT (H : Hp) (ts : List Addr) (ds : List Tab) : Prop := Paired (TabT H) ts ds
theorem TabsT.same {H H' : Hp} {ts : List Addr} {ds : List Tab} (h : TabsT H ts ds) (s : Same H H') : TabsT H' ts ds := Paired.mapP h fun _ _ e => e.same s
theorem TabT.updL {H : Hp} {t D : Addr} {d : Tab} {xs : List V} {o : HO} (h : TabT H t d) (hd : H D = some (.lst xs)) : TabT (upd H D o) t d := by
 obtain ⟨ca, qs, a, b, c⟩ := h
 exact ⟨ca, qs, by rw [upd_ne (ne_of a hd (fun z => nomatch z))]; exact a, by rw [upd_ne (ne_of b hd (fun z => nomatch z))]; exact b, c.updL hd⟩
theorem TabsT.updL {H : Hp} {ts : List Addr} {D : Addr} {ds : List Tab} {xs : List V} {o : HO} (h : TabsT H ts ds) (hd : H D = some (.lst xs)) : TabsT (upd H D o) ts ds := Paired.mapP h fun _ _ e => e.updL hd
def okTabs (ds : List Tab) : Prop := 1 ≤ ds.length ∧ ds.length ≤ 4 ∧ (∀ d ∈ ds, okTab d.1 d.2) ∧ (ds.map (·.1)).Nodup
def sp_tables_from : Sp := fun vs H Q _ => ∃ (a : Addr) (ts : List Addr) (tabs : List Tab), vs = [.ref a] ∧ Sq H a (ts.map V.ref) ∧ TabsI H ts tabs ∧ okTabs tabs ∧
 ∀ (r : Addr) (o : Obj) (ts' : List Addr) (H' : Hp), H r = none → Same H H' → H' r = some (.frz o (.tup (ts'.map V.ref))) → o.cls = .type "tuple" → o.dict = none → TabsT H' ts' tabs → Q (.ref r) H'
section
variable {P : Program} {w : World} {K : PySem.W.Frag} {mg : Str → Option Value} {base : Heap}
theorem ok_tables_from (T : Txt K mg) : FnOk P w K mg base CX0 6 T.tables_from.f T.tables_from.fd ["thing"] sp_tables_from := by
 have G_few_of : FnOk P w K mg base CX0 1 T.few_of.f T.few_of.fd _ _ := ok_few_of T
 have G_need_unlike : FnOk P w K mg base CX0 1 T.need_unlike.f T.need_unlike.fd _ _ := ok_need_unlike T
 have G_table_from : FnOk P w K mg base CX0 5 T.table_from.f T.table_from.fd _ _ := ok_table_from T
 refine T.tables_from.fn.ok sc_tables_from (fun vs H Q E h => ?_) (fun cdv A outer s H vs Q E hr h => ?_)
 ·obtain ⟨a, ts, tabs, rfl, _⟩ := h
  rfl
 ·obtain ⟨a, ts, tabs, rfl, hq, hi, ⟨l0, l1, hok, nd⟩, q⟩ := h
  have tl : ts.length = tabs.length := Paired.length hi
  refine ⟨_, ((pss_cons (ps_set (i := 1) sc_tables_from.nd rfl (Or.inl rfl) (pe_callTy (call_tuple_frzK (K := K) rfl) (by rfl) T.b_tuple bt_tuple (pa_cons (pe_comp (N := ["part"]) (own := 1) (caps := []) rfl (by kernel_rfl) (by kernel_rfl) (pi_or (pi_listK (K := K) rfl (pe_own G_few_of (hr.mono (by decide)) rfl (pa_cons (pv 0) (pa_cons pe_int pa_nil)))) (pi_tupK (K := K) rfl (pe_own G_few_of (hr.mono (by decide)) rfl (pa_cons (pv 0) (pa_cons pe_int pa_nil))))) (fun _ _ _ _ _ => pg_name (i := 0) (show List.Nodup (["part"] : List Str) by decide +kernel) rfl (Or.inl rfl)) (fun _ _ _ _ _ => pts_nil) (fun _ _ _ _ _ => (pe_own G_table_from (hr.mono (by decide)) rfl (pa_cons (pv 0) pa_nil)))) pa_nil)))
   (pss_cons (ps_expr (pe_own G_need_unlike (hr.mono (by decide)) rfl (pa_cons (pe_comp (N := ["table"]) (own := 1) (caps := []) rfl (by kernel_rfl) (by kernel_rfl) (pi_tupK (K := K) rfl (pv 1)) (fun _ _ _ _ _ => pg_name (i := 0) (show List.Nodup (["table"] : List Str) by decide +kernel) rfl (Or.inl rfl)) (fun _ _ _ _ _ => pts_nil) (fun _ _ _ _ _ => (pe_ix (ix_tupK (K := K) rfl) (pv 0) pe_int (fun _ _ => rfl)))) pa_nil)))
   (pss_one (ps_ret (pv 1)))))), ?_⟩
  rcases hq with hq | hq
  ·refine sq1 fun Rz1 qz1 => ?_
   refine .inl (ea rfl ⟨a, _, 1, rfl, .inl hq, by rw [List.length_map]; omega, by rw [List.length_map]; omega, fun H1 s1 => ⟨a, rfl, ⟨_, SqL.of (s1 _ _ hq)⟩, fun D hD => ?_⟩⟩)
   refine comp_by (J := Itl K a) ts.length (fun j τ H2 => ∃ (v : Option V) (rs : List Addr), τ = [v] ∧ Same H1 H2 ∧ H2 D = some (.lst (rs.map V.ref)) ∧ TabsT H2 rs (tabs.take j))
    ⟨none, [], rfl, Same.new hD, upd_same, .nil⟩
    (fun j τ H2 hj ⟨_, _, _, sm, _⟩ => ⟨_, .ref ts[j], SqL.of (sm _ _ (s1 _ _ hq)), by rw [List.getElem?_map, List.getElem?_eq_getElem hj]; rfl⟩)
    (by rintro τ H2 ⟨_, _, _, sm, _⟩; exact ⟨_, SqL.of (sm _ _ (s1 _ _ hq)), by rw [List.length_map]; exact Nat.le_refl _⟩) ?_ ?_
   ·rintro j τ H2 y H3 hj ⟨v, rs, rfl, sm, hd, hcs⟩ ⟨rfl, hy⟩
    have ey := hy _ (SqL.of (sm _ _ (s1 _ _ hq)))
    rw [List.getElem?_map, List.getElem?_eq_getElem hj] at ey
    cases ey
    have hj' : j < tabs.length := by omega
    obtain ⟨ca, qs, t1, t2, t3⟩ := (Paired.at hi j hj hj').same (s1.trans sm)
    refine (ea rfl ⟨ts[j], ca, qs, tabs[j].1, tabs[j].2, rfl, t1, t2, t3, hok _ (List.getElem_mem hj'), fun r ca' qs' H' hr1 s' h1 h2 h3 => ?_⟩)
    have rl : rs.length = j := by rw [Paired.length hcs, List.length_take]; omega
    refine ⟨_, s' _ _ hd, ?_, ⟨_, rs ++ [r], rfl, (sm.trans s').upd hD, by rw [upd_same, List.map_append]; rfl, ?_⟩⟩
    ·rw [List.length_map]; exact small_line1 (by omega)
    ·rw [List.take_succ_eq_append_getElem hj']
     exact Paired.snoc ((hcs.same s').updL (s' _ _ hd)) (TabT.updL ⟨ca', qs', h1, h2, h3⟩ (s' _ _ hd))
   ·rintro τ H2 ⟨v, rs, rfl, sm, hd, hcs⟩
    rw [tl, List.take_length] at hcs
    refine ⟨D, ea rfl ⟨SqL.of hd, fun t o ht oc od => ?_⟩⟩
    have s3 : Same H2 (upd H2 t (.frz o (.tup (rs.map V.ref)))) := Same.new ht
    have hT : upd H2 t (.frz o (.tup (rs.map V.ref))) t = some (.frz o (.tup (rs.map V.ref))) := upd_same
    have rl : rs.length = tabs.length := Paired.length hcs
    have hc3 := hcs.same s3
    have S3 : Same H (upd H2 t (.frz o (.tup (rs.map V.ref)))) := (s1.trans sm).trans s3
    have tf : H t = none := (s1.trans sm).free ht
    generalize upd H2 t (.frz o (.tup (rs.map V.ref))) = H3 at s3 hT hc3 S3 ⊢
    have sq : ∀ {H4 : Hp}, Same H3 H4 → SqT K H4 t (rs.map V.ref) := fun s => .inl (.inr ⟨o, s _ _ hT⟩)
    refine qz1 (sq1 fun Rz2 qz2 => ?_)
    refine (ea rfl ⟨t, rfl, ⟨_, sq (Same.refl _)⟩, fun D2 hD2 => ?_⟩)
    refine comp_by (J := Itt K t) rs.length (fun j τ H4 => ∃ (v : Option V), τ = [v] ∧ Same H3 H4 ∧ H4 D2 = some (.lst ((((tabs.take j).map (·.1))).map V.str)))
     ⟨none, rfl, Same.new hD2, upd_same⟩
     (fun j τ H4 hj ⟨_, _, sm, _⟩ => ⟨_, .ref rs[j], sq sm, by rw [List.getElem?_map, List.getElem?_eq_getElem hj]; rfl⟩)
     (by rintro τ H4 ⟨_, _, sm, _⟩; exact ⟨_, sq sm, by rw [List.length_map]; exact Nat.le_refl _⟩) ?_ ?_
    ·rintro j τ H4 y H5 hj ⟨v, rfl, sm4, hd4⟩ ⟨rfl, hy⟩
     have ey := hy _ (sq sm4)
     rw [List.getElem?_map, List.getElem?_eq_getElem hj] at ey
     cases ey
     have hj' : j < tabs.length := by omega
     obtain ⟨ca, qs, t1, _, _⟩ := (Paired.at hc3 j hj hj').same sm4
     refine (ea rfl (ixTc (SqT.of t1) rfl ⟨_, hd4, ?_, (ea rfl ⟨sm4.upd hD2, ?_⟩)⟩))
     ·rw [List.length_map, List.length_map, List.length_take]; exact small_line1 (by omega)
     ·rw [upd_same, List.take_succ_eq_append_getElem hj', List.map_append, List.map_append]
      rfl
    ·rintro τ H4 ⟨v, rfl, sm4, hd4⟩
     rw [rl, List.take_length] at hd4
     refine .inl ⟨D2, tabs.map (·.1), rfl, hd4, nd, by rw [List.length_map]; omega, fun H5 s5 => ?_⟩
     have T5 : Same H3 H5 := sm4.trans s5
     refine qz2 ?_
     exact (ea rfl (q t o rs H5 tf (S3.trans T5) (T5 _ _ hT) oc od (hc3.same T5)))
  ·refine sq1 fun Rz3 qz3 => ?_
   refine .inr (ea rfl ⟨a, _, 1, rfl, .inr hq, by rw [List.length_map]; omega, by rw [List.length_map]; omega, fun H1 s1 => ⟨a, rfl, ⟨_, SqT.of (s1 _ _ hq)⟩, fun D hD => ?_⟩⟩)
   refine comp_by (J := Itt K a) ts.length (fun j τ H2 => ∃ (v : Option V) (rs : List Addr), τ = [v] ∧ Same H1 H2 ∧ H2 D = some (.lst (rs.map V.ref)) ∧ TabsT H2 rs (tabs.take j))
    ⟨none, [], rfl, Same.new hD, upd_same, .nil⟩
    (fun j τ H2 hj ⟨_, _, _, sm, _⟩ => ⟨_, .ref ts[j], SqT.of (sm _ _ (s1 _ _ hq)), by rw [List.getElem?_map, List.getElem?_eq_getElem hj]; rfl⟩)
    (by rintro τ H2 ⟨_, _, _, sm, _⟩; exact ⟨_, SqT.of (sm _ _ (s1 _ _ hq)), by rw [List.length_map]; exact Nat.le_refl _⟩) ?_ ?_
   ·rintro j τ H2 y H3 hj ⟨v, rs, rfl, sm, hd, hcs⟩ ⟨rfl, hy⟩
    have ey := hy _ (SqT.of (sm _ _ (s1 _ _ hq)))
    rw [List.getElem?_map, List.getElem?_eq_getElem hj] at ey
    cases ey
    have hj' : j < tabs.length := by omega
    obtain ⟨ca, qs, t1, t2, t3⟩ := (Paired.at hi j hj hj').same (s1.trans sm)
    refine (ea rfl ⟨ts[j], ca, qs, tabs[j].1, tabs[j].2, rfl, t1, t2, t3, hok _ (List.getElem_mem hj'), fun r ca' qs' H' hr1 s' h1 h2 h3 => ?_⟩)
    have rl : rs.length = j := by rw [Paired.length hcs, List.length_take]; omega
    refine ⟨_, s' _ _ hd, ?_, ⟨_, rs ++ [r], rfl, (sm.trans s').upd hD, by rw [upd_same, List.map_append]; rfl, ?_⟩⟩
    ·rw [List.length_map]; exact small_line1 (by omega)
    ·rw [List.take_succ_eq_append_getElem hj']
     exact Paired.snoc ((hcs.same s').updL (s' _ _ hd)) (TabT.updL ⟨ca', qs', h1, h2, h3⟩ (s' _ _ hd))
   ·rintro τ H2 ⟨v, rs, rfl, sm, hd, hcs⟩
    rw [tl, List.take_length] at hcs
    refine ⟨D, ea rfl ⟨SqL.of hd, fun t o ht oc od => ?_⟩⟩
    have s3 : Same H2 (upd H2 t (.frz o (.tup (rs.map V.ref)))) := Same.new ht
    have hT : upd H2 t (.frz o (.tup (rs.map V.ref))) t = some (.frz o (.tup (rs.map V.ref))) := upd_same
    have rl : rs.length = tabs.length := Paired.length hcs
    have hc3 := hcs.same s3
    have S3 : Same H (upd H2 t (.frz o (.tup (rs.map V.ref)))) := (s1.trans sm).trans s3
    have tf : H t = none := (s1.trans sm).free ht
    generalize upd H2 t (.frz o (.tup (rs.map V.ref))) = H3 at s3 hT hc3 S3 ⊢
    have sq : ∀ {H4 : Hp}, Same H3 H4 → SqT K H4 t (rs.map V.ref) := fun s => .inl (.inr ⟨o, s _ _ hT⟩)
    refine qz3 (sq1 fun Rz4 qz4 => ?_)
    refine (ea rfl ⟨t, rfl, ⟨_, sq (Same.refl _)⟩, fun D2 hD2 => ?_⟩)
    refine comp_by (J := Itt K t) rs.length (fun j τ H4 => ∃ (v : Option V), τ = [v] ∧ Same H3 H4 ∧ H4 D2 = some (.lst ((((tabs.take j).map (·.1))).map V.str)))
     ⟨none, rfl, Same.new hD2, upd_same⟩
     (fun j τ H4 hj ⟨_, _, sm, _⟩ => ⟨_, .ref rs[j], sq sm, by rw [List.getElem?_map, List.getElem?_eq_getElem hj]; rfl⟩)
     (by rintro τ H4 ⟨_, _, sm, _⟩; exact ⟨_, sq sm, by rw [List.length_map]; exact Nat.le_refl _⟩) ?_ ?_
    ·rintro j τ H4 y H5 hj ⟨v, rfl, sm4, hd4⟩ ⟨rfl, hy⟩
     have ey := hy _ (sq sm4)
     rw [List.getElem?_map, List.getElem?_eq_getElem hj] at ey
     cases ey
     have hj' : j < tabs.length := by omega
     obtain ⟨ca, qs, t1, _, _⟩ := (Paired.at hc3 j hj hj').same sm4
     refine (ea rfl (ixTc (SqT.of t1) rfl ⟨_, hd4, ?_, (ea rfl ⟨sm4.upd hD2, ?_⟩)⟩))
     ·rw [List.length_map, List.length_map, List.length_take]; exact small_line1 (by omega)
     ·rw [upd_same, List.take_succ_eq_append_getElem hj', List.map_append, List.map_append]
      rfl
    ·rintro τ H4 ⟨v, rfl, sm4, hd4⟩
     rw [rl, List.take_length] at hd4
     refine .inl ⟨D2, tabs.map (·.1), rfl, hd4, nd, by rw [List.length_map]; omega, fun H5 s5 => ?_⟩
     have T5 : Same H3 H5 := sm4.trans s5
     refine qz4 ?_
     exact (ea rfl (q t o rs H5 tf (S3.trans T5) (T5 _ _ hT) oc od (hc3.same T5)))
end
theorem inV_str {k : Str} : ∀ {L : List Str}, inV (.str k) (L.map V.str) = decide (k ∈ L)
 | [] => rfl
 | y :: L => by
  have ih := inV_str (k := k) (L := L)
  unfold inV at ih ⊢
  rw [List.map_cons, List.any_cons, ih]
  by_cases e : y = k
  ·subst e
   simp [eqV]
  ·have e' : ¬ k = y := fun z => e z.symm
   simp [eqV, e, e']
theorem strs_flat (L : List Str) : (L.map V.str).all flatV = true := by
 rw [List.all_map, List.all_eq_true]
 intro x _
 rfl
theorem cut_one {xs : List V} (h : 1 ≤ xs.length) : cutV xs (some 1) none = xs.drop 1 ∧ ¬ (HT.sIx xs.length 0 (some 1) = 0 ∧ HT.sIx xs.length xs.length none = xs.length) := by
 have e : HT.sIx xs.length 0 (some 1) = 1 := by unfold HT.sIx; simp; omega
 have e2 : HT.sIx xs.length xs.length none = xs.length := rfl
 refine ⟨?_, fun z => by rw [e] at z; exact absurd z.1 (by decide)⟩
 unfold cutV
 rw [e, e2, List.take_of_length_le (by rw [List.length_drop]; exact Nat.le_refl _)]
def okOrd (ds : List Tab) (c : Col) : Prop := isNm c.1 = true ∧ isNm c.2 = true ∧ ∃ (k : Nat) (hk : k < ds.length), ds[k].1 = c.1 ∧ c.2 ∈ (ds[k].2.drop 1).map (·.1)
def sp_order_from : Sp := fun vs H Q _ => ∃ (a b : Addr) (o : Obj) (ts : List Addr) (tabs : List Tab) (c : Col), vs = [.ref a, .ref b] ∧ H a = some (.frz o (.tup (ts.map V.ref))) ∧ TabsT H ts tabs ∧ okTabs tabs ∧ H b = some (.tup (colV c)) ∧ okOrd tabs c ∧
 ∀ (r : Addr) (H' : Hp), H r = none → Same H H' → H' r = some (.tup (colV c)) → Q (.ref r) H'
section
variable {P : Program} {w : World} {K : PySem.W.Frag} {mg : Str → Option Value} {base : Heap}
theorem ok_order_from (T : Txt K mg) : FnOk P w K mg base CX0 4 T.order_from.f T.order_from.fd ["tables", "thing"] sp_order_from := by
 have G_pair_of : FnOk P w K mg base CX0 1 T.pair_of.f T.pair_of.fd _ _ := ok_pair_of T
 have G_need_name : FnOk P w K mg base CX0 3 T.need_name.f T.need_name.fd _ _ := ok_need_name T
 refine T.order_from.fn.ok sc_order_from (fun vs H Q E h => ?_) (fun cdv A outer s H vs Q E hr h => ?_)
 ·obtain ⟨a, b, o, ts, tabs, c, rfl, _⟩ := h
  rfl
 ·obtain ⟨a, b, o, ts, tabs, c, rfl, ha, hT, ⟨l0, l1, hok, nd⟩, hb, ⟨n1, n2, k, hk, k1, k2⟩, q⟩ := h
  have tl : ts.length = tabs.length := Paired.length hT
  refine ⟨_, ((pss_cons (ps_set (i := 2) sc_order_from.nd rfl (Or.inl rfl) (pe_own G_pair_of (hr.mono (by decide)) rfl (pa_cons (pv 1) pa_nil)))
   (pss_cons (ps_set (i := 3) sc_order_from.nd rfl (Or.inl rfl) (pe_tup (pa_cons (pe_own G_need_name (hr.mono (by decide)) rfl (pa_cons (pe_ix (ix_tupK (K := K) rfl) (pv 2) pe_int (fun _ _ => rfl)) pa_nil)) (pa_cons (pe_own G_need_name (hr.mono (by decide)) rfl (pa_cons (pe_ix (ix_tupK (K := K) rfl) (pv 2) pe_int (fun _ _ => rfl)) pa_nil)) pa_nil))))
   (pss_cons (ps_for PassesOwn.never rfl (pi_tupK (K := K) rfl (pv 0)) (pg_tupK (K := K) (n := 2) rfl rfl (pgs_cons ((pg_name (i := 4) sc_order_from.nd rfl (Or.inl rfl))) (pgs_cons ((pg_name (i := 5) sc_order_from.nd rfl (Or.inl rfl))) pgs_nil))) (pss_one (ps_if (PW.pt (pw_and (pt_cmpR op_eq (pv 4) (pe_ix (ix_tupK (K := K) rfl) (pv 3) pe_int (fun _ _ => rfl)) (nomark _)) (pw_and1 (pt_cmpR (op_in_seqK (K := K) rfl) (pe_ix (ix_tupK (K := K) rfl) (pv 3) pe_int (fun _ _ => rfl)) (pe_comp (N := ["column"]) (own := 1) (caps := []) rfl (by kernel_rfl) (by kernel_rfl) (pi_tupK (K := K) rfl (pe_slice (sl_tupK (K := K) rfl) (pv 5) (po_some pe_int) po_none)) (fun _ _ _ _ _ => pg_name (i := 0) (show List.Nodup (["column"] : List Str) by decide +kernel) rfl (Or.inl rfl)) (fun _ _ _ _ _ => pts_nil) (fun _ _ _ _ _ => (pe_ix (ix_tupK (K := K) rfl) (pv 0) pe_int (fun _ _ => rfl)))) (by with_unfolding_all rfl))))) (pss_one (ps_ret (pv 3))) pss_nil)))
   (pss_one ps_never))))), ?_⟩
  refine sq1 fun Rz1 qz1 => ?_
  refine (ea rfl ⟨b, _, ea rfl ⟨hb, ?_⟩⟩)
  refine qz1 (sq1 fun Rz2 qz2 => ?_)
  refine (ea rfl (ixTc (SqT.of hb) rfl (ea rfl ⟨n1, fun H1 s1 => ?_⟩)))
  refine (ea rfl (ixTc (SqT.of (s1 _ _ hb)) rfl (ea rfl ⟨n2, fun H2 s2 => ⟨small_line (show 2 ≤ 100000 by decide), fun r hr1 => ?_⟩⟩)))
  have S2 : Same H H2 := s1.trans s2
  have rf : H r = none := S2.free hr1
  have S3 : Same H (upd H2 r (.tup [.str c.1, .str c.2])) := S2.upd rf
  have hR : upd H2 r (.tup [.str c.1, .str c.2]) r = some (.tup [.str c.1, .str c.2]) := upd_same
  generalize upd H2 r (.tup [.str c.1, .str c.2]) = H3 at S3 hR ⊢
  have sq : ∀ {H4 : Hp}, Same H3 H4 → SqT K H4 a (ts.map V.ref) := fun s => .inl (.inr ⟨o, s _ _ (S3 _ _ ha)⟩)
  refine qz2 (sq1 fun Rz3 qz3 => ?_)
  refine ⟨_, rfl, a, rfl, ⟨_, sq (Same.refl _)⟩, for_tup (K := K) (a := a) (xs := ts.map V.ref) (fun i σ H4 => i ≤ k ∧ ∃ v4 v5, σ = [some (.ref a), some (.ref b), some (.ref b), some (.ref r), v4, v5] ∧ Same H3 H4)
   ⟨Nat.zero_le _, none, none, rfl, Same.refl _⟩ (by rintro i σ H4 _ ⟨_, _, _, _, sm⟩; exact sq sm) ?_ ?_⟩
  ·rintro i x σ H4 hx ⟨hik, v4, v5, rfl, sm⟩
   have hi : i < ts.length := by omega
   have hi' : i < tabs.length := by omega
   rw [List.getElem?_map, List.getElem?_eq_getElem hi] at hx
   cases hx
   obtain ⟨ca, qs, t1, t2, t3⟩ := ((Paired.at hT i hi hi').same S3).same sm
   refine ⟨ts[i], ea rfl ⟨SqT.of t1, rfl, _, ea rfl ⟨_, ea rfl ⟨rfl, ?_⟩⟩⟩⟩
   refine (ea rfl (ea rfl (ixTc (SqT.of (sm _ _ hR)) rfl ⟨rfl, ea rfl ?_⟩)))
   by_cases e : i = k
   ·subst e
    refine ite2 (fun _ => ?_) (fun z => absurd (decide_eq_true (by rw [k1])) z)
    have okt := hok _ (List.getElem_mem hi')
    have qn : qs.length = tabs[i].2.length := Paired.length t3
    obtain ⟨cut, nw⟩ := cut_one (xs := qs.map V.ref) (by rw [List.length_map, qn]; exact okt.2.1)
    refine (ea rfl (ixTc (SqT.of (sm _ _ hR)) rfl (ea rfl (ea rfl ⟨ca, ea rfl ⟨SqT.of t2, nw, fun p hp => ⟨p, rfl, ⟨_, SqT.of upd_same⟩, fun D hD => ?_⟩⟩⟩))))
    rw [cut] at hD ⊢
    have s5 : Same H4 (upd H4 p (.tup ((qs.map V.ref).drop 1))) := Same.new hp
    have hP : upd H4 p (.tup ((qs.map V.ref).drop 1)) p = some (.tup ((qs.map V.ref).drop 1)) := upd_same
    have t4 := t3.same s5
    have R5 := s5 _ _ (sm _ _ hR)
    have S5 : Same H (upd H4 p (.tup ((qs.map V.ref).drop 1))) := (S3.trans sm).trans s5
    generalize upd H4 p (.tup ((qs.map V.ref).drop 1)) = H5 at hD hP t4 R5 S5 ⊢
    refine comp_by (J := Itt K p) (qs.length - 1) (fun j τ H6 => ∃ (v : Option V), τ = [v] ∧ Same H5 H6 ∧ H6 D = some (.lst (((((tabs[i].2.drop 1).take j)).map (·.1)).map V.str)))
     ⟨none, rfl, Same.new hD, upd_same⟩
     (fun j τ H6 hj ⟨_, _, sm, _⟩ => ⟨_, .ref (qs[j + 1]'(by omega)), SqT.of (sm _ _ hP), by rw [List.getElem?_drop, List.getElem?_map, Nat.add_comm, List.getElem?_eq_getElem (show j + 1 < qs.length by omega)]; rfl⟩)
     (by rintro τ H6 ⟨_, _, sm, _⟩; exact ⟨_, SqT.of (sm _ _ hP), by rw [List.length_drop, List.length_map]; exact Nat.le_refl _⟩) ?_ ?_
    ·rintro j τ H6 y H7 hj ⟨v, rfl, sm6, hd6⟩ ⟨rfl, hy⟩
     have ey := hy _ (SqT.of (sm6 _ _ hP))
     rw [List.getElem?_drop, List.getElem?_map, Nat.add_comm, List.getElem?_eq_getElem (show j + 1 < qs.length by omega)] at ey
     cases ey
     have hj1 : j + 1 < tabs[i].2.length := by omega
     have hj2 : j < (tabs[i].2.drop 1).length := by rw [List.length_drop]; omega
     refine (ea rfl (ixTc (SqT.of (sm6 _ _ (Paired.at t4 (j + 1) (by omega) hj1))) rfl ⟨_, hd6, ?_, (ea rfl ⟨sm6.upd hD, ?_⟩)⟩))
     ·rw [List.length_map, List.length_map, List.length_take]
      have := okt.2.2.1
      exact small_line1 (by omega)
     ·rw [upd_same, List.take_succ_eq_append_getElem hj2, List.map_append, List.map_append, List.getElem_drop]
      simp only [Nat.add_comm 1 j]
      rfl
    ·rintro τ H6 ⟨v, rfl, sm6, hd6⟩
     rw [qn, ← List.length_drop, List.take_length] at hd6
     refine ⟨D, ea rfl ⟨.inl (SqL.of hd6), rfl, strs_flat _, ea rfl ?_⟩⟩
     rw [if_neg (by decide), inV_str, decide_eq_true k2]
     exact iteT (ea rfl (q r H6 rf (S5.trans sm6) (sm6 _ _ R5)))
   ·refine ite2 (fun z => absurd (of_decide_eq_true z) fun y => ?_) (fun _ => iteF ⟨by omega, _, ea rfl sm⟩)
    injection y with y
    have e1 : (tabs.map (·.1))[i]'(by simp; omega) = (tabs.map (·.1))[k]'(by simp; omega) := by
     rw [List.getElem_map, List.getElem_map, k1]
     exact y
    exact e ((List.getElem_inj (h₀ := by simp; omega) (h₁ := by simp; omega) nd).mp e1)
  ·rintro σ H4 ⟨hik, v4, v5, rfl, sm⟩
   rw [List.length_map] at hik
   refine qz3 ?_
   exact absurd hik (by omega)
end
def OrdsI (H : Hp) (x : V) (ords : List Col) : Prop := (x = .non ∧ ords = []) ∨ ∃ (b : Addr) (qs : List Addr), x = .ref b ∧ Sq H b (qs.map V.ref) ∧ ColsAt H qs ords
theorem OrdsI.same {H H' : Hp} {x : V} {ords : List Col} (h : OrdsI H x ords) (s : Same H H') : OrdsI H' x ords := h.imp id (by rintro ⟨b, qs, e, q, c⟩; exact ⟨b, qs, e, q.same s, c.same s⟩)
def okOrds (ds : List Tab) (ords : List Col) : Prop := ords.length ≤ 4 ∧ ords.Nodup ∧ ∀ c ∈ ords, okOrd ds c
def sp_orders_from : Sp := fun vs H Q _ => ∃ (a : Addr) (x : V) (o : Obj) (ts : List Addr) (tabs : List Tab) (ords : List Col), vs = [.ref a, x] ∧ H a = some (.frz o (.tup (ts.map V.ref))) ∧ TabsT H ts tabs ∧ okTabs tabs ∧ OrdsI H x ords ∧ okOrds tabs ords ∧
 ∀ (r : Addr) (rs : List Addr) (H' : Hp), H r = none → Same H H' → H' r = some (.tup (rs.map V.ref)) → ColsAt H' rs ords → Q (.ref r) H'
section
variable {P : Program} {w : World} {K : PySem.W.Frag} {mg : Str → Option Value} {base : Heap}
theorem ok_orders_from (T : Txt K mg) : FnOk P w K mg base CX0 5 T.orders_from.f T.orders_from.fd ["tables", "thing"] sp_orders_from := by
 have G_few_of : FnOk P w K mg base CX0 1 T.few_of.f T.few_of.fd _ _ := ok_few_of T
 have G_need_unlike : FnOk P w K mg base CX0 1 T.need_unlike.f T.need_unlike.fd _ _ := ok_need_unlike T
 have G_order_from : FnOk P w K mg base CX0 4 T.order_from.f T.order_from.fd _ _ := ok_order_from T
 refine T.orders_from.fn.ok sc_orders_from (fun vs H Q E h => ?_) (fun cdv A outer s H vs Q E hr h => ?_)
 ·obtain ⟨a, x, o, ts, tabs, ords, rfl, _⟩ := h
  rfl
 ·obtain ⟨a, x, o, ts, tabs, ords, rfl, ha, hT, hok, hx, ⟨l1, nd, ho⟩, q⟩ := h
  refine ⟨_, ((pss_cons (ps_if (pt_cmp (pc_isN (pv 1))) (pss_one (ps_ret (pe_tup pa_nil))) pss_nil)
   (pss_cons (ps_set (i := 2) sc_orders_from.nd rfl (Or.inl rfl) (pe_callTy (call_tuple_ofK (K := K) rfl) (by rfl) T.b_tuple bt_tuple (pa_cons (pe_comp (N := ["part", "tables"]) (own := 1) (caps := [0]) rfl (by kernel_rfl) (by kernel_rfl) (pi_or (pi_listK (K := K) rfl (pe_own G_few_of (hr.mono (by decide)) rfl (pa_cons (pv 1) (pa_cons pe_int pa_nil)))) (pi_tupK (K := K) rfl (pe_own G_few_of (hr.mono (by decide)) rfl (pa_cons (pv 1) (pa_cons pe_int pa_nil))))) (fun _ _ _ _ _ => pg_name (i := 0) (show List.Nodup (["part", "tables"] : List Str) by decide +kernel) rfl (Or.inl rfl)) (fun _ _ _ _ _ => pts_nil) (fun _ _ _ _ _ => (pe_own G_order_from (hr.mono (by decide)) rfl (pa_cons (pv 1) (pa_cons (pv 0) pa_nil))))) pa_nil)))
   (pss_cons (ps_expr (pe_own G_need_unlike (hr.mono (by decide)) rfl (pa_cons (pv 2) pa_nil)))
   (pss_one (ps_ret (pv 2))))))), ?_⟩
  rcases hx with ⟨rfl, rfl⟩ | ⟨b, qs, rfl, hq, hc⟩
  ·refine sq1 fun Rz1 qz1 => ?_
   refine (ea rfl (ea rfl (iteT ⟨Nat.zero_le _, fun r hr1 => ?_⟩)))
   exact q r [] _ hr1 (Same.new hr1) upd_same .nil
  ·have ql : qs.length = ords.length := Paired.length hc
   refine sq1 fun Rz2 qz2 => ?_
   refine (ea rfl (ea rfl (ite2 (fun z => absurd z (by simp)) (fun _ => ?_))))
   rcases hq with hq | hq
   ·refine qz2 (sq1 fun Rz3 qz3 => ?_)
    refine .inl (ea rfl ⟨b, _, 0, rfl, .inl hq, by omega, by rw [List.length_map]; omega, fun H1 s1 => ⟨b, rfl, ⟨_, SqL.of (s1 _ _ hq)⟩, fun D hD => ?_⟩⟩)
    refine comp_by (J := Itl K b) qs.length (fun j τ H2 => ∃ (v : Option V) (rs : List Addr), τ = [v, some (.ref a)] ∧ Same H1 H2 ∧ H2 D = some (.lst (rs.map V.ref)) ∧ ColsAt H2 rs (ords.take j))
     ⟨none, [], rfl, Same.new hD, upd_same, .nil⟩
     (fun j τ H2 hj ⟨_, _, _, sm, _⟩ => ⟨_, .ref qs[j], SqL.of (sm _ _ (s1 _ _ hq)), by rw [List.getElem?_map, List.getElem?_eq_getElem hj]; rfl⟩)
     (by rintro τ H2 ⟨_, _, _, sm, _⟩; exact ⟨_, SqL.of (sm _ _ (s1 _ _ hq)), by rw [List.length_map]; exact Nat.le_refl _⟩) ?_ ?_
    ·rintro j τ H2 y H3 hj ⟨v, rs, rfl, sm, hd, hcs⟩ ⟨rfl, hy⟩
     have ey := hy _ (SqL.of (sm _ _ (s1 _ _ hq)))
     rw [List.getElem?_map, List.getElem?_eq_getElem hj] at ey
     cases ey
     have hj' : j < ords.length := by omega
     have S2 := s1.trans sm
     refine (ea rfl (ea rfl ⟨a, qs[j], o, ts, tabs, ords[j], rfl, S2 _ _ ha, hT.same S2, hok, S2 _ _ (Paired.at hc j hj hj'), ho _ (List.getElem_mem hj'), fun r H' hr1 s' hR => ?_⟩))
     have rl : rs.length = j := by rw [Paired.length hcs, List.length_take]; omega
     refine ⟨_, s' _ _ hd, ?_, ⟨_, rs ++ [r], rfl, (sm.trans s').upd hD, by rw [upd_same, List.map_append]; rfl, ?_⟩⟩
     ·rw [List.length_map]; exact small_line1 (by omega)
     ·rw [List.take_succ_eq_append_getElem hj']
      exact Paired.snoc ((hcs.same s').updL (s' _ _ hd)) (by rw [upd_ne (ne_of hR (s' _ _ hd) (fun z => nomatch z))]; exact hR)
    ·rintro τ H2 ⟨v, rs, rfl, sm, hd, hcs⟩
     rw [ql, List.take_length] at hcs
     refine ⟨D, ea rfl (.inl ⟨SqL.of hd, fun t ht => ?_⟩)⟩
     have s3 : Same H2 (upd H2 t (.tup (rs.map V.ref))) := Same.new ht
     have hT3 : upd H2 t (.tup (rs.map V.ref)) t = some (.tup (rs.map V.ref)) := upd_same
     have rl : rs.length = ords.length := Paired.length hcs
     have hc3 := hcs.same s3
     have tf : H t = none := (s1.trans sm).free ht
     have S3 : Same H (upd H2 t (.tup (rs.map V.ref))) := (s1.trans sm).trans s3
     generalize upd H2 t (.tup (rs.map V.ref)) = H3 at s3 hT3 hc3 S3 ⊢
     refine qz3 (sq1 fun Rz4 qz4 => ?_)
     refine (ea rfl (.inr ⟨t, rs, ords, rfl, hT3, hc3, nd, by omega, fun H4 s4 => ?_⟩))
     refine qz4 ?_
     exact (ea rfl (q t rs H4 tf (S3.trans s4) (s4 _ _ hT3) (hc3.same s4)))
   ·refine qz2 (sq1 fun Rz5 qz5 => ?_)
    refine .inr (ea rfl ⟨b, _, 0, rfl, .inr hq, by omega, by rw [List.length_map]; omega, fun H1 s1 => ⟨b, rfl, ⟨_, SqT.of (s1 _ _ hq)⟩, fun D hD => ?_⟩⟩)
    refine comp_by (J := Itt K b) qs.length (fun j τ H2 => ∃ (v : Option V) (rs : List Addr), τ = [v, some (.ref a)] ∧ Same H1 H2 ∧ H2 D = some (.lst (rs.map V.ref)) ∧ ColsAt H2 rs (ords.take j))
     ⟨none, [], rfl, Same.new hD, upd_same, .nil⟩
     (fun j τ H2 hj ⟨_, _, _, sm, _⟩ => ⟨_, .ref qs[j], SqT.of (sm _ _ (s1 _ _ hq)), by rw [List.getElem?_map, List.getElem?_eq_getElem hj]; rfl⟩)
     (by rintro τ H2 ⟨_, _, _, sm, _⟩; exact ⟨_, SqT.of (sm _ _ (s1 _ _ hq)), by rw [List.length_map]; exact Nat.le_refl _⟩) ?_ ?_
    ·rintro j τ H2 y H3 hj ⟨v, rs, rfl, sm, hd, hcs⟩ ⟨rfl, hy⟩
     have ey := hy _ (SqT.of (sm _ _ (s1 _ _ hq)))
     rw [List.getElem?_map, List.getElem?_eq_getElem hj] at ey
     cases ey
     have hj' : j < ords.length := by omega
     have S2 := s1.trans sm
     refine (ea rfl (ea rfl ⟨a, qs[j], o, ts, tabs, ords[j], rfl, S2 _ _ ha, hT.same S2, hok, S2 _ _ (Paired.at hc j hj hj'), ho _ (List.getElem_mem hj'), fun r H' hr1 s' hR => ?_⟩))
     have rl : rs.length = j := by rw [Paired.length hcs, List.length_take]; omega
     refine ⟨_, s' _ _ hd, ?_, ⟨_, rs ++ [r], rfl, (sm.trans s').upd hD, by rw [upd_same, List.map_append]; rfl, ?_⟩⟩
     ·rw [List.length_map]; exact small_line1 (by omega)
     ·rw [List.take_succ_eq_append_getElem hj']
      exact Paired.snoc ((hcs.same s').updL (s' _ _ hd)) (by rw [upd_ne (ne_of hR (s' _ _ hd) (fun z => nomatch z))]; exact hR)
    ·rintro τ H2 ⟨v, rs, rfl, sm, hd, hcs⟩
     rw [ql, List.take_length] at hcs
     refine ⟨D, ea rfl (.inl ⟨SqL.of hd, fun t ht => ?_⟩)⟩
     have s3 : Same H2 (upd H2 t (.tup (rs.map V.ref))) := Same.new ht
     have hT3 : upd H2 t (.tup (rs.map V.ref)) t = some (.tup (rs.map V.ref)) := upd_same
     have rl : rs.length = ords.length := Paired.length hcs
     have hc3 := hcs.same s3
     have tf : H t = none := (s1.trans sm).free ht
     have S3 : Same H (upd H2 t (.tup (rs.map V.ref))) := (s1.trans sm).trans s3
     generalize upd H2 t (.tup (rs.map V.ref)) = H3 at s3 hT3 hc3 S3 ⊢
     refine qz5 (sq1 fun Rz6 qz6 => ?_)
     refine (ea rfl (.inr ⟨t, rs, ords, rfl, hT3, hc3, nd, by omega, fun H4 s4 => ?_⟩))
     refine qz6 ?_
     exact (ea rfl (q t rs H4 tf (S3.trans s4) (s4 _ _ hT3) (hc3.same s4)))
end
def scF (tt oo dd : Addr) : List (Str × V) := [("tables", .ref tt), ("orders", .ref oo), ("columns", .ref dd)]
def kvsOf (ds : List Tab) (cas : List Addr) : List (Key × V) := (ds.zip cas).map fun p => (.inr p.1.1, .ref p.2)
def TabsC (H : Hp) (ts cas : List Addr) (ds : List Tab) : Prop := Paired (fun (p : Addr × Addr) (d : Tab) => ∃ qs : List Addr, H p.1 = some (.tup [.str d.1, .ref p.2]) ∧ H p.2 = some (.tup (qs.map V.ref)) ∧ ColsAt H qs d.2) (ts.zip cas) ds ∧ ts.length = ds.length ∧ cas.length = ds.length
structure SchemaAt (C : Addr) (H : Hp) (p : Addr) (tabs : List Tab) (ords : List Col) : Prop where
 ex : ∃ (dx tt oo dd : Addr) (o : Obj) (ts cas rs : List Addr), H p = some (.ins C dx (scF tt oo dd)) ∧ H tt = some (.frz o (.tup (ts.map V.ref))) ∧ TabsC H ts cas tabs ∧ H oo = some (.tup (rs.map V.ref)) ∧ ColsAt H rs ords ∧ H dd = some (.dK (kvsOf tabs cas))
section
variable {P : Program} {w : World} {K : PySem.W.Frag} {mg : Str → Option Value} {base : Heap}
theorem bi1_Schema (T : Txt K mg) : Binds K T.Schema___init__.fd ["self", "tables", "orders"] [.none] := by
 obtain ⟨oc, od, kV, doc, pm, an, cdv, ct, osl, efd, lk, hcd⟩ := T.Schema___init__.fn.ex
 rw [efd]
 intro s us hK hl
 have hl2 : us.length = 2 := by simpa using hl
 match us, hl2 with
 | [x, y], _ =>
  refine BindsTo.of_defaults (T := T.Schema___init__.t) (o := T.Schema___init__.o) (items := #[.none]) (n := T.Schema___init__.n) (k := ?k) rfl (hK _ _ T.Schema___init__.lo) T.Schema___init__.da ?h1 ?h2
  case h1 => rfl
  case h2 => rfl
end
structure Kept (H H' : Hp) : Prop where
 tu : ∀ b xs, H b = some (.tup xs) → H' b = some (.tup xs)
 ls : ∀ b xs, H b = some (.lst xs) → H' b = some (.lst xs)
 fr : ∀ b o u, H b = some (.frz o u) → H' b = some (.frz o u)
 dk : ∀ b kvs, H b = some (.dK kvs) → H' b = some (.dK kvs)
theorem Kept.of {H H' : Hp} (s : Same H H') : Kept H H' := ⟨fun _ _ e => s _ _ e, fun _ _ e => s _ _ e, fun _ _ _ e => s _ _ e, fun _ _ e => s _ _ e⟩
theorem Kept.trans {H H' H'' : Hp} (s : Kept H H') (t : Kept H' H'') : Kept H H'' := ⟨fun b x e => t.tu b x (s.tu b x e), fun b x e => t.ls b x (s.ls b x e), fun b o u e => t.fr b o u (s.fr b o u e), fun b x e => t.dk b x (s.dk b x e)⟩
theorem Kept.ins {H : Hp} {p C dx : Addr} {fs : List (Str × V)} {o : HO} (h : H p = some (.ins C dx fs)) : Kept H (upd H p o) :=
 ⟨fun b _ e => (upd_ne (ne_of e h (fun z => nomatch z))).trans e, fun b _ e => (upd_ne (ne_of e h (fun z => nomatch z))).trans e, fun b _ _ e => (upd_ne (ne_of e h (fun z => nomatch z))).trans e, fun b _ e => (upd_ne (ne_of e h (fun z => nomatch z))).trans e⟩
section
variable {H H' : Hp}
theorem ColsAt.kept {qs : List Addr} {cs : List Col} (h : ColsAt H qs cs) (s : Kept H H') : ColsAt H' qs cs := Paired.mapP h fun _ _ e => s.tu _ _ e
theorem Sq.kept {a : Addr} {xs : List V} (h : Sq H a xs) (s : Kept H H') : Sq H' a xs := h.imp (s.ls _ _) (s.tu _ _)
theorem TabT.kept {t : Addr} {d : Tab} (h : TabT H t d) (s : Kept H H') : TabT H' t d := by
 obtain ⟨ca, qs, a, b, c⟩ := h
 exact ⟨ca, qs, s.tu _ _ a, s.tu _ _ b, c.kept s⟩
theorem TabsT.kept {ts : List Addr} {ds : List Tab} (h : TabsT H ts ds) (s : Kept H H') : TabsT H' ts ds := Paired.mapP h fun _ _ e => e.kept s
theorem OrdsI.kept {x : V} {ords : List Col} (h : OrdsI H x ords) (s : Kept H H') : OrdsI H' x ords := h.imp id (by rintro ⟨b, qs, e, q, c⟩; exact ⟨b, qs, e, q.kept s, c.kept s⟩)
theorem TabsC.kept {ts cas : List Addr} {ds : List Tab} (h : TabsC H ts cas ds) (s : Kept H H') : TabsC H' ts cas ds := ⟨Paired.mapP h.1 (by rintro _ _ ⟨qs, a, b, c⟩; exact ⟨qs, s.tu _ _ a, s.tu _ _ b, c.kept s⟩), h.2⟩
theorem TabsT.cols {ts : List Addr} {ds : List Tab} (h : TabsT H ts ds) : ∃ cas, TabsC H ts cas ds := by
 induction h with
 | nil => exact ⟨[], .nil, rfl, rfl⟩
 | cons r t ih =>
  obtain ⟨ca, qs, a, b, c⟩ := r
  obtain ⟨cas, p, l1, l2⟩ := ih
  exact ⟨ca :: cas, .cons ⟨qs, a, b, c⟩ p, by rw [List.length_cons, List.length_cons, l1], by rw [List.length_cons, List.length_cons, l2]⟩
theorem kvs_len {ds : List Tab} {cas : List Addr} (h : cas.length = ds.length) : (kvsOf ds cas).length = ds.length := by
 unfold kvsOf
 rw [List.length_map, List.length_zip, h, Nat.min_self]
theorem kvs_keys : ∀ {ds : List Tab} {cas : List Addr}, cas.length = ds.length → (kvsOf ds cas).map (·.1) = ds.map fun d => (.inr d.1 : Key)
 | [], [], _ => rfl
 | _ :: _, [], h => nomatch h
 | [], _ :: _, h => nomatch h
 | d :: ds, c :: cas, h => by
  show (Sum.inr d.1 : Key) :: (kvsOf ds cas).map (·.1) = _
  rw [kvs_keys (Nat.succ.inj h)]
  rfl
theorem keys_nodup {ds : List Tab} (h : (ds.map (·.1)).Nodup) : (ds.map fun d => (.inr d.1 : Key)).Nodup := by
 induction ds with
 | nil => exact List.nodup_nil
 | cons d ds ih =>
  rw [List.map_cons, List.nodup_cons] at h ⊢
  refine ⟨fun z => h.1 ?_, ih h.2⟩
  obtain ⟨e, he, ee⟩ := List.mem_map.mp z
  injection ee with ee
  exact List.mem_map.mpr ⟨e, he, ee⟩
theorem kvs_at : ∀ {ts cas : List Addr} {ds : List Tab}, TabsC H ts cas ds → ∀ {i : Nat} {q : Addr} {kx : Key × V}, ts[i]? = some q → (kvsOf ds cas)[i]? = some kx → H q = some (.tup [kV kx.1, kx.2])
 | [], _, _, _, i, _, _, e, _ => by simp at e
 | _ :: _, [], _ :: _, ⟨_, _, l⟩, _, _, _, _, _ => nomatch l
 | _ :: _, _, [], ⟨_, l, _⟩, _, _, _, _, _ => nomatch l
 | t :: ts, c :: cas, d :: ds, ⟨.cons ⟨qs, a, _, _⟩ p, l1, l2⟩, 0, _, _, e1, e2 => by cases e1; cases e2; exact a
 | t :: ts, c :: cas, d :: ds, ⟨.cons _ p, l1, l2⟩, i + 1, _, _, e1, e2 => kvs_at (ts := ts) (cas := cas) (ds := ds) ⟨p, Nat.succ.inj l1, Nat.succ.inj l2⟩ (i := i) e1 e2
end
def sp_Schema___init__ (C : Addr) : Sp := fun vs H Q _ => ∃ (p dx a : Addr) (x : V) (ts : List Addr) (tabs : List Tab) (ords : List Col), vs = [.ref p, .ref a, x] ∧ H p = some (.ins C dx []) ∧ Sq H a (ts.map V.ref) ∧ TabsI H ts tabs ∧ okTabs tabs ∧ OrdsI H x ords ∧ okOrds tabs ords ∧
 ∀ H', SchemaAt C H' p tabs ords → (∀ b o, H b = some o → b ≠ p → H' b = some o) → Q .non H'
section
variable {P : Program} {w : World} {K : PySem.W.Frag} {mg : Str → Option Value} {base : Heap}
theorem ok_Schema___init__ (T : Txt K mg) : FnOk P w K mg base CX0 7 T.Schema___init__.f T.Schema___init__.fd ["self", "tables", "orders"] (sp_Schema___init__ T.C_Schema) := by
 have G_tables_from : FnOk P w K mg base CX0 6 T.tables_from.f T.tables_from.fd _ _ := ok_tables_from T
 have G_orders_from : FnOk P w K mg base CX0 5 T.orders_from.f T.orders_from.fd _ _ := ok_orders_from T
 refine T.Schema___init__.fn.ok sc_Schema___init__ (fun vs H Q E h => ?_) (fun cdv A outer s H vs Q E hr h => ?_)
 ·obtain ⟨p, dx, a, x, ts, tabs, ords, rfl, _⟩ := h
  rfl
 ·obtain ⟨p, dx, a, x, ts, tabs, ords, rfl, hp, hq, hi, hok, hx, hoo, q⟩ := h
  refine ⟨_, ((pss_cons (ps_fld (pv 0) (pe_own G_tables_from (hr.mono (by decide)) rfl (pa_cons (pv 1) pa_nil)) rfl)
   (pss_cons (ps_fld (pv 0) (pe_own G_orders_from (hr.mono (by decide)) rfl (pa_cons (pe_fldK (K := K) rfl (pv 0) rfl) (pa_cons (pv 2) pa_nil))) rfl)
   (pss_one (ps_fld (pv 0) (pe_callTy (call_dictT rfl) (by rfl) T.b_dict bt_dict (pa_cons (pe_fldK (K := K) rfl (pv 0) rfl) pa_nil)) rfl))))), ?_⟩
  refine sq1 fun Rz1 qz1 => ?_
  refine (ea rfl ⟨a, ts, tabs, rfl, hq, hi, hok, fun r o ts' H1 hr1 s1 h1 oc od hT => ?_⟩)
  have hp1 := s1 _ _ hp
  have nr : r ≠ p := (ne_of_none hp hr1).symm
  refine (ea rfl ⟨p, T.C_Schema, dx, ea rfl ⟨hp1, T.l_Schema, T.n_Schema_tables, by decide, ?_⟩⟩)
  have K1 : Kept H1 (upd H1 p (.ins T.C_Schema dx (putF "tables" (.ref r) []))) := Kept.ins hp1
  have hp2 : upd H1 p (.ins T.C_Schema dx (putF "tables" (.ref r) [])) p = some (.ins T.C_Schema dx [("tables", .ref r)]) := by rw [upd_same]; rfl
  have O1 : ∀ b u, H b = some u → b ≠ p → upd H1 p (.ins T.C_Schema dx (putF "tables" (.ref r) [])) b = some u := fun b u e n => (upd_ne n).trans (s1 _ _ e)
  generalize upd H1 p (.ins T.C_Schema dx (putF "tables" (.ref r) [])) = H2 at K1 hp2 O1 ⊢
  refine qz1 ?_
  refine (ea rfl ⟨p, T.C_Schema, dx, _, ea rfl ⟨hp2, T.l_Schema, T.n_Schema_tables, by kernel_rfl, ea rfl ⟨r, x, o, ts', tabs, ords, rfl, K1.fr _ _ _ h1, hT.kept K1, hok, (hx.same s1).kept K1, hoo, fun r2 rs H3 hr2 s3 h3 hc3 => ?_⟩⟩⟩)
  have hp3 := s3 _ _ hp2
  refine (ea rfl ⟨p, T.C_Schema, dx, ea rfl ⟨hp3, T.l_Schema, T.n_Schema_orders, (show (1 : Nat) < 1000 by decide), ?_⟩⟩)
  have K3 : Kept H3 (upd H3 p (.ins T.C_Schema dx (putF "orders" (.ref r2) [("tables", .ref r)]))) := Kept.ins hp3
  have hp4 : upd H3 p (.ins T.C_Schema dx (putF "orders" (.ref r2) [("tables", .ref r)])) p = some (.ins T.C_Schema dx [("tables", .ref r), ("orders", .ref r2)]) := by rw [upd_same]; kernel_rfl
  have O3 : ∀ b u, H b = some u → b ≠ p → upd H3 p (.ins T.C_Schema dx (putF "orders" (.ref r2) [("tables", .ref r)])) b = some u := fun b u e n => (upd_ne n).trans (s3 _ _ (O1 b u e n))
  have K13 : Kept H1 (upd H3 p (.ins T.C_Schema dx (putF "orders" (.ref r2) [("tables", .ref r)]))) := (K1.trans (Kept.of s3)).trans K3
  generalize upd H3 p (.ins T.C_Schema dx (putF "orders" (.ref r2) [("tables", .ref r)])) = H4 at K3 hp4 O3 K13 ⊢
  obtain ⟨cas, hC⟩ := (hT.kept K13).cols
  refine (ea rfl ⟨p, T.C_Schema, dx, _, ea rfl ⟨hp4, T.l_Schema, T.n_Schema_tables, by kernel_rfl, r, o, ts', kvsOf tabs cas, rfl, K13.fr _ _ _ h1, oc, od, ?_, ?_, ?_, fun i q kx e1 e2 => kvs_at hC e1 e2, fun d hd => ?_⟩⟩)
  ·rw [kvs_len hC.2.2, hC.2.1]
  ·rw [hC.2.1]
   have := hok.2.1
   omega
  ·rw [kvs_keys hC.2.2]
   exact keys_nodup hok.2.2.2
  ·have s5 : Same H4 (upd H4 d (.dK (kvsOf tabs cas))) := Same.new hd
   have hp5 := s5 _ _ hp4
   refine (ea rfl ⟨p, T.C_Schema, dx, ea rfl ⟨hp5, T.l_Schema, T.n_Schema_columns, (show (2 : Nat) < 1000 by decide), ?_⟩⟩)
   have K5 : Kept (upd H4 d (.dK (kvsOf tabs cas))) (upd (upd H4 d (.dK (kvsOf tabs cas))) p (.ins T.C_Schema dx (putF "columns" (.ref d) [("tables", .ref r), ("orders", .ref r2)]))) := Kept.ins hp5
   have K45 := (Kept.of s5).trans K5
   refine q _ ⟨dx, r, r2, d, o, ts', cas, rs, ?_, (K13.trans K45).fr _ _ _ h1, hC.kept K45, (K3.trans K45).tu _ _ h3, hc3.kept (K3.trans K45), K5.dk _ _ upd_same⟩ fun b u e n => (upd_ne n).trans (s5 _ _ (O3 b u e n))
   rw [upd_same]
   kernel_rfl
end
theorem TabsC.at : ∀ {H : Hp} {ts cas : List Addr} {ds : List Tab}, TabsC H ts cas ds → ∀ (k : Nat) (h1 : k < ts.length) (h2 : k < cas.length) (h3 : k < ds.length), ∃ qs : List Addr, H ts[k] = some (.tup [.str ds[k].1, .ref cas[k]]) ∧ H cas[k] = some (.tup (qs.map V.ref)) ∧ ColsAt H qs ds[k].2 := fun {H ts cas ds} h k h1 h2 h3 => by
 have := Paired.at h.1 k (by rw [List.length_zip]; omega) h3
 rw [List.getElem_zip] at this
 exact this
theorem SchemaAt.kept {C : Addr} {H H' : Hp} {p : Addr} {tabs : List Tab} {ords : List Col} (h : SchemaAt C H p tabs ords) (s : Same H H') : SchemaAt C H' p tabs ords := by
 obtain ⟨dx, tt, oo, dd, o, ts, cas, rs, a, b, c, d, e, f⟩ := h
 exact ⟨dx, tt, oo, dd, o, ts, cas, rs, s _ _ a, s _ _ b, c.kept (Kept.of s), s _ _ d, e.same s, s _ _ f⟩
def sp_Schema_table_names (C : Addr) : Sp := fun vs H Q _ => ∃ (p : Addr) (tabs : List Tab) (ords : List Col), vs = [.ref p] ∧ SchemaAt C H p tabs ords ∧ okTabs tabs ∧ ∀ (l : Addr) (H' : Hp), H l = none → Same H H' → H' l = some (.lst ((tabs.map (·.1)).map V.str)) → Q (.ref l) H'
theorem scF_t (tt oo dd : Addr) : (scF tt oo dd).lookup ("tables" : Str) = some (.ref tt) := by kernel_rfl
section
variable {P : Program} {w : World} {K : PySem.W.Frag} {mg : Str → Option Value} {base : Heap}
theorem ok_Schema_table_names (T : Txt K mg) : FnOk P w K mg base CX0 1 T.Schema_table_names.f T.Schema_table_names.fd ["self"] (sp_Schema_table_names T.C_Schema) := by
 refine T.Schema_table_names.fn.ok sc_Schema_table_names (fun vs H Q E h => ?_) (fun cdv A outer s H vs Q E hr h => ?_)
 ·obtain ⟨p, tabs, ords, rfl, _⟩ := h
  rfl
 ·obtain ⟨p, tabs, ords, rfl, hS, hok, q⟩ := h
  obtain ⟨dx, tt, oo, dd, o, ts, cas, rs, hp, ht, hC, _⟩ := hS
  refine ⟨_, ((pss_one (ps_ret (pe_comp (N := ["table"]) (own := 1) (caps := []) rfl (by kernel_rfl) (by kernel_rfl) (pi_tupK (K := K) rfl (pe_fldK (K := K) rfl (pv 0) rfl)) (fun _ _ _ _ _ => pg_name (i := 0) (show List.Nodup (["table"] : List Str) by decide +kernel) rfl (Or.inl rfl)) (fun _ _ _ _ _ => pts_nil) (fun _ _ _ _ _ => (pe_ix (ix_tupK (K := K) rfl) (pv 0) pe_int (fun _ _ => rfl))))))), ?_⟩
  have sq : ∀ {H4 : Hp}, Same H H4 → SqT K H4 tt (ts.map V.ref) := fun s => .inl (.inr ⟨o, s _ _ ht⟩)
  refine (ea rfl ⟨p, T.C_Schema, dx, _, ea rfl ⟨hp, T.l_Schema, T.n_Schema_tables, scF_t .., tt, rfl, ⟨_, sq (Same.refl _)⟩, fun D hD => ?_⟩⟩)
  refine comp_by (J := Itt K tt) ts.length (fun j τ H4 => ∃ (v : Option V), τ = [v] ∧ Same H H4 ∧ H4 D = some (.lst ((((tabs.take j).map (·.1))).map V.str)))
   ⟨none, rfl, Same.new hD, upd_same⟩
   (fun j τ H4 hj ⟨_, _, sm, _⟩ => ⟨_, .ref ts[j], sq sm, by rw [List.getElem?_map, List.getElem?_eq_getElem hj]; rfl⟩)
   (by rintro τ H4 ⟨_, _, sm, _⟩; exact ⟨_, sq sm, by rw [List.length_map]; exact Nat.le_refl _⟩) ?_ ?_
  ·rintro j τ H4 y H5 hj ⟨v, rfl, sm4, hd4⟩ ⟨rfl, hy⟩
   have ey := hy _ (sq sm4)
   rw [List.getElem?_map, List.getElem?_eq_getElem hj] at ey
   cases ey
   have hj' : j < tabs.length := by rw [← hC.2.1]; exact hj
   obtain ⟨qs, t1, _, _⟩ := hC.at j hj (by rw [hC.2.2]; exact hj') hj'
   refine (ea rfl (ixTc (SqT.of (sm4 _ _ t1)) rfl ⟨_, hd4, ?_, (ea rfl ⟨sm4.upd hD, ?_⟩)⟩))
   ·rw [List.length_map, List.length_map, List.length_take]
    have := hok.2.1
    exact small_line1 (by omega)
   ·rw [upd_same, List.take_succ_eq_append_getElem hj', List.map_append, List.map_append]
    rfl
  ·rintro τ H4 ⟨v, rfl, sm4, hd4⟩
   rw [hC.2.1, List.take_length] at hd4
   exact q D H4 hD sm4 hd4
end
def sp_xi (C : Addr) (fs : List Str) : Sp := fun vs H Q _ => ∃ (p : Addr) (ys : List V), vs = .ref p :: ys ∧ ys.length = fs.length ∧ H p = some (excX p C none true) ∧ ∀ d, H d = none → d ≠ p → Q .non (upd (upd H p (excX p C (some d) true)) d (xdO d (fs.zip ys)))
theorem sp_len {C : Addr} {fs ps : List Str} (e : fs.length + 1 = ps.length) (vs : List V) (H : Hp) (Q : VK) (E : XK) (h : sp_xi C fs vs H Q E) : vs.length = ps.length := by
 obtain ⟨p, ys, rfl, l, _⟩ := h
 rw [← e, ← l]
 rfl
theorem made_step {H : Hp} {x d C : Addr} {fs : List (Str × V)} (hx : H x = none) (hd : upd H x (excX x C none true) d = none) (ne : d ≠ x) :
  Same H (upd (upd (upd H x (excX x C none true)) x (excX x C (some d) true)) d (xdO d fs)) ∧ upd (upd (upd H x (excX x C none true)) x (excX x C (some d) true)) d (xdO d fs) x = some (excX x C (some d) true) ∧ upd (upd (upd H x (excX x C none true)) x (excX x C (some d) true)) d (xdO d fs) d = some (xdO d fs) := by
 rw [upd_ne ne] at hd
 refine ⟨?_, by rw [upd_ne ne.symm]; exact upd_same, upd_same⟩
 exact (((Same.refl H).upd hx).upd hx).upd hd
theorem raise_step {H : Hp} {x d C : Addr} {fs : List (Str × V)} (hx : H x = none) (hd : upd H x (excX x C none true) d = none) (ne : d ≠ x) :
  Same H (del (upd (upd (upd H x (excX x C none true)) x (excX x C (some d) true)) d (xdO d fs)) x) ∧ del (upd (upd (upd H x (excX x C none true)) x (excX x C (some d) true)) d (xdO d fs)) x d = some (xdO d fs) := by
 obtain ⟨s, _, e⟩ := made_step (fs := fs) hx hd ne
 refine ⟨fun b o z => ?_, ?_⟩
 ·rw [del_ne (ne_of_none z hx)]
  exact s b o z
 ·rw [del_ne ne]
  exact e
def Comes (C : Addr) (H : Hp) (E : XK) (fs : List (Str × V)) : Prop := ∀ (d : Addr) (H' : Hp), Same H H' → H' d = some (xdO d fs) → E (.ref C) (some d) H'
theorem Comes.of {C : Addr} {H H' : Hp} {E : XK} {fs : List (Str × V)} (c : Comes C H E fs) (s : Same H H') : Comes C H' E fs := fun d H2 s2 e => c d H2 (s.trans s2) e
theorem gF {K : PySem.W.Frag} {x C dx : Addr} {fs : List (Str × V)} {f : Str} {v : V} {H : Hp} {G : V → Prop} (hx : H x = some (.ins C dx fs)) (l : Cls K C) (n : NoAttr K C f) (e : fs.lookup f = some v) (q : G v) :
  ∃ a C dx fs v', V.ref x = .ref a ∧ H a = some (.ins C dx fs) ∧ Cls K C ∧ NoAttr K C f ∧ fs.lookup f = some v' ∧ G v' := ⟨x, C, dx, fs, v, rfl, hx, l, n, e, q⟩
def Ch1 (x : Addr) (H H' : Hp) : Prop := ∀ b o, b ≠ x → H b = some o → H' b = some o
theorem Ch1.trans {x : Addr} {H H1 H2 : Hp} (a : Ch1 x H H1) (b : Ch1 x H1 H2) : Ch1 x H H2 := fun c o n e => b c o n (a c o n e)
theorem Ch1.of {x : Addr} {H H1 : Hp} (a : Same H H1) : Ch1 x H H1 := fun c o _ e => a c o e
theorem Ch1.none {x l : Addr} {H H' : Hp} {u : HO} (c : Ch1 x H H') (hx : H' x = some u) (h : H' l = none) : H l = none ∧ l ≠ x := by
 have n : l ≠ x := fun z => by rw [z, hx] at h; cases h
 refine ⟨?_, n⟩
 cases e : H l with
 | none => rfl
 | some o => rw [c l o n e] at h; cases h
theorem pF {K : PySem.W.Frag} {x C dx : Addr} {fs fs' : List (Str × V)} {f : Str} {y : V} {H : Hp} {G : Hp → Prop} (hx : H x = some (.ins C dx fs)) (l : Cls K C) (n : NoAttr K C f) (z : fs.length < 1000) (e : putF f y fs = fs')
  (q : ∀ H', H' x = some (.ins C dx fs') → Ch1 x H H' → G H') :
  ∃ a C dx fs, V.ref x = .ref a ∧ H a = some (.ins C dx fs) ∧ Cls K C ∧ NoAttr K C f ∧ fs.length < 1000 ∧ G (upd H a (.ins C dx (putF f y fs))) :=
 ⟨x, C, dx, fs, rfl, hx, l, n, z, q _ (by rw [upd_same, e]) fun _ _ ne e => (upd_ne ne).trans e⟩
def Sm (H H' : Hp) : Prop := ∀ b o, H b = some o → H' b = some o ∨ ((∃ ps, o = .tbl ps) ∧ ∃ ps, H' b = some (.tbl ps))
theorem Sm.of {H H' : Hp} (s : Same H H') : Sm H H' := fun b o e => .inl (s b o e)
theorem Sm.get {H H' : Hp} {b : Addr} {o : HO} (s : Sm H H') (n : ∀ ps, o ≠ .tbl ps) (e : H b = some o) : H' b = some o := by
 rcases s b o e with z | ⟨⟨ps, z⟩, _⟩
 ·exact z
 ·exact absurd z (n ps)
theorem Sm.none {H H' : Hp} {b : Addr} (s : Sm H H') (e : H' b = none) : H b = none := by
 cases q : H b with
 | none => rfl
 | some o =>
  rcases s b o q with z | ⟨_, ps, z⟩
  ·rw [e] at z; cases z
  ·rw [e] at z; cases z
theorem Sm.ins {H H' : Hp} {b C dx : Addr} {fs : List (Str × V)} (s : Sm H H') (e : H b = some (.ins C dx fs)) : H' b = some (.ins C dx fs) := s.get (fun _ z => nomatch z) e
theorem Sm.kept {H H' : Hp} (s : Sm H H') : Kept H H' :=
 ⟨fun _ _ e => s.get (fun _ z => nomatch z) e, fun _ _ e => s.get (fun _ z => nomatch z) e, fun _ _ _ e => s.get (fun _ z => nomatch z) e, fun _ _ e => s.get (fun _ z => nomatch z) e⟩
def Ch2 (x y : Addr) (H H' : Hp) : Prop := ∀ b o, b ≠ x → b ≠ y → H b = some o → H' b = some o
theorem Ch2.trans {x y : Addr} {H H1 H2 : Hp} (a : Ch2 x y H H1) (b : Ch2 x y H1 H2) : Ch2 x y H H2 := fun c o n m e => b c o n m (a c o n m e)
theorem Ch1.two {x y : Addr} {H H1 : Hp} (a : Ch1 x H H1) : Ch2 x y H H1 := fun c o n _ e => a c o n e
theorem Ch2.of {x y : Addr} {H H1 : Hp} (a : Same H H1) : Ch2 x y H H1 := fun c o _ _ e => a c o e
theorem Sm.ch2 {H H1 H2 : Hp} {x y : Addr} (s : Sm H H1) (n : H x = Option.none) (m : H y = Option.none) (c : Ch2 x y H1 H2) : Sm H H2 := fun b o e => by
 have n1 := ne_of_none e n
 have n2 := ne_of_none e m
 rcases s b o e with z | ⟨t, ps, z⟩
 ·exact .inl (c b o n1 n2 z)
 ·exact .inr ⟨t, ps, c b _ n1 n2 z⟩
theorem Sm.ch {H H1 H2 : Hp} {x : Addr} (s : Sm H H1) (n : H x = Option.none) (c : Ch1 x H1 H2) : Sm H H2 := s.ch2 n n c.two
abbrev tb1 : List Tab := [("t", [("k", "number")])]
theorem tb1_ok : okTabs tb1 := ⟨by decide, by decide, fun d h => by (rw [List.mem_singleton.mp h]; exact ⟨by kernel_rfl, by decide, by decide, fun c hc => by (rw [List.mem_singleton.mp hc]; exact ⟨by kernel_rfl, .inl rfl⟩), by decide⟩), by decide⟩
theorem SchemaAt.sm {C : Addr} {H H' : Hp} {p : Addr} {tabs : List Tab} {ords : List Col} (h : SchemaAt C H p tabs ords) (s : Sm H H') : SchemaAt C H' p tabs ords := by
 obtain ⟨dx, tt, oo, dd, o, ts, cas, rs, a, b, c, d, e, f⟩ := h
 exact ⟨dx, tt, oo, dd, o, ts, cas, rs, s.ins a, s.kept.fr _ _ _ b, c.kept s.kept, s.kept.tu _ _ d, e.kept s.kept, s.kept.dk _ _ f⟩
abbrev mkF (sc st sr lw : Addr) : List (Str × V) := [("schema", .ref sc), ("last", .int 0), ("still_told", .ref st), ("stretches", .ref sr), ("last_written", .ref lw)]
abbrev dlF (n : Int) (sc b L t : Addr) : List (Str × V) := [("number", .int n), ("schema", .ref sc), ("begun_at", .int 0), ("beneath", .ref b), ("laid_over", .ref L), ("fate_now", .ref t)]
abbrev dsF (mk : Addr) (n : Int) (no wb : Addr) : List (Str × V) := [("makes", .ref mk), ("begun_many", .int n), ("not_over", .ref no), ("written_by", .ref wb)]
def MakesAt (C Cs : Addr) (H : Hp) (mk : Addr) : Prop := ∃ dx sc st sr lw, H mk = some (.ins C dx (mkF sc st sr lw)) ∧ SchemaAt Cs H sc tb1 []
theorem MakesAt.sm {C Cs mk : Addr} {H H' : Hp} (h : MakesAt C Cs H mk) (s : Sm H H') : MakesAt C Cs H' mk := by
 obtain ⟨dx, sc, st, sr, lw, a, b⟩ := h
 exact ⟨dx, sc, st, sr, lw, s.ins a, b.sm s⟩
def Deal (C : Addr) (H0 H : Hp) (no d : Addr) (n : Int) (F : List V) : Prop := ∃ dx sc b L M t, H0 d = none ∧ H d = some (.ins C dx (dlF n sc b L t)) ∧ H L = some (.dK [(.inr "t", .ref M)]) ∧ H M = some (.dK []) ∧ L ≠ no ∧ M ≠ no ∧ H t = some (.tup F)
abbrev opnF : List V := [.str "open", .int 0]
abbrev kptF : List V := [.str "kept", .int 0, .non]
abbrev brkF : List V := [.str "broken", .int 0]
def opD (op : List (Int × Addr)) : List (Key × V) := op.map fun p => (.inl p.1, .ref p.2)
def ofN (k : Int) (op : List (Int × Addr)) : List (Int × Addr) := op.filter fun p => decide (p.1 ≠ k)
def DsAt (C Cm Cs : Addr) (H0 H : Hp) (D no mk : Addr) (n : Int) (op : List (Int × Addr)) : Prop := ∃ dx wb, Sm H0 H ∧ MakesAt Cm Cs H0 mk ∧ H0 D = none ∧ H0 no = none ∧ H D = some (.ins C dx (dsF mk n no wb)) ∧ H no = some (.dK (opD op))
theorem op_len {op : List (Int × Addr)} : (opD op).length = op.length := List.length_map ..
theorem op_drop (k : Int) : ∀ op : List (Int × Addr), dropK (opD op) (.inl k) = opD (ofN k op)
 | [] => rfl
 | (j, a) :: op => by
  show dropK ((Sum.inl j, V.ref a) :: opD op) (.inl k) = _
  by_cases e : j = k
  ·rw [dropK_pos (congrArg Sum.inl e), op_drop k op]
   have : ofN k ((j, a) :: op) = ofN k op := by unfold ofN; rw [List.filter_cons_of_neg (by simp [e])]
   rw [this]
  ·rw [dropK_neg (fun z => e (Sum.inl.inj z)), op_drop k op]
   have : ofN k ((j, a) :: op) = (j, a) :: ofN k op := by unfold ofN; rw [List.filter_cons_of_pos (by simp [e])]
   rw [this]
   rfl
theorem op_val {k : Int} : ∀ {op : List (Int × Addr)}, k ∈ op.map (·.1) → ∃ v, valV (opD op) (.inl k) = some v
 | [], h => nomatch h
 | (j, a) :: op, h => by
  show ∃ v, valV ((Sum.inl j, V.ref a) :: opD op) (.inl k) = some v
  by_cases e : j = k
  ·exact ⟨_, valV_pos (congrArg Sum.inl e)⟩
  ·rw [valV_neg (fun z => e (Sum.inl.inj z))]
   refine op_val ((List.mem_cons.mp h).resolve_left fun z => e z.symm)
theorem op_none {k : Int} : ∀ {op : List (Int × Addr)}, k ∉ op.map (·.1) → valV (opD op) (.inl k) = none
 | [], _ => rfl
 | (j, a) :: op, h => by
  rw [List.map_cons, List.mem_cons, not_or] at h
  show valV ((Sum.inl j, V.ref a) :: opD op) (.inl k) = none
  rw [valV_neg (fun z => h.1 (Sum.inl.inj z).symm), op_none h.2]
theorem op_put {k : Int} {a : Addr} {op : List (Int × Addr)} (h : k ∉ op.map (·.1)) : putK (opD op) (.inl k) (.ref a) = opD (op ++ [(k, a)]) := by
 rw [putK_new _ (op_none h)]
 unfold opD
 rw [List.map_append]
 rfl
section
variable {P : Program} {w : World} {K : PySem.W.Frag} {mg : Str → Option Value} {base : Heap}
theorem ok_Over___init__ (T : Txt K mg) : FnOk P w K mg base CX0 1 T.Over___init__.f T.Over___init__.fd ["self", "number"] (sp_xi T.C_Over ["number"]) := by
 refine T.Over___init__.fn.ok sc_Over___init__ (sp_len rfl) (fun cdv A outer s H vs Q E hr h => ?_)
 obtain ⟨p, ys, rfl, l, hp, q⟩ := h
 obtain ⟨y0, rfl⟩ := List.length_eq_one_iff.mp l
 refine ⟨_, ((pss_one (ps_xfld (K := K) rfl rfl (pv 0) (pv 1) rfl))), ?_⟩
 refine (ea rfl (ea rfl ⟨p, T.C_Over, true, rfl, T.s_Over_number, .inl ⟨hp, fun d hd ne => ?_⟩⟩))
 exact q d hd ne
end
def sp_AtMake___init__ (C : Addr) : Sp := fun vs H Q _ => ∃ (p dx : Addr) (x y : V), vs = [.ref p, x, y] ∧ H p = some (.ins C dx []) ∧ ∀ H', Ch1 p H H' → Q .non H'
def sp_Makes_last_make (C Cs : Addr) : Sp := fun vs H Q _ => ∃ mk : Addr, vs = [.ref mk] ∧ MakesAt C Cs H mk ∧ Q (.int 0) H
theorem mk_same {H H' : Hp} {x dx : Addr} {o u : HO} (h1 : H x = none) (h2 : H dx = none) (c : Ch1 x (upd (upd H dx u) x o) H') : Same H H' := fun b v e => by
 have n := ne_of_none e h1
 exact c b v n (by rw [upd_ne n, upd_ne (ne_of_none e h2)]; exact e)
def sp_Dealing___init__ (C Cm Cs : Addr) : Sp := fun vs H Q _ => ∃ (d dx mk : Addr) (n : Int), vs = [.ref d, .int n, .ref mk] ∧ H d = some (.ins C dx []) ∧ MakesAt Cm Cs H mk ∧ mk ≠ d ∧ (∃ H0, Sm H0 H ∧ H0 d = none ∧ MakesAt Cm Cs H0 mk) ∧
 ∀ (H' : Hp) (sc b L M t : Addr), Ch1 d H H' → H' d = some (.ins C dx (dlF n sc b L t)) → H' L = some (.dK [(.inr "t", .ref M)]) → H' M = some (.dK []) → H L = none → H M = none → H' t = some (.tup opnF) → Q .non H'
section
variable {P : Program} {w : World} {K : PySem.W.Frag} {mg : Str → Option Value} {base : Heap}
theorem ok_AtMake___init__ (T : Txt K mg) : FnOk P w K mg base CX0 1 T.AtMake___init__.f T.AtMake___init__.fd ["self", "makes", "make"] (sp_AtMake___init__ T.C_AtMake) := by
 refine T.AtMake___init__.fn.ok sc_AtMake___init__ (fun vs H Q E h => ?_) (fun cdv A outer s H vs Q E hr h => ?_)
 ·obtain ⟨p, dx, x, y, rfl, _⟩ := h
  rfl
 ·obtain ⟨p, dx, x, y, rfl, hp, q⟩ := h
  refine ⟨_, ((pss_cons (ps_fld (pv 0) (pv 1) rfl)
   (pss_one (ps_fld (pv 0) (pv 2) rfl)))), ?_⟩
  refine sq1 fun R1 q1 => ?_
  refine ea rfl (ea rfl (pF hp T.l_AtMake T.n_AtMake_makes (show (0 : Nat) < 1000 by decide) rfl fun H1 e1 c1 => q1 ?_))
  exact ea rfl (ea rfl (pF e1 T.l_AtMake T.n_AtMake_make (show (1 : Nat) < 1000 by decide) rfl fun H2 e2 c2 => q _ (c1.trans c2)))
theorem ok_Makes_last_make (T : Txt K mg) : FnOk P w K mg base CX0 1 T.Makes_last_make.f T.Makes_last_make.fd ["self"] (sp_Makes_last_make T.C_Makes T.C_Schema) := by
 refine T.Makes_last_make.fn.ok sc_Makes_last_make (fun vs H Q E h => ?_) (fun cdv A outer s H vs Q E hr h => ?_)
 ·obtain ⟨p, rfl, _⟩ := h
  rfl
 ·obtain ⟨p, rfl, ⟨dx, sc, st, sr, lw, a, b⟩, q⟩ := h
  refine ⟨_, ((pss_one (ps_ret (pe_fldK (K := K) rfl (pv 0) rfl)))), ?_⟩
  exact ea rfl (gF (v := .int 0) a T.l_Makes T.n_Makes_last (by kernel_rfl) q)
theorem ok_Dealing___init__ (T : Txt K mg) : FnOk P w K mg base CX0 3 T.Dealing___init__.f T.Dealing___init__.fd ["self", "number", "makes"] (sp_Dealing___init__ T.C_Dealing T.C_Makes T.C_Schema) := by
 have G_AtMake___init__ : FnOk P w K mg base CX0 1 T.AtMake___init__.f T.AtMake___init__.fd _ _ := ok_AtMake___init__ T
 have G_Makes_last_make : FnOk P w K mg base CX0 1 T.Makes_last_make.f T.Makes_last_make.fd _ _ := ok_Makes_last_make T
 have G_Schema_table_names : FnOk P w K mg base CX0 1 T.Schema_table_names.f T.Schema_table_names.fd _ _ := ok_Schema_table_names T
 refine T.Dealing___init__.fn.ok sc_Dealing___init__ (fun vs H Q E h => ?_) (fun cdv A outer s H vs Q E hr h => ?_)
 ·obtain ⟨d, dx, mk, n, rfl, _⟩ := h
  rfl
 ·obtain ⟨d, dx, mk, n, rfl, hd, hmk, hne, ⟨H0, sm, n0, hm0⟩, q⟩ := h
  have hu1 := hu_of hr
  obtain ⟨mdx, sc, st, sr, lw, ma, mb⟩ := id hm0
  refine ⟨_, ((pss_cons (ps_fld (pv 0) (pv 1) rfl)
   (pss_cons (ps_fld (pv 0) (pe_fldK (K := K) rfl (pv 2) rfl) rfl)
   (pss_cons (ps_fld (pv 0) (pe_mown0 T.l_Makes G_Makes_last_make (hr.mono (by decide)) (pv 2)) rfl)
   (pss_cons (ps_fld (pv 0) (pe_make T.k_AtMake G_AtMake___init__ (hr.mono (by decide)) rfl T.c_AtMake T.AtMake___init__.bi .nil pass0 (pa_cons (pv 2) (pa_cons (pe_fldK (K := K) rfl (pv 0) rfl) pa_nil))) rfl)
   (pss_cons (ps_fld (pv 0) pe_dnewK rfl)
   (pss_cons (ps_for PassesOwn.never rfl (pi_listK (K := K) rfl (pe_mown0 T.l_Schema G_Schema_table_names (hr.mono (by decide)) (pe_fldK (K := K) rfl (pv 0) rfl))) (pg_name (i := 3) sc_Dealing___init__.nd rfl (Or.inl rfl)) (pss_one (ps_dput hu1 (pe_fldK (K := K) rfl (pv 0) rfl) (pv 3) pe_dnewK rfl)))
   (pss_one (ps_fld (pv 0) (pe_tup (pa_cons pe_str (pa_cons (pe_fldK (K := K) rfl (pv 0) rfl) pa_nil))) rfl))))))))), ?_⟩
  refine sq1 fun R1 q1 => ?_
  refine ea rfl (ea rfl (pF hd T.l_Dealing T.n_Dealing_number (show (0 : Nat) < 1000 by decide) rfl fun H1 e1 c1 => q1 ?_))
  have s1 : Sm H0 H1 := sm.ch n0 c1
  have m1 := s1.ins ma
  refine sq1 fun R2 q2 => ?_
  refine ea rfl (gF (v := .ref sc) m1 T.l_Makes T.n_Makes_schema (by kernel_rfl) (ea rfl (pF (fs' := [("number", .int n), ("schema", .ref sc)]) e1 T.l_Dealing T.n_Dealing_schema (show (1 : Nat) < 1000 by decide) (by kernel_rfl) fun H2 e2 c2 => q2 ?_)))
  have s2 : Sm H0 H2 := s1.ch n0 c2
  refine sq1 fun R3 q3 => ?_
  refine ea rfl ⟨mk, _, _, rfl, s2.ins ma, by kernel_rfl, mk, rfl, hm0.sm s2, ?_⟩
  refine ea rfl (pF (fs' := [("number", .int n), ("schema", .ref sc), ("begun_at", .int 0)]) e2 T.l_Dealing T.n_Dealing_begun_at (show (2 : Nat) < 1000 by decide) (by kernel_rfl) fun H3 e3 c3 => q3 ?_)
  have s3 : Sm H0 H3 := s2.ch n0 c3
  refine sq1 fun R4 q4 => ?_
  refine ea rfl (ea rfl (gF (v := .int 0) e3 T.l_Dealing T.n_Dealing_begun_at (by kernel_rfl) fun b bx hb hbx nb => ?_))
  refine ⟨b, bx, _, _, rfl, upd_same, fun H4 c4 => ⟨rfl, ?_⟩⟩
  have t4 : Same H3 H4 := mk_same hb hbx c4
  refine ea rfl (pF (fs' := [("number", .int n), ("schema", .ref sc), ("begun_at", .int 0), ("beneath", .ref b)]) (t4 _ _ e3) T.l_Dealing T.n_Dealing_beneath (show (3 : Nat) < 1000 by decide) (by kernel_rfl) fun H5 e5 c5 => q4 ?_)
  refine sq1 fun R5 q5 => ?_
  have d5 : Ch1 d H H5 := ((c1.trans c2).trans c3).trans ((Ch1.of t4).trans c5)
  intro L hL
  have t6 : Same H5 (upd H5 L (.dK [])) := Same.new hL
  have hL5 : upd H5 L (.dK []) L = some (.dK []) := upd_same
  generalize upd H5 L (.dK []) = H6 at t6 hL5 ⊢
  refine ea rfl (pF (fs' := [("number", .int n), ("schema", .ref sc), ("begun_at", .int 0), ("beneath", .ref b), ("laid_over", .ref L)]) (t6 _ _ e5) T.l_Dealing T.n_Dealing_laid_over (show (4 : Nat) < 1000 by decide) (by kernel_rfl) fun H7 e7 c7 => q5 ?_)
  obtain ⟨hLH, hLd⟩ := d5.none e5 hL
  have d7 : Ch1 d H H7 := d5.trans ((Ch1.of t6).trans c7)
  have s7 : Sm H0 H7 := sm.ch n0 d7
  have l7 := c7 _ _ hLd hL5
  refine sq1 fun R6 q6 => ?_
  refine ea rfl (gF (v := .ref sc) e7 T.l_Dealing T.n_Dealing_schema (by kernel_rfl) ?_)
  obtain ⟨sdx, tt, oo, dd, so, ts, cas, rs, sa, sb⟩ := id (mb.sm s7)
  refine ⟨sc, _, _, rfl, sa, by kernel_rfl, sc, tb1, [], rfl, mb.sm s7, tb1_ok, fun l H8 hl t8 e8 => ?_⟩
  refine ⟨l, rfl, ⟨_, SqL.of e8⟩, ?_⟩
  have e8' : H8 l = some (.lst [V.str "t"]) := e8
  have d8 : Ch1 d H H8 := d7.trans (Ch1.of t8)
  refine for_list (K := K) (a := l) (xs := [V.str "t"]) (fun i σ H9 => ∃ v : Option V, σ = [some (.ref d), some (.int n), some (.ref mk), v] ∧ H9 l = some (.lst [V.str "t"]) ∧ Ch1 d H H9 ∧ H9 d = some (.ins T.C_Dealing dx [("number", .int n), ("schema", .ref sc), ("begun_at", .int 0), ("beneath", .ref b), ("laid_over", .ref L)]) ∧
    ((i = 0 ∧ H9 L = some (.dK [])) ∨ ∃ M, i ≠ 0 ∧ H M = none ∧ H9 L = some (.dK [(.inr "t", .ref M)]) ∧ H9 M = some (.dK []))) ⟨_, rfl, e8', d8, t8 _ _ e7, .inl ⟨rfl, t8 _ _ l7⟩⟩ ?_ ?_ ?_
  ·rintro i σ H9 _ ⟨v, rfl, a, _⟩
   exact SqL.of a
  ·rintro i x σ H9 hi ⟨v, rfl, a9, d9, e9, k⟩
   have hi0 : i = 0 := by
    have := (List.getElem?_eq_some_iff.mp hi).1
    simpa using this
   subst hi0
   cases hi
   rcases k with ⟨_, k9⟩ | ⟨M, z0, _⟩
   ·intro M hM
    obtain ⟨hMH, hMd⟩ := d9.none e9 hM
    have t10 : Same H9 (upd H9 M (.dK [])) := Same.new hM
    have m10 : upd H9 M (.dK []) M = some (.dK []) := upd_same
    have nML : M ≠ L := (ne_of_none k9 hM).symm
    have nMl : M ≠ l := (ne_of_none a9 hM).symm
    generalize upd H9 M (.dK []) = H10 at t10 m10 ⊢
    refine ea rfl (gF (v := .ref L) (t10 _ _ e9) T.l_Dealing T.n_Dealing_laid_over (by kernel_rfl) (ea rfl ⟨L, _, rfl, .inl ⟨_, .inr "t", t10 _ _ k9, rfl, (show (0 : Nat) < sizeLine from small_line1 (by decide)), rfl⟩, ?_⟩))
    have nld : l ≠ L := ne_of a9 k9 (fun z => nomatch z)
    refine ⟨_, rfl, (upd_ne nld).trans (t10 _ _ a9), fun y o ne e => ?_, (upd_ne hLd.symm).trans (t10 _ _ e9), Or.inr ⟨M, by decide, hMH, upd_same, (upd_ne nML).trans m10⟩⟩
    rw [upd_ne (ne_of_none e hLH)]
    exact t10 _ _ (d9 y o ne e)
   ·exact absurd rfl z0
  ·rintro σ H9 ⟨v, rfl, a9, d9, e9, k⟩
   rcases k with ⟨z, _⟩ | ⟨M, _, hM, k1, k2⟩
   ·exact absurd z (by decide)
   ·refine q6 ?_
    refine ea rfl (gF (v := .int 0) e9 T.l_Dealing T.n_Dealing_begun_at (by kernel_rfl) ⟨small_line (show 2 ≤ 100000 by decide), fun t ht => ?_⟩)
    have t11 : Same H9 (upd H9 t (.tup opnF)) := Same.new ht
    have u11 : upd H9 t (.tup opnF) t = some (.tup opnF) := upd_same
    have ntd : t ≠ d := (ne_of_none e9 ht).symm
    generalize upd H9 t (.tup opnF) = H11 at t11 u11 ⊢
    refine ea rfl (pF (fs' := dlF n sc b L t) (t11 _ _ e9) T.l_Dealing T.n_Dealing_fate_now (show (5 : Nat) < 1000 by decide) (by kernel_rfl) fun H12 e12 c12 => ?_)
    have nMd : M ≠ d := ne_of k2 e9 (fun z => nomatch z)
    exact q H12 sc b L M t (d9.trans ((Ch1.of t11).trans c12)) e12 (c12 _ _ hLd (t11 _ _ k1)) (c12 _ _ nMd (t11 _ _ k2)) hLH hM (c12 _ _ ntd u11)
end
theorem at0 {α : Type} (x : α) (r : List α) : atI (x :: r) 0 = some x := by
 unfold atI ixN
 rw [if_pos (by decide), if_pos (by rw [List.length_cons]; omega)]
 rfl
def sp_Dealing_need_not_over (C Co : Addr) : Sp := fun vs H Q E => ∃ (H0 : Hp) (d no : Addr) (n : Int) (f : Str) (r : List V), vs = [.ref d] ∧ Deal C H0 H no d n (.str f :: r) ∧ (f = "open" → Q .non H) ∧ (f ≠ "open" → Comes Co H E [("number", .int n)])
def sp_Dealing_written (C : Addr) : Sp := fun vs H Q _ => ∃ (H0 : Hp) (d no : Addr) (n : Int) (F : List V), vs = [.ref d] ∧ Deal C H0 H no d n F ∧ ∀ (l : Addr) (H' : Hp), H l = none → Same H H' → H' l = some (.lst []) → Q (.ref l) H'
def sp_Dealing_fate (C : Addr) : Sp := fun vs H Q _ => ∃ (H0 : Hp) (d no : Addr) (n : Int) (F : List V), vs = [.ref d] ∧ Deal C H0 H no d n F ∧ ∀ t : Addr, H t = some (.tup F) → Q (.ref t) H
def sp_Dealing_end_broken (C : Addr) : Sp := fun vs H Q _ => ∃ (H0 : Hp) (d no : Addr) (n : Int) (F : List V), vs = [.ref d] ∧ Deal C H0 H no d n F ∧ ∀ H' : Hp, Ch1 d H H' → Deal C H0 H' no d n brkF → Q .non H'
def sp_Dealing_end_kept (C : Addr) : Sp := fun vs H Q _ => ∃ (H0 : Hp) (d no : Addr) (n : Int) (F : List V), vs = [.ref d, .non] ∧ Deal C H0 H no d n F ∧ ∀ H' : Hp, Ch1 d H H' → Deal C H0 H' no d n kptF → Q .non H'
section
variable {P : Program} {w : World} {K : PySem.W.Frag} {mg : Str → Option Value} {base : Heap}
theorem ok_Dealing_fate (T : Txt K mg) : FnOk P w K mg base CX0 1 T.Dealing_fate.f T.Dealing_fate.fd ["self"] (sp_Dealing_fate T.C_Dealing) := by
 refine T.Dealing_fate.fn.ok sc_Dealing_fate (fun vs H Q E h => ?_) (fun cdv A outer s H vs Q E hr h => ?_)
 ·obtain ⟨H0, d, no, n, F, rfl, _⟩ := h
  rfl
 ·obtain ⟨H0, d, no, n, F, rfl, ⟨dx, sc, b, L, M, t, _, e, _, _, _, _, et⟩, q⟩ := h
  refine ⟨_, ((pss_one (ps_ret (pe_fldK (K := K) rfl (pv 0) rfl)))), ?_⟩
  exact ea rfl (gF (v := .ref t) e T.l_Dealing T.n_Dealing_fate_now (by kernel_rfl) (q t et))
theorem ok_Dealing_end_broken (T : Txt K mg) : FnOk P w K mg base CX0 1 T.Dealing_end_broken.f T.Dealing_end_broken.fd ["self"] (sp_Dealing_end_broken T.C_Dealing) := by
 refine T.Dealing_end_broken.fn.ok sc_Dealing_end_broken (fun vs H Q E h => ?_) (fun cdv A outer s H vs Q E hr h => ?_)
 ·obtain ⟨H0, d, no, n, F, rfl, _⟩ := h
  rfl
 ·obtain ⟨H0, d, no, n, F, rfl, ⟨dx, sc, b, L, M, t, n0, e, eL, eM, nL, nM, et⟩, q⟩ := h
  refine ⟨_, ((pss_one (ps_fld (pv 0) (pe_tup (pa_cons pe_str (pa_cons (pe_fldK (K := K) rfl (pv 0) rfl) pa_nil))) rfl))), ?_⟩
  refine ea rfl (gF (v := .int 0) e T.l_Dealing T.n_Dealing_begun_at (by kernel_rfl) ⟨small_line (show 2 ≤ 100000 by decide), fun t2 ht => ?_⟩)
  have s1 : Same H (upd H t2 (.tup brkF)) := Same.new ht
  have u1 : upd H t2 (.tup brkF) t2 = some (.tup brkF) := upd_same
  have nt : t2 ≠ d := (ne_of_none e ht).symm
  generalize upd H t2 (.tup brkF) = H1 at s1 u1 ⊢
  refine ea rfl (pF (fs' := dlF n sc b L t2) (s1 _ _ e) T.l_Dealing T.n_Dealing_fate_now (show (6 : Nat) < 1000 by decide) (by kernel_rfl) fun H2 e2 c2 => ?_)
  refine q H2 ((Ch1.of s1).trans c2) ⟨dx, sc, b, L, M, t2, n0, e2, c2 _ _ ?_ (s1 _ _ eL), c2 _ _ ?_ (s1 _ _ eM), nL, nM, c2 _ _ nt u1⟩
  ·exact ne_of eL e (fun z => nomatch z)
  ·exact ne_of eM e (fun z => nomatch z)
theorem ok_Dealing_end_kept (T : Txt K mg) : FnOk P w K mg base CX0 1 T.Dealing_end_kept.f T.Dealing_end_kept.fd ["self", "make"] (sp_Dealing_end_kept T.C_Dealing) := by
 refine T.Dealing_end_kept.fn.ok sc_Dealing_end_kept (fun vs H Q E h => ?_) (fun cdv A outer s H vs Q E hr h => ?_)
 ·obtain ⟨H0, d, no, n, F, rfl, _⟩ := h
  rfl
 ·obtain ⟨H0, d, no, n, F, rfl, ⟨dx, sc, b, L, M, t, n0, e, eL, eM, nL, nM, et⟩, q⟩ := h
  refine ⟨_, ((pss_one (ps_fld (pv 0) (pe_tup (pa_cons pe_str (pa_cons (pe_fldK (K := K) rfl (pv 0) rfl) (pa_cons (pv 1) pa_nil)))) rfl))), ?_⟩
  refine ea rfl (gF (v := .int 0) e T.l_Dealing T.n_Dealing_begun_at (by kernel_rfl) (ea rfl ⟨small_line (show 3 ≤ 100000 by decide), fun t2 ht => ?_⟩))
  have s1 : Same H (upd H t2 (.tup kptF)) := Same.new ht
  have u1 : upd H t2 (.tup kptF) t2 = some (.tup kptF) := upd_same
  have nt : t2 ≠ d := (ne_of_none e ht).symm
  generalize upd H t2 (.tup kptF) = H1 at s1 u1 ⊢
  refine ea rfl (pF (fs' := dlF n sc b L t2) (s1 _ _ e) T.l_Dealing T.n_Dealing_fate_now (show (6 : Nat) < 1000 by decide) (by kernel_rfl) fun H2 e2 c2 => ?_)
  refine q H2 ((Ch1.of s1).trans c2) ⟨dx, sc, b, L, M, t2, n0, e2, c2 _ _ ?_ (s1 _ _ eL), c2 _ _ ?_ (s1 _ _ eM), nL, nM, c2 _ _ nt u1⟩
  ·exact ne_of eL e (fun z => nomatch z)
  ·exact ne_of eM e (fun z => nomatch z)
theorem ok_Dealing_need_not_over (T : Txt K mg) : FnOk P w K mg base (CX1 P w) 3 T.Dealing_need_not_over.f T.Dealing_need_not_over.fd ["self"] (sp_Dealing_need_not_over T.C_Dealing T.C_Over) := by
 have G_Over___init__ : FnOk P w K mg base CX0 1 T.Over___init__.f T.Over___init__.fd _ _ := ok_Over___init__ T
 refine T.Dealing_need_not_over.fn.ok1 sc_Dealing_need_not_over (fun vs H Q E h => ?_) (fun cdv A outer s H vs Q E hr h => ?_)
 ·obtain ⟨H0, d, no, n, f, r, rfl, _⟩ := h
  rfl
 ·obtain ⟨H0, d, no, n, f, r, rfl, ⟨dx, sc, b, L, M, t, n0, e, eL, eM, nL, nM, et⟩, q1, q2⟩ := h
  refine ⟨_, ((pss_one (ps_if (pt_cmpR op_ne (pe_ix (ix_tupK (K := K) rfl) (pe_fldK (K := K) rfl (pv 0) rfl) pe_int (fun _ _ => rfl)) pe_str (nomark _)) (pss_one (ps_raiseI T.k_Over G_Over___init__ (hr.mono (by decide)) rfl T.c_Over T.Over___init__.bi (pa_cons (pe_fldK (K := K) rfl (pv 0) rfl) pa_nil))) pss_nil))), ?_⟩
  refine ea rfl (gF (v := .ref t) e T.l_Dealing T.n_Dealing_fate_now (by kernel_rfl) (ixTc (v := .str f) (SqT.of et) (at0 _ _) ⟨rfl, ea rfl (ite2 (fun z => ?_) (fun z => ?_))⟩))
  ·have nf : f ≠ "open" := fun e => by subst e; exact absurd z (by decide)
   refine ea rfl (gF (v := .int n) e T.l_Dealing T.n_Dealing_number (by kernel_rfl) (fun a ha => ⟨a, ea rfl ⟨rfl, upd_same, fun x hx ne => ⟨rfl, a, x, rfl, (made_step ha hx ne).2.1, ?_⟩⟩⟩))
   obtain ⟨s2, e2⟩ := raise_step (fs := [("number", .int n)]) ha hx ne
   exact q2 nf x _ s2 e2
  ·refine q1 ?_
   simp only [Bool.not_eq_true, Bool.not_eq_false', decide_eq_true_eq] at z
   injection z
theorem ok_Dealing_written (T : Txt K mg) : FnOk P w K mg base CX0 1 T.Dealing_written.f T.Dealing_written.fd ["self"] (sp_Dealing_written T.C_Dealing) := by
 refine T.Dealing_written.fn.ok sc_Dealing_written (fun vs H Q E h => ?_) (fun cdv A outer s H vs Q E hr h => ?_)
 ·obtain ⟨H0, d, no, n, F, rfl, _⟩ := h
  rfl
 ·obtain ⟨H0, d, no, n, F, rfl, ⟨dx, sc, b, L, M, t, n0, e, eL, eM, nL, nM, et⟩, q⟩ := h
  have hu1 := hu_of hr
  refine ⟨_, ((pss_cons (ps_set (i := 1) sc_Dealing_written.nd rfl (Or.inl rfl) (pe_lst pa_nil))
   (pss_cons (ps_for PassesOwn.never rfl (pi_listK (K := K) rfl (pe_callB (call_sortedDS rfl) (by rfl) T.b_sorted bt_sorted (pa_cons (pe_fldK (K := K) rfl (pv 0) rfl) pa_nil))) (pg_name (i := 2) sc_Dealing_written.nd rfl (Or.inr rfl)) (pss_cons (ps_set (i := 3) sc_Dealing_written.nd rfl (Or.inr rfl) (pe_dget hu1 (pe_fldK (K := K) rfl (pv 0) rfl) (pv 2) (fun _ _ => rfl)))
   (pss_one (ps_expr (pe_bmK (K := K) rfl PySem.F.plainAttrs_list PySem.F.slot_list_extend PySem.F.type_list_extend mt_extend (pv 1) (pa_cons (pe_comp (N := ["key", "table", "laid"]) (own := 1) (caps := [2, 3]) rfl (by kernel_rfl) (by kernel_rfl) (pi_listK (K := K) rfl (pe_callB (call_sortedDS rfl) (by rfl) T.b_sorted bt_sorted (pa_cons (pv 3) pa_nil))) (fun _ _ _ _ _ => pg_name (i := 0) (show List.Nodup (["key", "table", "laid"] : List Str) by decide +kernel) rfl (Or.inl rfl)) (fun _ _ _ _ _ => pts_nil) (fun _ _ _ _ _ => (pe_tup (pa_cons (pv 1) (pa_cons (pv 0) (pa_cons (pe_dget hu1 (pv 2) (pv 0) (fun _ _ => rfl)) pa_nil)))))) pa_nil))))))
   (pss_one (ps_ret (pv 1)))))), ?_⟩
  refine sq1 fun R1 q1 => ?_
  refine ⟨Nat.zero_le _, fun l hl => q1 ?_⟩
  have s1 : Same H (upd H l (.lst [])) := Same.new hl
  have u1 : upd H l (.lst []) l = some (.lst []) := upd_same
  generalize upd H l (.lst []) = H1 at s1 u1 ⊢
  refine sq1 fun R2 q2 => ?_
  refine ea rfl (gF (v := .ref L) (s1 _ _ e) T.l_Dealing T.n_Dealing_laid_over (by kernel_rfl) ⟨L, _, [("t" : Str)], rfl, s1 _ _ eL, rfl, by decide, fun l2 ms hl2 pm _ => ?_⟩)
  have em : ms = [("t" : Str)] := List.perm_singleton.mp pm
  subst em
  have s2 : Same H1 (upd H1 l2 (.lst [V.str "t"])) := Same.new hl2
  have u2 : upd H1 l2 (.lst [V.str "t"]) l2 = some (.lst [V.str "t"]) := upd_same
  refine ⟨l2, rfl, ⟨_, SqL.of u2⟩, ?_⟩
  have u3 := s2 _ _ u1
  have s3 : Same H (upd H1 l2 (.lst [V.str "t"])) := s1.trans s2
  have nl : l2 ≠ l := (ne_of_none u1 hl2).symm
  refine for_list (K := K) (a := l2) (xs := [V.str "t"]) (fun i σ H9 => ∃ v v2 : Option V, σ = [some (.ref d), some (.ref l), v, v2] ∧ H9 l2 = some (.lst [V.str "t"]) ∧ H9 l = some (.lst []) ∧ Same H H9) ⟨_, _, rfl, u2, u3, s3⟩ ?_ ?_ ?_
  ·rintro i σ H9 _ ⟨v, v2, rfl, a, _⟩
   exact SqL.of a
  ·rintro i x σ H9 hi ⟨v, v2, rfl, a9, l9, s9⟩
   have hi0 : i = 0 := by
    have := (List.getElem?_eq_some_iff.mp hi).1
    simpa using this
   subst hi0
   cases hi
   have get : DGet H9 L (.str "t") (some (.ref M)) := DGet.k (k := Sum.inr "t") (s9 _ _ eL)
   refine ea rfl (gF (v := .ref L) (s9 _ _ e) T.l_Dealing T.n_Dealing_laid_over (by kernel_rfl) (ea rfl ⟨L, _, rfl, get, ?_⟩))
   refine ea rfl ⟨.inl ⟨rfl, _, SqL.of l9⟩, ea rfl ⟨M, [], [], rfl, s9 _ _ eM, rfl, by decide, fun l3 ms hl3 pm _ => ?_⟩⟩
   have em : ms = [] := List.perm_nil.mp pm
   subst em
   have s10 : Same H9 (upd H9 l3 (.lst [])) := Same.new hl3
   have u10 : upd H9 l3 (.lst []) l3 = some (.lst []) := upd_same
   refine ⟨l3, rfl, ⟨_, SqL.of u10⟩, fun D hD => ?_⟩
   have s11 : Same (upd H9 l3 (.lst [])) (upd (upd H9 l3 (.lst [])) D (.lst [])) := Same.new hD
   refine comp_by (J := Itl K l3) 0 (fun _ _ H4 => H4 = upd (upd H9 l3 (.lst [])) D (.lst [])) rfl (fun _ _ _ z => absurd z (Nat.not_lt_zero _)) (fun τ H4 e4 => ?_) (fun _ _ _ _ _ z => absurd z (Nat.not_lt_zero _)) (fun τ H4 e4 => ?_)
   ·subst e4
    exact ⟨_, SqL.of (s11 _ _ u10), Nat.le_refl _⟩
   ·subst e4
    have sA : Same H9 (upd (upd H9 l3 (.lst [])) D (.lst [])) := s10.trans s11
    refine ⟨l, D, [], [], rfl, rfl, sA _ _ l9, upd_same, Nat.zero_le _, ?_⟩
    have nD : D ≠ l := (ne_of_none (s10 _ _ l9) hD).symm
    refine ⟨_, _, rfl, ?_, upd_same, fun b o e => ?_⟩
    ·rw [upd_ne nl]
     exact sA _ _ a9
    ·rw [upd_ne (ne_of_none e hl)]
     exact sA _ _ (s9 b o e)
  ·rintro σ H9 ⟨v, v2, rfl, a9, l9, s9⟩
   exact q2 (ea rfl (q l H9 hl s9 l9))
end
theorem bi1_Makes {K : PySem.W.Frag} {mg : Str → Option Value} (T : Txt K mg) : Binds K T.Makes___init__.fd ["self", "schema", "rows"] [.none] := by
 obtain ⟨oc, od, kV, doc, pm, an, cdv, ct, osl, efd, lk, hcd⟩ := T.Makes___init__.fn.ex
 rw [efd]
 intro s us hK hl
 have hl2 : us.length = 2 := by simpa using hl
 match us, hl2 with
 | [x, y], _ =>
  refine BindsTo.of_defaults (T := T.Makes___init__.t) (o := T.Makes___init__.o) (items := #[.none]) (n := T.Makes___init__.n) (k := ?k) rfl (hK _ _ T.Makes___init__.lo) T.Makes___init__.da ?h1 ?h2
  case h1 => rfl
  case h2 => rfl
theorem Ch1.kept {H H' : Hp} {x C dx : Addr} {fs : List (Str × V)} (hx : H x = some (.ins C dx fs)) (c : Ch1 x H H') : Kept H H' :=
 ⟨fun b _ e => c _ _ (ne_of e hx (fun z => nomatch z)) e, fun b _ e => c _ _ (ne_of e hx (fun z => nomatch z)) e, fun b _ _ e => c _ _ (ne_of e hx (fun z => nomatch z)) e, fun b _ e => c _ _ (ne_of e hx (fun z => nomatch z)) e⟩
theorem SchemaAt.ch {C C' x dx : Addr} {fs : List (Str × V)} {H H' : Hp} {p : Addr} {tabs : List Tab} {ords : List Col} (h : SchemaAt C H p tabs ords) (hx : H x = some (.ins C' dx fs)) (ne : p ≠ x) (c : Ch1 x H H') : SchemaAt C H' p tabs ords := by
 have k := Ch1.kept hx c
 obtain ⟨dx, tt, oo, dd, o, ts, cas, rs, a, b, e, d, f, g⟩ := h
 exact ⟨dx, tt, oo, dd, o, ts, cas, rs, c _ _ ne a, k.fr _ _ _ b, e.kept k, k.tu _ _ d, f.kept k, k.dk _ _ g⟩
def sp_Makes___init__ (C Cs : Addr) : Sp := fun vs H Q _ => ∃ (p dx sc : Addr), vs = [.ref p, .ref sc, .non] ∧ H p = some (.ins C dx []) ∧ SchemaAt Cs H sc tb1 [] ∧ sc ≠ p ∧ ∀ H', Ch1 p H H' → MakesAt C Cs H' p → Q .non H'
def sp_Dealings___init__ (C : Addr) : Sp := fun vs H Q _ => ∃ (p dx mk : Addr), vs = [.ref p, .ref mk] ∧ H p = some (.ins C dx []) ∧ ∀ (H' : Hp) (no wb : Addr), Ch1 p H H' → H no = none → H' p = some (.ins C dx (dsF mk 0 no wb)) → H' no = some (.dK []) → Q .non H'
section
variable {P : Program} {w : World} {K : PySem.W.Frag} {mg : Str → Option Value} {base : Heap}
theorem ok_Dealings___init__ (T : Txt K mg) : FnOk P w K mg base CX0 1 T.Dealings___init__.f T.Dealings___init__.fd ["self", "makes"] (sp_Dealings___init__ T.C_Dealings) := by
 refine T.Dealings___init__.fn.ok sc_Dealings___init__ (fun vs H Q E h => ?_) (fun cdv A outer s H vs Q E hr h => ?_)
 ·obtain ⟨p, dx, mk, rfl, _⟩ := h
  rfl
 ·obtain ⟨p, dx, mk, rfl, hp, q⟩ := h
  refine ⟨_, ((pss_cons (ps_fld (pv 0) (pv 1) rfl)
   (pss_cons (ps_fld (pv 0) pe_int rfl)
   (pss_cons (ps_fld (pv 0) pe_dnewK rfl)
   (pss_one (ps_fld (pv 0) pe_dnewK rfl)))))), ?_⟩
  refine sq1 fun R1 q1 => ?_
  refine ea rfl (ea rfl (pF (fs' := [("makes", .ref mk)]) hp T.l_Dealings T.n_Dealings_makes (show (0 : Nat) < 1000 by decide) rfl fun H1 e1 c1 => q1 ?_))
  refine sq1 fun R2 q2 => ?_
  refine ea rfl (pF (fs' := [("makes", .ref mk), ("begun_many", .int 0)]) e1 T.l_Dealings T.n_Dealings_begun_many (show (1 : Nat) < 1000 by decide) (by kernel_rfl) fun H2 e2 c2 => q2 ?_)
  have d2 := c1.trans c2
  refine sq1 fun R3 q3 => ?_
  intro no hno
  obtain ⟨h0, hnp⟩ := d2.none e2 hno
  have t3 : Same H2 (upd H2 no (.dK [])) := Same.new hno
  have u3 : upd H2 no (.dK []) no = some (.dK []) := upd_same
  generalize upd H2 no (.dK []) = H3 at t3 u3 ⊢
  refine ea rfl (pF (fs' := [("makes", .ref mk), ("begun_many", .int 0), ("not_over", .ref no)]) (t3 _ _ e2) T.l_Dealings T.n_Dealings_not_over (show (2 : Nat) < 1000 by decide) (by kernel_rfl) fun H4 e4 c4 => q3 ?_)
  intro wb hwb
  have t5 : Same H4 (upd H4 wb (.dK [])) := Same.new hwb
  generalize upd H4 wb (.dK []) = H5 at t5 ⊢
  refine ea rfl (pF (fs' := dsF mk 0 no wb) (t5 _ _ e4) T.l_Dealings T.n_Dealings_written_by (show (3 : Nat) < 1000 by decide) (by kernel_rfl) fun H6 e6 c6 => ?_)
  exact q H6 no wb (d2.trans ((Ch1.of t3).trans (c4.trans ((Ch1.of t5).trans c6)))) h0 e6 (c6 _ _ hnp (t5 _ _ (c4 _ _ hnp u3)))
theorem ok_Makes___init__ (T : Txt K mg) : FnOk P w K mg base CX0 3 T.Makes___init__.f T.Makes___init__.fd ["self", "schema", "rows"] (sp_Makes___init__ T.C_Makes T.C_Schema) := by
 have G_Schema_table_names : FnOk P w K mg base CX0 1 T.Schema_table_names.f T.Schema_table_names.fd _ _ := ok_Schema_table_names T
 refine T.Makes___init__.fn.ok sc_Makes___init__ (fun vs H Q E h => ?_) (fun cdv A outer s H vs Q E hr h => ?_)
 ·obtain ⟨p, dx, sc, rfl, _⟩ := h
  rfl
 ·obtain ⟨p, dx, sc, rfl, hp, hS, hsc, q⟩ := h
  have hu1 := hu_of hr
  refine ⟨_, ((pss_cons (ps_fld (pv 0) (pv 1) rfl)
   (pss_cons (ps_fld (pv 0) pe_int rfl)
   (pss_cons (ps_fld (pv 0) (pe_disp (pps_cons pe_int pe_bl pps_nil) rfl rfl (fun z => nomatch z) (by decide)) rfl)
   (pss_cons (ps_fld (pv 0) pe_dnewK rfl)
   (pss_cons (ps_fld (pv 0) pe_dnewK rfl)
   (pss_cons (ps_for PassesOwn.never rfl (pi_listK (K := K) rfl (pe_mown0 T.l_Schema G_Schema_table_names (hr.mono (by decide)) (pv 1))) (pg_name (i := 3) sc_Makes___init__.nd rfl (Or.inl rfl)) (pss_cons (ps_dput hu1 (pe_fldK (K := K) rfl (pv 0) rfl) (pv 3) pe_dnewK rfl)
   (pss_one (ps_dput hu1 (pe_fldK (K := K) rfl (pv 0) rfl) (pv 3) pe_dnewK rfl))))
   (pss_cons (ps_set (i := 4) sc_Makes___init__.nd rfl (Or.inl rfl) (pe_ifExp (pt_cmp (pc_isN (pv 2))) pe_dnewK (pv 2)))
   (pss_one (ps_forD PassesOwn.never rfl (pi_dict (pv 4)) (pg_name (i := 3) sc_Makes___init__.nd rfl (Or.inl rfl)) (pss_cons ps_never
   (pss_one ps_never)))))))))))), ?_⟩
  refine sq1 fun R1 q1 => ?_
  refine ea rfl (ea rfl (pF (fs' := [("schema", .ref sc)]) hp T.l_Makes T.n_Makes_schema (show (0 : Nat) < 1000 by decide) rfl fun H1 e1 c1 => q1 ?_))
  refine sq1 fun R2 q2 => ?_
  refine ea rfl (pF (fs' := [("schema", .ref sc), ("last", .int 0)]) e1 T.l_Makes T.n_Makes_last (show (1 : Nat) < 1000 by decide) (by kernel_rfl) fun H2 e2 c2 => q2 ?_)
  refine sq1 fun R3 q3 => ?_
  intro st hst
  refine ⟨upd_same, [(.inl 0, .bl true)], rfl, by decide, ?_⟩
  rw [upd_upd]
  have t3 : Same H2 (upd H2 st (.dK (mergeK [] [(.inl 0, .bl true)]))) := Same.new hst
  generalize upd H2 st (.dK (mergeK [] [(.inl 0, .bl true)])) = H3 at t3 ⊢
  refine ea rfl (pF (fs' := [("schema", .ref sc), ("last", .int 0), ("still_told", .ref st)]) (t3 _ _ e2) T.l_Makes T.n_Makes_still_told (show (2 : Nat) < 1000 by decide) (by kernel_rfl) fun H4 e4 c4 => q3 ?_)
  refine sq1 fun R4 q4 => ?_
  have d4 : Ch1 p H H4 := (c1.trans c2).trans ((Ch1.of t3).trans c4)
  intro sr hsr
  have nsr : sr ≠ p := (ne_of_none e4 hsr).symm
  have t5 : Same H4 (upd H4 sr (.dK [])) := Same.new hsr
  have u5 : upd H4 sr (.dK []) sr = some (.dK []) := upd_same
  generalize upd H4 sr (.dK []) = H5 at t5 u5 ⊢
  refine ea rfl (pF (fs' := [("schema", .ref sc), ("last", .int 0), ("still_told", .ref st), ("stretches", .ref sr)]) (t5 _ _ e4) T.l_Makes T.n_Makes_stretches (show (3 : Nat) < 1000 by decide) (by kernel_rfl) fun H6 e6 c6 => q4 ?_)
  have u6 := c6 _ _ nsr u5
  refine sq1 fun R5 q5 => ?_
  intro lw hlw
  have nlw : lw ≠ p := (ne_of_none e6 hlw).symm
  have nls : lw ≠ sr := (ne_of_none u6 hlw).symm
  have t7 : Same H6 (upd H6 lw (.dK [])) := Same.new hlw
  have u7 : upd H6 lw (.dK []) lw = some (.dK []) := upd_same
  generalize upd H6 lw (.dK []) = H7 at t7 u7 ⊢
  refine ea rfl (pF (fs' := mkF sc st sr lw) (t7 _ _ e6) T.l_Makes T.n_Makes_last_written (show (4 : Nat) < 1000 by decide) (by kernel_rfl) fun H8 e8 c8 => q5 ?_)
  have d6 : Ch1 p H H6 := d4.trans ((Ch1.of t5).trans c6)
  have d8 : Ch1 p H H8 := d6.trans ((Ch1.of t7).trans c8)
  have v8 := c8 _ _ nsr (t7 _ _ u6)
  have w8 := c8 _ _ nlw u7
  have fsr : H sr = none := (d4.none e4 hsr).1
  have flw : H lw = none := (d6.none e6 hlw).1
  have S8 := hS.ch hp hsc d8
  refine sq1 fun R6 q6 => ?_
  obtain ⟨sdx, tt, oo, dd, so, ts, cas, rs, sa, sb⟩ := id S8
  refine ea rfl ⟨sc, _, _, rfl, sa, by kernel_rfl, sc, tb1, [], rfl, S8, tb1_ok, fun l H9 hl t9 e9 => ?_⟩
  refine ⟨l, rfl, ⟨_, SqL.of e9⟩, ?_⟩
  have e9' : H9 l = some (.lst [V.str "t"]) := e9
  have nlsr : l ≠ sr := (ne_of_none v8 hl).symm
  have nllw : l ≠ lw := (ne_of_none w8 hl).symm
  refine for_list (K := K) (a := l) (xs := [V.str "t"]) (fun i σ Ha => ∃ v : Option V, σ = [some (.ref p), some (.ref sc), some .non, v, none, none] ∧ Ha l = some (.lst [V.str "t"]) ∧ Ch1 p H Ha ∧ Ha p = some (.ins T.C_Makes dx (mkF sc st sr lw)) ∧ (i = 0 → Ha sr = some (.dK []) ∧ Ha lw = some (.dK [])))
   ⟨_, rfl, e9', d8.trans (Ch1.of t9), t9 _ _ e8, fun _ => ⟨t9 _ _ v8, t9 _ _ w8⟩⟩ ?_ ?_ ?_
  ·rintro i σ Ha _ ⟨v, rfl, a, _⟩
   exact SqL.of a
  ·rintro i x σ Ha hi ⟨v, rfl, a9, da, ep, k⟩
   have hi0 : i = 0 := by
    have := (List.getElem?_eq_some_iff.mp hi).1
    simpa using this
   subst hi0
   cases hi
   obtain ⟨k1, k2⟩ := k rfl
   refine sq1 fun R7 q7 => ?_
   intro m1 hm1
   have tb : Same Ha (upd Ha m1 (.dK [])) := Same.new hm1
   generalize upd Ha m1 (.dK []) = Hb at tb ⊢
   refine ea rfl (gF (v := .ref sr) (tb _ _ ep) T.l_Makes T.n_Makes_stretches (by kernel_rfl) (ea rfl ⟨sr, _, rfl, .inl ⟨_, .inr "t", tb _ _ k1, rfl, (show (0 : Nat) < sizeLine from small_line1 (by decide)), rfl⟩, q7 ?_⟩))
   have cb : ∀ b o, b ≠ sr → Hb b = some o → upd Hb sr (.dK (putK [] (.inr "t") (.ref m1))) b = some o := fun b o n e => (upd_ne n).trans e
   generalize upd Hb sr (.dK (putK [] (.inr "t") (.ref m1))) = Hc at cb ⊢
   intro m2 hm2
   have td : Same Hc (upd Hc m2 (.dK [])) := Same.new hm2
   generalize upd Hc m2 (.dK []) = Hd at td ⊢
   have pc := cb _ _ nsr.symm (tb _ _ ep)
   refine ea rfl (gF (v := .ref lw) (td _ _ pc) T.l_Makes T.n_Makes_last_written (by kernel_rfl) (ea rfl ⟨lw, _, rfl, .inl ⟨_, .inr "t", td _ _ (cb _ _ nls (tb _ _ k2)), rfl, (show (0 : Nat) < sizeLine from small_line1 (by decide)), rfl⟩, ?_⟩))
   refine ⟨_, rfl, (upd_ne nllw).trans (td _ _ (cb _ _ nlsr (tb _ _ a9))), fun b o n e => ?_, (upd_ne nlw.symm).trans (td _ _ pc), fun z => absurd z (by decide)⟩
   rw [upd_ne (ne_of_none e flw)]
   exact td _ _ (cb _ _ (ne_of_none e fsr) (tb _ _ (da b o n e)))
  ·rintro σ Ha ⟨v, rfl, a9, da, ep, _⟩
   refine q6 ?_
   refine sq1 fun R8 q8 => ?_
   refine ea rfl (ea rfl (ite2 (fun _ f0 hf0 => q8 ?_) (fun z => absurd (decide_eq_true rfl) z)))
   have tb : Same Ha (upd Ha f0 (.dK [])) := Same.new hf0
   have ub : upd Ha f0 (.dK []) f0 = some (.dK []) := upd_same
   have nf0 : f0 ≠ p := (ne_of_none ep hf0).symm
   have ff0 := (da.none ep hf0).1
   generalize upd Ha f0 (.dK []) = Hb at tb ub ⊢
   refine ea rfl ⟨f0, [], rfl, ub, fun ob nof => ?_⟩
   have uc : upd Hb f0 (.frz ob (.dK [])) f0 = some (.frz ob (.dK [])) := upd_same
   have cc : ∀ b o, b ≠ f0 → Hb b = some o → upd Hb f0 (.frz ob (.dK [])) b = some o := fun b o n e => (upd_ne n).trans e
   generalize upd Hb f0 (.frz ob (.dK [])) = Hc at uc cc ⊢
   refine for_dict (a := f0) (ob := ob) (kvs := []) (fun _ σ Hx => Hx = Hc) rfl (fun i σ Hx _ e => by subst e; exact uc) (fun i p σ Hx e => nomatch e) (fun σ Hx e => ?_)
   have e' := e.symm
   subst e'
   refine ⟨f0, ob, [], nof, uc, ?_⟩
   have dz : Ch1 p H (upd Hc f0 (.dK [])) := fun b o n e => by
    have nb := ne_of_none e ff0
    rw [upd_ne nb]
    exact cc _ _ nb (tb _ _ (da b o n e))
   exact q _ dz ⟨dx, sc, st, sr, lw, (upd_ne nf0.symm).trans (cc _ _ nf0.symm (tb _ _ ep)), hS.ch hp hsc dz⟩
end
def sp_Dealings_begin (C Cm Cs Cd Ct : Addr) : Sp := fun vs H Q E => ∃ (H0 : Hp) (D no mk : Addr) (n : Int) (op : List (Int × Addr)), vs = [.ref D] ∧ DsAt C Cm Cs H0 H D no mk n op ∧ (n + 1) ∉ op.map (·.1) ∧ op.length ≤ 12 ∧
 ((12 ≤ op.length ∨ 400 ≤ n) → E (.ref Ct) none H) ∧
 (op.length < 12 → n < 400 → ∀ (H' : Hp) (d : Addr), H d = none → Ch2 D no H H' → DsAt C Cm Cs H0 H' D no mk (n + 1) (op ++ [(n + 1, d)]) → Deal Cd H0 H' no d (n + 1) opnF → Q (.ref d) H')
def sp_Dealings_open_list (C Cm Cs : Addr) : Sp := fun vs H Q _ => ∃ (H0 : Hp) (D no mk : Addr) (n : Int) (op : List (Int × Addr)), vs = [.ref D] ∧ DsAt C Cm Cs H0 H D no mk n op ∧ op.length ≤ 12 ∧
 ∀ (l : Addr) (ms : List Int), H l = none → ms.Perm (op.map (·.1)) → ms.Pairwise (· ≤ ·) → Q (.ref l) (upd H l (.lst (ms.map V.int)))
def sp_Dealings_may_keep (C Cm Cs Cd Co : Addr) : Sp := fun vs H Q E => ∃ (H0 : Hp) (D d no mk : Addr) (n k : Int) (op : List (Int × Addr)) (f : Str) (r : List V), vs = [.ref D, .ref d] ∧ DsAt C Cm Cs H0 H D no mk n op ∧ Deal Cd H0 H no d k (.str f :: r) ∧
 (f = "open" → ∀ H', Same H H' → Q .non H') ∧ (f ≠ "open" → Comes Co H E [("number", .int k)])
def sp_ends (C Cm Cs Cd Co : Addr) (F : List V) : Sp := fun vs H Q E => ∃ (H0 : Hp) (D d no mk : Addr) (n k : Int) (op : List (Int × Addr)) (f : Str) (r : List V), vs = [.ref D, .ref d] ∧ DsAt C Cm Cs H0 H D no mk n op ∧ Deal Cd H0 H no d k (.str f :: r) ∧
 (f = "open" → k ∈ op.map (·.1) ∧ ∀ H', Ch2 d no H H' → H' no = some (.dK (opD (ofN k op))) → Deal Cd H0 H' no d k F → Q .non H') ∧ (f ≠ "open" → Comes Co H E [("number", .int k)])
theorem Deal.same {C : Addr} {H0 H H' : Hp} {no d : Addr} {n : Int} {F : List V} (h : Deal C H0 H no d n F) (s : Same H H') : Deal C H0 H' no d n F := by
 obtain ⟨dx, sc, b, L, M, t, n0, e, eL, eM, nL, nM, et⟩ := h
 exact ⟨dx, sc, b, L, M, t, n0, s _ _ e, s _ _ eL, s _ _ eM, nL, nM, s _ _ et⟩
theorem DsAt.same {C Cm Cs : Addr} {H0 H H' : Hp} {D no mk : Addr} {n : Int} {op : List (Int × Addr)} (h : DsAt C Cm Cs H0 H D no mk n op) (s : Same H H') : DsAt C Cm Cs H0 H' D no mk n op := by
 obtain ⟨dx, wb, a, b, c, d, e, f⟩ := h
 exact ⟨dx, wb, fun b o z => (a b o z).imp (s _ _) (fun y => ⟨y.1, y.2.imp fun _ => s _ _⟩), b, c, d, s _ _ e, s _ _ f⟩
section
variable {P : Program} {w : World} {K : PySem.W.Frag} {mg : Str → Option Value} {base : Heap}
theorem ok_Dealings_open_list (T : Txt K mg) : FnOk P w K mg base CX0 1 T.Dealings_open_list.f T.Dealings_open_list.fd ["self"] (sp_Dealings_open_list T.C_Dealings T.C_Makes T.C_Schema) := by
 refine T.Dealings_open_list.fn.ok sc_Dealings_open_list (fun vs H Q E h => ?_) (fun cdv A outer s H vs Q E hr h => ?_)
 ·obtain ⟨H0, D, no, mk, n, op, rfl, _⟩ := h
  rfl
 ·obtain ⟨H0, D, no, mk, n, op, rfl, ⟨dx, wb, _, _, _, _, eD, eno⟩, l12, q⟩ := h
  refine ⟨_, ((pss_one (ps_ret (pe_callB (call_sortedDI rfl) (by rfl) T.b_sorted bt_sorted (pa_cons (pe_fldK (K := K) rfl (pv 0) rfl) pa_nil))))), ?_⟩
  refine ea rfl (gF (v := .ref no) eD T.l_Dealings T.n_Dealings_not_over (by kernel_rfl) ⟨no, _, op.map (·.1), rfl, eno, ?_, ?_, fun l ms hl pm so => q l ms hl pm so⟩)
  ·unfold opD
   rw [List.map_map, List.map_map]
   rfl
  ·rw [List.length_map]
   omega
theorem ok_Dealings_begin (T : Txt K mg) : FnOk P w K mg base (CX1 P w) 6 T.Dealings_begin.f T.Dealings_begin.fd ["self"] (sp_Dealings_begin T.C_Dealings T.C_Makes T.C_Schema T.C_Dealing T.C_TooMany) := by
 have G_Dealing___init__ : FnOk P w K mg base CX0 3 T.Dealing___init__.f T.Dealing___init__.fd _ _ := ok_Dealing___init__ T
 refine T.Dealings_begin.fn.ok1 sc_Dealings_begin (fun vs H Q E h => ?_) (fun cdv A outer s H vs Q E hr h => ?_)
 ·obtain ⟨H0, D, no, mk, n, op, rfl, _⟩ := h
  rfl
 ·obtain ⟨H0, D, no, mk, n, op, rfl, ⟨dx, wb, sm, hm, nD, nno, eD, eno⟩, hn, l12, hx, q⟩ := h
  have hu1 := hu_of hr
  refine ⟨_, ((pss_cons (ps_if (PW.pt (pw_or (pt_cmpR op_ge (pe_callB call_lenD (by rfl) T.b_len bt_len (pa_cons (pe_fldK (K := K) rfl (pv 0) rfl) pa_nil)) (pe_glob rfl T.c_MOST_AT_ONCE (T.r_MOST_AT_ONCE)) (nomark _)) (pw_or1 (pt_cmpR op_ge (pe_fldK (K := K) rfl (pv 0) rfl) (pe_glob rfl T.c_MOST_IN_ALL (T.r_MOST_IN_ALL)) (nomark _))))) (pss_one (ps_raise rfl T.c_TooMany T.x_TooMany)) pss_nil)
   (pss_cons (ps_fldaug (pv 0) pe_int in_add)
   (pss_cons (ps_set (i := 1) sc_Dealings_begin.nd rfl (Or.inl rfl) (pe_make T.k_Dealing G_Dealing___init__ (hr.mono (by decide)) rfl T.c_Dealing T.Dealing___init__.bi .nil pass0 (pa_cons (pe_fldK (K := K) rfl (pv 0) rfl) (pa_cons (pe_fldK (K := K) rfl (pv 0) rfl) pa_nil))))
   (pss_cons (ps_dput hu1 (pe_fldK (K := K) rfl (pv 0) rfl) (pe_fldK (K := K) rfl (pv 1) rfl) (pv 1) rfl)
   (pss_one (ps_ret (pv 1)))))))), ?_⟩
  refine sq1 fun R1 q1 => ?_
  refine ea rfl (gF (v := .ref no) eD T.l_Dealings T.n_Dealings_not_over (by kernel_rfl) ⟨no, _, rfl, eno, ⟨_, _, rfl, rfl, ea rfl ?_⟩⟩)
  refine ite2 (fun z => iteT (hx (.inl ?_))) (fun z => ea rfl (gF (v := .int n) eD T.l_Dealings T.n_Dealings_begun_many (by kernel_rfl) ⟨_, _, rfl, rfl, ea rfl (ite2 (fun z2 => hx (.inr ?_)) (fun z2 => q1 ?_))⟩))
  ·rw [op_len] at z
   have := of_decide_eq_true z
   omega
  ·exact of_decide_eq_true z2
  rw [op_len] at z
  have l1 : op.length < 12 := by
   have : ¬ (12 : Int) ≤ op.length := fun y => z (decide_eq_true y)
   omega
  have n1 : n < 400 := by
   have : ¬ (400 : Int) ≤ n := fun y => z2 (decide_eq_true y)
   omega
  have nnD : no ≠ D := ne_of eno eD (fun z => nomatch z)
  refine sq1 fun R2 q2 => ?_
  refine ea rfl ⟨D, _, dx, _, .int n, rfl, eD, T.l_Dealings, T.n_Dealings_begun_many, by kernel_rfl, n, 1, rfl, rfl, dx, _, eD, (show (4 : Nat) < 1000 by decide), q2 ?_⟩
  have e1 : upd H D (.ins T.C_Dealings dx (putF "begun_many" (.int (n + 1)) (dsF mk n no wb))) D = some (.ins T.C_Dealings dx (dsF mk (n + 1) no wb)) := by
   rw [upd_same]
   kernel_rfl
  have c1 : Ch1 D H (upd H D (.ins T.C_Dealings dx (putF "begun_many" (.int (n + 1)) (dsF mk n no wb)))) := fun b o ne e => (upd_ne ne).trans e
  generalize upd H D (.ins T.C_Dealings dx (putF "begun_many" (.int (n + 1)) (dsF mk n no wb))) = H1 at e1 c1 ⊢
  have s1 : Sm H0 H1 := sm.ch nD c1
  refine sq1 fun R3 q3 => ?_
  refine ea rfl (gF (v := .int (n + 1)) e1 T.l_Dealings T.n_Dealings_begun_many (by kernel_rfl) (ea rfl (gF (v := .ref mk) e1 T.l_Dealings T.n_Dealings_makes (by kernel_rfl) fun x xx hx1 hxx nx => ?_)))
  have sx : Same H1 (upd (upd H1 xx (.own x)) x (.ins T.C_Dealing xx [])) := mk_same hx1 hxx fun _ _ _ e => e
  have sm2 : Sm H0 (upd (upd H1 xx (.own x)) x (.ins T.C_Dealing xx [])) := fun b o z => (s1 b o z).imp (sx _ _) (fun y => ⟨y.1, y.2.imp fun _ => sx _ _⟩)
  have n0x : H0 x = none := s1.none hx1
  have hmkx : mk ≠ x := by
   obtain ⟨mdx, sc, st, sr, lw, ma, _⟩ := hm
   exact ne_of_none ma n0x
  refine ⟨x, xx, mk, n + 1, rfl, upd_same, hm.sm sm2, hmkx, ⟨H0, sm2, n0x, hm⟩, fun H2 sc b L M t c2 e2 eL eM fL fM et => ⟨rfl, q3 ?_⟩⟩
  have t2 : Same H1 H2 := mk_same hx1 hxx c2
  have eno1 := c1 _ _ nnD eno
  have eno2 := t2 _ _ eno1
  have nLno : L ≠ no := (ne_of_none (sx _ _ eno1) fL).symm
  have nMno : M ≠ no := (ne_of_none (sx _ _ eno1) fM).symm
  have nxno : x ≠ no := (ne_of_none eno1 hx1).symm
  have nxD : x ≠ D := (ne_of_none e1 hx1).symm
  have ntno : t ≠ no := ne_of et eno2 (fun z => nomatch z)
  refine sq1 fun R4 q4 => ?_
  refine ea rfl (ea rfl (gF (v := .ref no) (t2 _ _ e1) T.l_Dealings T.n_Dealings_not_over (by kernel_rfl) (ea rfl (gF (v := .int (n + 1)) e2 T.l_Dealing T.n_Dealing_number (by kernel_rfl) ⟨no, _, rfl, .inl ⟨_, .inl (n + 1), eno2, rfl, ?_, rfl⟩, q4 ?_⟩))))
  ·rw [op_len]
   exact small_line1 (by omega)
  ·rw [op_put hn]
   have c3 : ∀ b o, b ≠ no → H2 b = some o → upd H2 no (.dK (opD (op ++ [(n + 1, x)]))) b = some o := fun b o ne e => (upd_ne ne).trans e
   have u3 : upd H2 no (.dK (opD (op ++ [(n + 1, x)]))) no = some (.dK (opD (op ++ [(n + 1, x)]))) := upd_same
   generalize upd H2 no (.dK (opD (op ++ [(n + 1, x)]))) = H3 at c3 u3 ⊢
   have C2 : Ch2 D no H H3 := fun b o n1 n2 e => c3 _ _ n2 (t2 _ _ (c1 _ _ n1 e))
   have hxH : H x = none := (c1.none e1 hx1).1
   refine ea rfl (q l1 n1 H3 x hxH C2 ⟨dx, wb, sm.ch2 nD nno C2, hm, nD, nno, c3 _ _ nnD.symm (t2 _ _ e1), u3⟩ ⟨xx, sc, b, L, M, t, n0x, c3 _ _ nxno e2, c3 _ _ nLno eL, c3 _ _ nMno eM, nLno, nMno, c3 _ _ ntno et⟩)
theorem ok_Dealings_may_keep (T : Txt K mg) : FnOk P w K mg base (CX1 P w) 4 T.Dealings_may_keep.f T.Dealings_may_keep.fd ["self", "dealing"] (sp_Dealings_may_keep T.C_Dealings T.C_Makes T.C_Schema T.C_Dealing T.C_Over) := by
 have G_Dealing_need_not_over : FnOk P w K mg base (CX1 P w) 3 T.Dealing_need_not_over.f T.Dealing_need_not_over.fd _ _ := ok_Dealing_need_not_over T
 have G_Dealing_written : FnOk P w K mg base CX0 1 T.Dealing_written.f T.Dealing_written.fd _ _ := ok_Dealing_written T
 refine T.Dealings_may_keep.fn.ok1 sc_Dealings_may_keep (fun vs H Q E h => ?_) (fun cdv A outer s H vs Q E hr h => ?_)
 ·obtain ⟨H0, D, d, no, mk, n, k, op, f, r, rfl, _⟩ := h
  rfl
 ·obtain ⟨H0, D, d, no, mk, n, k, op, f, r, rfl, hD, hd, q1, q2⟩ := h
  obtain ⟨ddx, sc, b, L, M, t, n0, ed, _⟩ := id hd
  refine ⟨_, ((pss_cons (ps_expr (pe_mown10 T.l_Dealing G_Dealing_need_not_over (hr.mono (by decide)) (pv 1)))
   (pss_one (ps_quiet (ps_for PassesOwn.never rfl (pi_listK (K := K) rfl (pe_mown0 T.l_Dealing G_Dealing_written (hr.mono (by decide)) (pv 1))) (pg_tupK (K := K) (n := 3) rfl rfl (pgs_cons ((pg_name (i := 2) sc_Dealings_may_keep.nd rfl (Or.inl rfl))) (pgs_cons ((pg_name (i := 3) sc_Dealings_may_keep.nd rfl (Or.inl rfl))) (pgs_cons ((pg_name (i := 4) sc_Dealings_may_keep.nd rfl (Or.inl rfl))) pgs_nil)))) (pss_cons ps_never
   (pss_one ps_never))))))), ?_⟩
  refine sq1 fun R1 p1 => ?_
  refine ea rfl ⟨d, _, _, rfl, ed, by kernel_rfl, H0, d, no, k, f, r, rfl, hd, fun ef => p1 ?_, q2⟩
  refine ea rfl ⟨d, _, _, rfl, ed, by kernel_rfl, H0, d, no, k, _, rfl, hd, fun l H1 hl s1 e1 => ?_⟩
  refine ⟨l, rfl, ⟨_, SqL.of e1⟩, ?_⟩
  refine for_list (K := K) (a := l) (xs := []) (fun i σ Ha => Ha = H1) rfl (fun i σ Ha _ e => by rw [e]; exact SqL.of e1) (fun i x σ Ha e => nomatch e) (fun σ Ha e => ?_)
  rw [e]
  exact q1 ef H1 s1
theorem ok_Dealings_settled (T : Txt K mg) : FnOk P w K mg base (CX1 P w) 4 T.Dealings_settled.f T.Dealings_settled.fd ["self", "dealing"] (sp_ends T.C_Dealings T.C_Makes T.C_Schema T.C_Dealing T.C_Over kptF) := by
 have G_Dealing_need_not_over : FnOk P w K mg base (CX1 P w) 3 T.Dealing_need_not_over.f T.Dealing_need_not_over.fd _ _ := ok_Dealing_need_not_over T
 have G_Dealing_written : FnOk P w K mg base CX0 1 T.Dealing_written.f T.Dealing_written.fd _ _ := ok_Dealing_written T
 have G_Dealing_end_kept : FnOk P w K mg base CX0 1 T.Dealing_end_kept.f T.Dealing_end_kept.fd _ _ := ok_Dealing_end_kept T
 refine T.Dealings_settled.fn.ok1 sc_Dealings_settled (fun vs H Q E h => ?_) (fun cdv A outer s H vs Q E hr h => ?_)
 ·obtain ⟨H0, D, d, no, mk, n, k, op, f, r, rfl, _⟩ := h
  rfl
 ·obtain ⟨H0, D, d, no, mk, n, k, op, f, r, rfl, hD, hd, q1, q2⟩ := h
  obtain ⟨ddx, sc, b, L, M, t, n0, ed, _⟩ := id hd
  obtain ⟨dx, wb, sm, hm, nD, nno, eD, eno⟩ := id hD
  have nDd : D ≠ d := ne_of eD ed (fun z => by injection z with _ _ z; injection z with z; injection z with z; exact absurd z (by decide))
  have nnd : no ≠ d := ne_of eno ed (fun z => nomatch z)
  refine ⟨_, ((pss_cons (ps_expr (pe_mown10 T.l_Dealing G_Dealing_need_not_over (hr.mono (by decide)) (pv 1)))
   (pss_cons (ps_set (i := 2) sc_Dealings_settled.nd rfl (Or.inl rfl) (pe_mown0 T.l_Dealing G_Dealing_written (hr.mono (by decide)) (pv 1)))
   (pss_cons (ps_set (i := 3) sc_Dealings_settled.nd rfl (Or.inl rfl) pe_non)
   (pss_cons (ps_if (pt_lstK (K := K) rfl (pv 2)) (pss_cons ps_never
   (pss_one ps_never)) pss_nil)
   (pss_cons (ps_expr (pe_mown T.l_Dealing G_Dealing_end_kept (hr.mono (by decide)) (pv 1) (pa_cons (pv 3) pa_nil)))
   (pss_one (ps_expr (pe_dpop1 (pe_fldK (K := K) rfl (pv 0) rfl) (pe_fldK (K := K) rfl (pv 1) rfl) ⟨rfl, rfl, rfl, rfl⟩))))))))), ?_⟩
  refine sq1 fun R1 p1 => ?_
  refine ea rfl ⟨d, _, _, rfl, ed, by kernel_rfl, H0, d, no, k, f, r, rfl, hd, fun ef => p1 ?_, q2⟩
  obtain ⟨km, q⟩ := q1 ef
  obtain ⟨v0, ev⟩ := op_val km
  refine sq1 fun R2 p2 => ?_
  refine ea rfl ⟨d, _, _, rfl, ed, by kernel_rfl, H0, d, no, k, _, rfl, hd, fun l H1 hl s1 e1 => p2 ?_⟩
  refine sq1 fun R3 p3 => ?_
  refine p3 ?_
  refine sq1 fun R4 p4 => ?_
  refine ea rfl ⟨l, [], rfl, SqL.of e1, iteF (p4 ?_)⟩
  refine sq1 fun R5 p5 => ?_
  refine ea rfl ⟨d, _, _, rfl, s1 _ _ ed, by kernel_rfl, ea rfl ⟨H0, d, no, k, _, rfl, hd.same s1, fun H2 c2 hd2 => p5 ?_⟩⟩
  obtain ⟨ddx2, sc2, b2, L2', M2, t2, _, ed2, _⟩ := id hd2
  have eno2 := c2 _ _ nnd (s1 _ _ eno)
  refine ea rfl (gF (v := .ref no) (c2 _ _ nDd (s1 _ _ eD)) T.l_Dealings T.n_Dealings_not_over (by kernel_rfl) ⟨no, rfl, .inl ⟨_, .inl eno2⟩, ea rfl (gF (v := .int k) ed2 T.l_Dealing T.n_Dealing_number (by kernel_rfl) ⟨_, .inl k, v0, eno2, rfl, ev, ?_⟩)⟩)
  rw [op_drop]
  have c3 : ∀ b o, b ≠ no → H2 b = some o → upd H2 no (.dK (opD (ofN k op))) b = some o := fun b o ne e => (upd_ne ne).trans e
  have u3 : upd H2 no (.dK (opD (ofN k op))) no = some (.dK (opD (ofN k op))) := upd_same
  generalize upd H2 no (.dK (opD (ofN k op))) = H3 at c3 u3 ⊢
  refine q H3 (fun b o n1 n2 e => c3 _ _ n2 (c2 _ _ n1 (s1 _ _ e))) u3 ?_
  obtain ⟨dx9, sc9, b9, L9, M9, t9, n9, e9, eL9, eM9, nL9, nM9, et9⟩ := hd2
  exact ⟨dx9, sc9, b9, L9, M9, t9, n9, c3 _ _ (Ne.symm nnd) e9, c3 _ _ nL9 eL9, c3 _ _ nM9 eM9, nL9, nM9, c3 _ _ (ne_of et9 eno2 (fun z => nomatch z)) et9⟩
theorem ok_Dealings_broken (T : Txt K mg) : FnOk P w K mg base (CX1 P w) 4 T.Dealings_broken.f T.Dealings_broken.fd ["self", "dealing"] (sp_ends T.C_Dealings T.C_Makes T.C_Schema T.C_Dealing T.C_Over brkF) := by
 have G_Dealing_need_not_over : FnOk P w K mg base (CX1 P w) 3 T.Dealing_need_not_over.f T.Dealing_need_not_over.fd _ _ := ok_Dealing_need_not_over T
 have G_Dealing_end_broken : FnOk P w K mg base CX0 1 T.Dealing_end_broken.f T.Dealing_end_broken.fd _ _ := ok_Dealing_end_broken T
 refine T.Dealings_broken.fn.ok1 sc_Dealings_broken (fun vs H Q E h => ?_) (fun cdv A outer s H vs Q E hr h => ?_)
 ·obtain ⟨H0, D, d, no, mk, n, k, op, f, r, rfl, _⟩ := h
  rfl
 ·obtain ⟨H0, D, d, no, mk, n, k, op, f, r, rfl, hD, hd, q1, q2⟩ := h
  obtain ⟨ddx, sc, b, L, M, t, n0, ed, _⟩ := id hd
  obtain ⟨dx, wb, sm, hm, nD, nno, eD, eno⟩ := id hD
  have nDd : D ≠ d := ne_of eD ed (fun z => by injection z with _ _ z; injection z with z; injection z with z; exact absurd z (by decide))
  have nnd : no ≠ d := ne_of eno ed (fun z => nomatch z)
  refine ⟨_, ((pss_cons (ps_expr (pe_mown10 T.l_Dealing G_Dealing_need_not_over (hr.mono (by decide)) (pv 1)))
   (pss_cons (ps_expr (pe_mown0 T.l_Dealing G_Dealing_end_broken (hr.mono (by decide)) (pv 1)))
   (pss_one (ps_expr (pe_dpop1 (pe_fldK (K := K) rfl (pv 0) rfl) (pe_fldK (K := K) rfl (pv 1) rfl) ⟨rfl, rfl, rfl, rfl⟩)))))), ?_⟩
  refine sq1 fun R1 p1 => ?_
  refine ea rfl ⟨d, _, _, rfl, ed, by kernel_rfl, H0, d, no, k, f, r, rfl, hd, fun ef => p1 ?_, q2⟩
  obtain ⟨km, q⟩ := q1 ef
  obtain ⟨v0, ev⟩ := op_val km
  refine sq1 fun R5 p5 => ?_
  refine ea rfl ⟨d, _, _, rfl, ed, by kernel_rfl, H0, d, no, k, _, rfl, hd, fun H2 c2 hd2 => p5 ?_⟩
  obtain ⟨ddx2, sc2, b2, L2', M2, t2, _, ed2, _⟩ := id hd2
  have eno2 := c2 _ _ nnd eno
  refine ea rfl (gF (v := .ref no) (c2 _ _ nDd eD) T.l_Dealings T.n_Dealings_not_over (by kernel_rfl) ⟨no, rfl, .inl ⟨_, .inl eno2⟩, ea rfl (gF (v := .int k) ed2 T.l_Dealing T.n_Dealing_number (by kernel_rfl) ⟨_, .inl k, v0, eno2, rfl, ev, ?_⟩)⟩)
  rw [op_drop]
  have c3 : ∀ b o, b ≠ no → H2 b = some o → upd H2 no (.dK (opD (ofN k op))) b = some o := fun b o ne e => (upd_ne ne).trans e
  have u3 : upd H2 no (.dK (opD (ofN k op))) no = some (.dK (opD (ofN k op))) := upd_same
  generalize upd H2 no (.dK (opD (ofN k op))) = H3 at c3 u3 ⊢
  refine q H3 (fun b o n1 n2 e => c3 _ _ n2 (c2 _ _ n1 e)) u3 ?_
  obtain ⟨dx9, sc9, b9, L9, M9, t9, n9, e9, eL9, eM9, nL9, nM9, et9⟩ := hd2
  exact ⟨dx9, sc9, b9, L9, M9, t9, n9, c3 _ _ (Ne.symm nnd) e9, c3 _ _ nL9 eL9, c3 _ _ nM9 eM9, nL9, nM9, c3 _ _ (ne_of et9 eno2 (fun z => nomatch z)) et9⟩
theorem ok_Dealings_keep_it (T : Txt K mg) : FnOk P w K mg base (CX1 P w) 5 T.Dealings_keep_it.f T.Dealings_keep_it.fd ["self", "dealing"] (sp_ends T.C_Dealings T.C_Makes T.C_Schema T.C_Dealing T.C_Over kptF) := by
 have G_Dealings_may_keep : FnOk P w K mg base (CX1 P w) 4 T.Dealings_may_keep.f T.Dealings_may_keep.fd _ _ := ok_Dealings_may_keep T
 have G_Dealings_settled : FnOk P w K mg base (CX1 P w) 4 T.Dealings_settled.f T.Dealings_settled.fd _ _ := ok_Dealings_settled T
 refine T.Dealings_keep_it.fn.ok1 sc_Dealings_keep_it (fun vs H Q E h => ?_) (fun cdv A outer s H vs Q E hr h => ?_)
 ·obtain ⟨H0, D, d, no, mk, n, k, op, f, r, rfl, _⟩ := h
  rfl
 ·obtain ⟨H0, D, d, no, mk, n, k, op, f, r, rfl, hD, hd, q1, q2⟩ := h
  obtain ⟨dx, wb, sm, hm, nD, nno, eD, eno⟩ := id hD
  refine ⟨_, ((pss_cons (ps_expr (pe_mown1 T.l_Dealings G_Dealings_may_keep (hr.mono (by decide)) (pv 0) (pa_cons (pv 1) pa_nil)))
   (pss_one (ps_expr (pe_mown1 T.l_Dealings G_Dealings_settled (hr.mono (by decide)) (pv 0) (pa_cons (pv 1) pa_nil)))))), ?_⟩
  refine sq1 fun R1 p1 => ?_
  refine ea rfl ⟨D, _, _, rfl, eD, by kernel_rfl, ea rfl ⟨H0, D, d, no, mk, n, k, op, f, r, rfl, hD, hd, fun ef H1 s1 => p1 ?_, q2⟩⟩
  refine ea rfl ⟨D, _, _, rfl, s1 _ _ eD, by kernel_rfl, ea rfl ⟨H0, D, d, no, mk, n, k, op, f, r, rfl, hD.same s1, hd.same s1, fun ef => ⟨(q1 ef).1, fun H2 c2 => (q1 ef).2 H2 ((Ch2.of s1).trans c2)⟩, fun nf => (q2 nf).of s1⟩⟩
end
def sp__law_at (K : PySem.W.Frag) : Sp := fun vs H Q _ => ∃ (a : Addr) (ns : List Int) (k : Int), vs = [.ref a, .int k] ∧ SqL K H a (ns.map V.int) ∧ 0 ≤ k ∧ ∀ z : Int, Q (.int z) H
def sp__law_mix : Sp := fun vs H Q _ => ∃ c k : Int, vs = [.int c, .int k] ∧ 0 ≤ k ∧ k ≤ 1 ∧ ∀ z : Int, 0 ≤ z → Q (.int z) H
def goL (op : List (Int × Addr)) : List V := op.map fun p => .ref p.2
def sp__law_begun (C Cm Cs Cd : Addr) : Sp := fun vs H Q _ => ∃ (H0 : Hp) (D no mk g : Addr) (n : Int) (op : List (Int × Addr)), vs = [.ref D, .int n, .ref g] ∧ DsAt C Cm Cs H0 H D no mk n op ∧ (n + 1) ∉ op.map (·.1) ∧ op.length ≤ 12 ∧ n ≤ 400 ∧ H g = some (.lst (goL op)) ∧
 ((op.length = 12 ∨ n = 400) → ∀ (H' : Hp) (l : Addr), Same H H' → H' l = some (.lst [.bl true, .non]) → Q (.ref l) H') ∧
 (op.length < 12 → n < 400 → ∀ (H' : Hp) (d l : Addr), H d = none → Ch2 D no H H' → DsAt C Cm Cs H0 H' D no mk (n + 1) (op ++ [(n + 1, d)]) → Deal Cd H0 H' no d (n + 1) opnF → H' l = some (.lst [.bl true, .ref d]) → Q (.ref l) H')
section
variable {P : Program} {w : World} {K : PySem.W.Frag} {mg : Str → Option Value} {base : Heap}
theorem ok__law_at (T : Txt K mg) : FnOk P w K mg base CX0 1 T._law_at.f T._law_at.fd ["_law_script", "_law_k"] (sp__law_at K) := by
 refine T._law_at.fn.ok sc__law_at (fun vs H Q E h => ?_) (fun cdv A outer s H vs Q E hr h => ?_)
 ·obtain ⟨a, ns, k, rfl, _⟩ := h
  rfl
 ·obtain ⟨a, ns, k, rfl, hs, hk, q⟩ := h
  refine ⟨_, ((pss_cons (ps_if (pt_cmpR op_lt (pv 1) (pe_callB (call_len_seqK (K := K) rfl) (by rfl) T.b_len bt_len (pa_cons (pv 0) pa_nil)) (nomark _)) (pss_one (ps_ret (pe_ix (ix_listK (K := K) rfl) (pv 0) (pv 1) (fun _ _ => rfl)))) pss_nil)
   (pss_one (ps_ret pe_int)))), ?_⟩
  refine sq1 fun R1 p1 => ?_
  refine ea rfl (ea rfl ⟨_, _, rfl, .inl hs, ⟨_, _, rfl, rfl, ea rfl (ite2 (fun z => ?_) (fun z => p1 (q _)))⟩⟩)
  have z' := of_decide_eq_true z
  rw [List.length_map] at z'
  exact ea rfl (ea rfl (ixL hs (atI_ints hk z') (q _)))
theorem ok__law_mix (T : Txt K mg) : FnOk P w K mg base CX0 1 T._law_mix.f T._law_mix.fd ["_law_cell", "_law_k"] sp__law_mix := by
 refine T._law_mix.fn.ok sc__law_mix (fun vs H Q E h => ?_) (fun cdv A outer s H vs Q E hr h => ?_)
 ·obtain ⟨c, k, rfl, _⟩ := h
  rfl
 ·obtain ⟨c, k, rfl, k0, k1, q⟩ := h
  refine ⟨_, ((pss_cons (ps_set (i := 2) sc__law_mix.nd rfl (Or.inl rfl) (pv 0))
   (pss_cons (ps_if (pt_cmpR op_ge (pv 0) (pe_op op_pow pe_int pe_int) (nomark _)) (pss_cons (ps_for PassesOwn.never rfl (pi_range1 rfl T.b_range (pa_cons (pv 1) pa_nil)) (pg_name (i := 3) sc__law_mix.nd rfl (Or.inl rfl)) (pss_one (ps_set (i := 2) sc__law_mix.nd rfl (Or.inl rfl) (pe_op op_fdivB (pv 2) pe_int))))
   (pss_one (ps_if (pt_cmpR op_gt (pv 2) pe_int (nomark _)) (pss_one (ps_ret (pe_op op_mod (pv 2) pe_int))) pss_nil))) pss_nil)
   (pss_cons (ps_set (i := 4) sc__law_mix.nd rfl (Or.inl rfl) (pe_op op_mod (pe_op op_mul (pe_op op_add (pe_op op_add (pe_op op_mod (pv 0) pe_int) (pe_op op_mul pe_int (pv 1))) pe_int) (pe_op op_add (pe_op op_add (pe_op op_mod (pv 0) pe_int) (pe_op op_mul pe_int (pv 1))) pe_int)) pe_int))
   (pss_one (ps_ret (pe_op op_mod (pe_op op_mul (pv 4) (pv 4)) pe_int))))))), ?_⟩
  refine sq1 fun R1 p1 => ?_
  refine ea rfl (p1 ?_)
  refine sq1 fun R2 p2 => ?_
  have rest : ∀ r x : Option V, R2 { nx := fun _ H' => Q .non H', rt := Q } [some (.int c), some (.int k), r, x, none] H := fun r x => by
   refine p2 ?_
   refine sq1 fun R3 p3 => ?_
   refine ea rfl ⟨c, 1000003, rfl, rfl, (show (0 : Int) < 1000003 by decide), ea rfl ⟨31, k, rfl, rfl, .inl ⟨by decide, by decide⟩, _, _, rfl, rfl, _, _, rfl, rfl, ?_⟩⟩
   refine ea rfl ⟨c, 65537, rfl, rfl, (show (0 : Int) < 65537 by decide), ea rfl ⟨7919, k, rfl, rfl, .inl ⟨by decide, by decide⟩, _, _, rfl, rfl, _, _, rfl, rfl, ?_⟩⟩
   refine ⟨_, _, rfl, rfl, .inl ⟨by omega, by omega⟩, _, _, rfl, rfl, (show (0 : Int) < 2147483629 by decide), p3 ?_⟩
   generalize (c % 1000003 + 31 * k + 7) * (c % 65537 + 7919 * k + 11) = y
   have d0 : 0 ≤ y % 2147483629 := Int.emod_nonneg _ (by decide)
   have d1 : y % 2147483629 < 2147483629 := Int.emod_lt_of_pos _ (by decide)
   refine ea rfl (ea rfl ⟨_, _, rfl, rfl, .inl ⟨by omega, by omega⟩, _, _, rfl, rfl, (show (0 : Int) < 2147483587 by decide), q _ (Int.emod_nonneg _ (by decide))⟩)
  refine ea rfl ⟨10, 18, rfl, rfl, ⟨by decide, by decide, by decide⟩, c, _, rfl, rfl, ea rfl (ite2 (fun z => ?_) (fun z => rest _ _))⟩
  refine sq1 fun R3 p3 => ?_
  refine ea rfl ⟨k, rfl, by omega, by omega, ?_⟩
  refine for_range (fun i σ Ha => Ha = H ∧ ∃ (r : Int) (x : Option V), σ = [some (.int c), some (.int k), some (.int r), x, none]) ⟨rfl, _, _, rfl⟩ ?_ ?_
  ·rintro i σ Ha _ ⟨rfl, r, x, rfl⟩
   exact ea rfl ⟨r, 1009, rfl, rfl, ⟨by decide, by decide⟩, rfl, _, _, rfl⟩
  ·rintro σ Ha ⟨rfl, r, x, rfl⟩
   refine p3 (ea rfl ⟨r, 0, rfl, rfl, ea rfl (ite2 (fun z2 => ?_) (fun z2 => rest _ _))⟩)
   exact ea rfl ⟨r, 1009, rfl, rfl, (show (0 : Int) < 1009 by decide), q _ (Int.emod_nonneg _ (by decide))⟩
theorem ok__law_begun (T : Txt K mg) : FnOk P w K mg base CX0 7 T._law_begun.f T._law_begun.fd ["_law_dealings", "_law_many", "_law_going"] (sp__law_begun T.C_Dealings T.C_Makes T.C_Schema T.C_Dealing) := by
 have G_Dealings_begin : FnOk P w K mg base (CX1 P w) 6 T.Dealings_begin.f T.Dealings_begin.fd _ _ := ok_Dealings_begin T
 refine T._law_begun.fn.ok sc__law_begun (fun vs H Q E h => ?_) (fun cdv A outer s H vs Q E hr h => ?_)
 ·obtain ⟨H0, D, no, mk, g, n, op, rfl, _⟩ := h
  rfl
 ·obtain ⟨H0, D, no, mk, g, n, op, rfl, hD, hn, l12, n400, eg, q1, q2⟩ := h
  obtain ⟨dx, wb, _, _, nD, nno, eD, eno⟩ := id hD
  refine ⟨_, ((pss_cons (ps_set (i := 3) sc__law_begun.nd rfl (Or.inl rfl) pe_non)
   (pss_cons (ps_set (i := 4) sc__law_begun.nd rfl (Or.inl rfl) pe_bl)
   (pss_cons (ps_tryM rfl ⟨rfl, rfl⟩ (fun _ _ => (pss_one (ps_set (i := 3) sc__law_begun.nd rfl (Or.inl rfl) (pe_mownX0 T.l_Dealings G_Dealings_begin rfl (hr.mono (by decide)) (pv 0))))) (hnd_cons (i := 5) rfl rfl rfl ⟨rfl, rfl⟩ rfl T.c_TooMany sc__law_begun.nd rfl rfl (fun _ _ => (pss_one (ps_set (i := 4) sc__law_begun.nd rfl (Or.inl rfl) (pe_callB (call_isY (K := K) rfl) (by rfl) T.b_isinstance bt_isinstance (pa_cons (pv 5) (pa_cons (pe_glob (v := .ref T.C_StoreError) rfl T.c_StoreError rfl) pa_nil)))))) hnd_nil))
   (pss_cons (ps_if (PW.pt (pw_or (pt_cmpR op_eq (pe_callB (call_len_seqK (K := K) rfl) (by rfl) T.b_len bt_len (pa_cons (pv 2) pa_nil)) pe_int (nomark _)) (pw_or1 (pt_cmpR op_eq (pv 1) pe_int (nomark _))))) (pss_one (ps_ret (pe_lst (pa_cons (pe_and (pv 4) (pe_one (pe_cmp (pc_isN (pv 3))))) (pa_cons pe_non pa_nil))))) pss_nil)
   (pss_one (ps_ret (pe_lst (pa_cons (pe_and (pe_cmp (pc_notN (pv 3))) (pe_one (pe_cmpR op_eq (pe_fldK (K := K) rfl (pv 3) rfl) (pe_op op_add (pv 1) pe_int) (nomark _)))) (pa_cons (pv 3) pa_nil)))))))))), ?_⟩
  refine sq1 fun R1 p1 => ?_
  refine p1 ?_
  refine sq1 fun R2 p2 => ?_
  refine p2 ?_
  refine sq1 fun R3 p3 => ?_
  refine ea rfl ⟨D, _, _, rfl, eD, by kernel_rfl, H0, D, no, mk, n, op, rfl, hD, hn, l12, fun full => ?_, fun l1 n1 H1 d hd c1 hD1 hd1 => p3 ?_⟩
  ·refine ⟨⟨_, rfl⟩, T.C_TooMany, rfl, .inl ⟨T.e_tm, fun a ha => ?_⟩⟩
   have sa : Same H (upd H a (excX a T.C_TooMany none false)) := Same.new ha
   refine ea rfl ⟨a, T.C_StoreError, T.C_TooMany, none, false, true, rfl, upd_same, .inl rfl, T.y_TooMany, T.k_tm, p3 ?_⟩
   generalize upd H a (excX a T.C_TooMany none false) = H1 at sa ⊢
   have fin : ∀ {R : VK}, R = Q → tRet (tLst (tCons (tAndV (tVar 4) (tIsN (tVar 3))) (tCons (tC .non) tNil))) { nx := fun _ H' => Q .non H', rt := R } [some (.ref D), some (.int n), some (.ref g), some .non, some (.bl true), none] H1 := fun e => by
    subst e
    refine ea rfl (ea rfl (iteT (ea rfl ⟨small_line (show 2 ≤ 100000 by decide), fun l hl => ?_⟩)))
    refine q1 (by omega) _ l (sa.trans (Same.new hl)) ?_
    rw [upd_same]
    rfl
   refine sq1 fun R4 p4 => ?_
   refine ea rfl ⟨_, _, rfl, .inl (SqL.of (sa _ _ eg)), ⟨rfl, ea rfl (ite2 (fun z => iteT (fin rfl)) (fun z => ea rfl ⟨rfl, ea rfl (ite2 (fun z2 => fin rfl) (fun z2 => ?_))⟩))⟩⟩
   exfalso
   have a1 : op.length ≠ 12 := fun e => z (decide_eq_true (by rw [goL, List.length_map, e]; rfl))
   have a2 : n ≠ 400 := fun e => z2 (decide_eq_true (by rw [e]))
   omega
  ·have eg1 : H1 g = some (.lst (goL op)) := c1 _ _ (ne_of eg eD (fun z => nomatch z)) (ne_of eg eno (fun z => nomatch z)) eg
   obtain ⟨ddx, sc, b, L, M, t, n0, ed, _⟩ := id hd1
   refine sq1 fun R4 p4 => ?_
   have a1 : ¬ V.int ((goL op).length : Nat) = V.int 12 := fun e => by
    injection e with e
    rw [goL, List.length_map] at e
    omega
   have a2 : ¬ V.int n = V.int 400 := fun e => by
    injection e with e
    omega
   refine ea rfl ⟨_, _, rfl, .inl (SqL.of eg1), ⟨rfl, ea rfl (ite2 (fun z => absurd (of_decide_eq_true z) a1) (fun z => ea rfl ⟨rfl, ea rfl (ite2 (fun z2 => absurd (of_decide_eq_true z2) a2) (fun z2 => p4 ?_))⟩))⟩⟩
   refine ea rfl (ea rfl (iteT (ea rfl (gF (v := .int (n + 1)) ed T.l_Dealing T.n_Dealing_number (by kernel_rfl) (ea rfl ⟨_, _, rfl, rfl, rfl, ?_⟩)))))
   rw [decide_eq_true (show V.int (n + 1) = (fun i j : Int => V.int (i + j)) n 1 from rfl)]
   refine ea rfl ⟨small_line (show 2 ≤ 100000 by decide), fun l hl => ?_⟩
   have s2 : Same H1 (upd H1 l (.lst [.bl true, .ref d])) := Same.new hl
   exact q2 (by omega) (by omega) _ d l hd (c1.trans (Ch2.of s2)) (hD1.same s2) (hd1.same s2) upd_same
end
def lamIn : Stmt → Expr
 | .Assign _ (.List (e :: _) _) _ => e
 | .Expr (.Call _ (e :: _) _ _) _ => e
 | _ => .Name "" ⟨0, 0, 0, 0⟩
def lam_ov (j : Nat) : Expr := lamIn ((defBody s__law_over).getD j (.Pass ⟨0, 0, 0, 0⟩))
abbrev lams_ov : List Expr := [lam_ov 0, lam_ov 1, lam_ov 2, lam_ov 3]
abbrev q_ov : Str := "_law_over.<locals>.<lambda>"
theorem lbi_ov : ∀ L ∈ lams_ov, ∀ (cl : List (Str × Addr)) (pm cd ctv : Value) (us : List Value), us.length = (["_law_one"] : List Str).length → bindArgs (PySem.W.kla_fn "<lambda>" q_ov (lamArgs L) (lamBody L) (lamScope L) cl pm cd ctv) ⟨us, []⟩ = pure ((["_law_one"] : List Str).zip us) := by
 intro L hL cl pm cd ctv
 rcases List.mem_cons.mp hL with rfl | hL
 ·exact bs fun _ => b0 rfl
 rcases List.mem_cons.mp hL with rfl | hL
 ·exact bs fun _ => b0 rfl
 rcases List.mem_cons.mp hL with rfl | hL
 ·exact bs fun _ => b0 rfl
 rcases List.mem_cons.mp hL with rfl | hL
 ·exact bs fun _ => b0 rfl
 ·cases hL
def tb_ov {K : PySem.W.Frag} {mg : Str → Option Value} (T : Txt K mg) (j : Nat) (E : XK) : TE := match j with
 | 0 => tMeth T.C_Dealings "may_keep" (sp_Dealings_may_keep T.C_Dealings T.C_Makes T.C_Schema T.C_Dealing T.C_Over) [] E (tVar 1) (tCons (tVar 0) tNil)
 | 1 => tMeth T.C_Dealings "settled" (sp_ends T.C_Dealings T.C_Makes T.C_Schema T.C_Dealing T.C_Over kptF) [] E (tVar 1) (tCons (tVar 0) tNil)
 | 2 => tMeth T.C_Dealings "keep_it" (sp_ends T.C_Dealings T.C_Makes T.C_Schema T.C_Dealing T.C_Over kptF) [] E (tVar 1) (tCons (tVar 0) tNil)
 | _ => tMeth T.C_Dealings "broken" (sp_ends T.C_Dealings T.C_Makes T.C_Schema T.C_Dealing T.C_Over brkF) [] E (tVar 1) (tCons (tVar 0) tNil)
theorem tb_no {K : PySem.W.Frag} {mg : Str → Option Value} (T : Txt K mg) {H0 H : Hp} {D d no mk : Addr} {n k : Int} {op : List (Int × Addr)} {f : Str} {r : List V} {E : XK} {Q : VK} (j : Nat) (hD : DsAt T.C_Dealings T.C_Makes T.C_Schema H0 H D no mk n op) (hd : Deal T.C_Dealing H0 H no d k (.str f :: r)) (nf : f ≠ "open")
  (c : Comes T.C_Over H E [("number", .int k)]) : tb_ov T j E [some (.ref d), some (.ref D)] H Q := by
 obtain ⟨dx, wb, _, _, _, _, eD, _⟩ := id hD
 unfold tb_ov
 split
 ·exact ea rfl ⟨D, dx, _, rfl, eD, by kernel_rfl, ea rfl ⟨H0, D, d, no, mk, n, k, op, f, r, rfl, hD, hd, fun z => absurd z nf, fun _ => c⟩⟩
 ·exact ea rfl ⟨D, dx, _, rfl, eD, by kernel_rfl, ea rfl ⟨H0, D, d, no, mk, n, k, op, f, r, rfl, hD, hd, fun z => absurd z nf, fun _ => c⟩⟩
 ·exact ea rfl ⟨D, dx, _, rfl, eD, by kernel_rfl, ea rfl ⟨H0, D, d, no, mk, n, k, op, f, r, rfl, hD, hd, fun z => absurd z nf, fun _ => c⟩⟩
 ·exact ea rfl ⟨D, dx, _, rfl, eD, by kernel_rfl, ea rfl ⟨H0, D, d, no, mk, n, k, op, f, r, rfl, hD, hd, fun z => absurd z nf, fun _ => c⟩⟩
theorem tbl_wr {H : Hp} {P l : Addr} {q : Str} {xs : List V} {o : HO} (t : Tbl H P q) (h : H l = some (.lst xs)) : Tbl (upd H l o) P q := by
 obtain ⟨ps, e, ok, c⟩ := t
 refine ⟨ps, by rw [upd_ne (ne_of e h (fun z => nomatch z))]; exact e, ok, fun pos v z => ?_⟩
 obtain ⟨d, e1, e2⟩ := c pos v z
 exact ⟨d, e1, by rw [upd_ne (ne_of e2 h (fun z => nomatch z))]; exact e2⟩
theorem tbl_same {H H' : Hp} {P : Addr} {q : Str} (t : Tbl H P q) (s : Same H H') : Tbl H' P q := by
 obtain ⟨ps, e, ok, c⟩ := t
 refine ⟨ps, s _ _ e, ok, fun pos v z => ?_⟩
 obtain ⟨d, e1, e2⟩ := c pos v z
 exact ⟨d, e1, s _ _ e2⟩
theorem lam_wr {H : Hp} {ec : List (Str × Addr)} {f l : Addr} {q : Str} {L : Expr} {xs : List V} {o : HO} (a : LamAt H ec f q L) (h : H l = some (.lst xs)) : LamAt (upd H l o) ec f q L := by
 obtain ⟨c, e1, e2⟩ := a
 exact ⟨c, by rw [upd_ne (ne_of e1 h (fun z => nomatch z))]; exact e1, by rw [upd_ne (ne_of e2 h (fun z => nomatch z))]; exact e2⟩
theorem lam_same {H H' : Hp} {ec : List (Str × Addr)} {f : Addr} {q : Str} {L : Expr} (a : LamAt H ec f q L) (s : Same H H') : LamAt H' ec f q L := by
 obtain ⟨c, e1, e2⟩ := a
 exact ⟨c, s _ _ e1, s _ _ e2⟩
structure Asks (H0 H : Hp) (ec : List (Str × Addr)) (P l : Addr) (fs : List Addr) : Prop where
 kp : Kp P H0 H
 tb : Tbl H P q_ov
 ls : H l = some (.lst (fs.map V.ref))
 nl : H0 l = none
 la : ∀ (j : Nat) (hj : j < fs.length), LamAt H ec fs[j] q_ov (lam_ov j)
theorem Asks.add {H0 H H2 : Hp} {ec : List (Str × Addr)} {P l f : Addr} {fs : List Addr} (a : Asks H0 H ec P l fs) (kp : Kp P H H2) (tb : Tbl H2 P q_ov) (la : LamAt H2 ec f q_ov (lam_ov fs.length)) :
  H2 l = some (.lst (fs.map V.ref)) ∧ Asks H0 (upd H2 l (.lst (fs.map V.ref ++ [.ref f]))) ec P l (fs ++ [f]) := by
 obtain ⟨ps, hP⟩ := a.tb.tbl
 have h2 : H2 l = some (.lst (fs.map V.ref)) := kp _ _ (ne_of a.ls hP (fun z => nomatch z)) a.ls
 refine ⟨h2, fun b u n e => ?_, tbl_wr tb h2, by rw [upd_same, List.map_append]; rfl, a.nl, fun j hj => ?_⟩
 ·rw [upd_ne (ne_of_none e a.nl)]
  exact kp _ _ n (a.kp _ _ n e)
 ·rw [List.length_append] at hj
  by_cases z : j < fs.length
  ·rw [List.getElem_append_left z]
   exact lam_wr ((a.la j z).kp kp ⟨ps, hP⟩) h2
  ·have e : j = fs.length := by
    have : j < fs.length + 1 := hj
    omega
   subst e
   rw [List.getElem_append_right (Nat.le_refl _)]
   simp only [Nat.sub_self, List.getElem_cons_zero]
   exact lam_wr la h2
theorem DsAt.kp {C Cm Cs P : Addr} {H0 H H' : Hp} {D no mk : Addr} {n : Int} {op : List (Int × Addr)} (h : DsAt C Cm Cs H0 H D no mk n op) (k : Kp P H H') (t : Tbl H P q_ov) (t' : Tbl H' P q_ov) : DsAt C Cm Cs H0 H' D no mk n op := by
 obtain ⟨dx, wb, a, b, c, d, e, f⟩ := h
 obtain ⟨ps, hP⟩ := t.tbl
 obtain ⟨ps', hP'⟩ := t'.tbl
 refine ⟨dx, wb, fun b o z => ?_, b, c, d, k _ _ (ne_of e hP (fun z => nomatch z)) e, k _ _ (ne_of f hP (fun z => nomatch z)) f⟩
 by_cases hb : b = P
 ·subst hb
  rcases a b o z with y | ⟨y, _⟩
  ·rw [hP] at y
   cases y
   exact .inr ⟨⟨_, rfl⟩, _, hP'⟩
  ·exact .inr ⟨y, _, hP'⟩
 ·rcases a b o z with y | ⟨y, p2, y2⟩
  ·exact .inl (k _ _ hb y)
  ·exact .inr ⟨y, p2, k _ _ hb y2⟩
theorem Deal.kp {C P : Addr} {H0 H H' : Hp} {no d : Addr} {n : Int} {F : List V} (h : Deal C H0 H no d n F) (k : Kp P H H') (t : Tbl H P q_ov) : Deal C H0 H' no d n F := by
 obtain ⟨dx, sc, b, L, M, t', n0, e, eL, eM, nL, nM, et⟩ := h
 obtain ⟨ps, hP⟩ := t.tbl
 exact ⟨dx, sc, b, L, M, t', n0, k _ _ (ne_of e hP (fun z => nomatch z)) e, k _ _ (ne_of eL hP (fun z => nomatch z)) eL, k _ _ (ne_of eM hP (fun z => nomatch z)) eM, nL, nM, k _ _ (ne_of et hP (fun z => nomatch z)) et⟩
def sp__law_over (C Cm Cs Cd R : Addr) : Sp := fun vs H Q _ => ∃ (H0 : Hp) (D d no mk : Addr) (n k : Int) (op : List (Int × Addr)) (f : Str) (r : List V), vs = [.ref D, .ref d] ∧ DsAt C Cm Cs H0 H D no mk n op ∧ Deal Cd H0 H no d k (.str f :: r) ∧ f ≠ "open" ∧ (∀ v ∈ V.str f :: r, SameV v) ∧ Tbl H R q_ov ∧
 ∀ H', Kp R H H' → Tbl H' R q_ov → Q (.bl true) H'
section
variable {P : Program} {w : World} {K : PySem.W.Frag} {mg : Str → Option Value} {base : Heap}
theorem ok__law_over (T : Txt K mg) (hbm : Bm mg base) : FnOk P w K mg base CX0 8 T._law_over.f T._law_over.fd ["_law_dealings", "_law_deal"] (sp__law_over T.C_Dealings T.C_Makes T.C_Schema T.C_Dealing T.P_ov) := by
 have G_Dealing_fate : FnOk P w K mg base CX0 1 T.Dealing_fate.f T.Dealing_fate.fd _ _ := ok_Dealing_fate T
 refine Fun.okT T._law_over.fn T.m_ov sc__law_over (fun vs H Q E h => ?_) (fun hcd A outer s H vs Q E hr h => ?_)
 ·obtain ⟨H0, D, d, no, mk, n, k, op, f, r, rfl, _⟩ := h
  rfl
 ·obtain ⟨H0, D, d, no, mk, n, k, op, f, r, rfl, hD, hd, nf, same, tbl, q⟩ := h
  have hu0 := hr.units0
  have hu1 := hu_of hr
  have hL : ∀ (pins : List (Addr × Obj)) (j : Nat) (L : Expr), lams_ov[j]? = some L → ∀ (E' : XK) (f : Addr) (cd : Value) (cl : List (Str × Addr)) (s' : Shared) (H' : Hp),
    PE (cxLam ((cxOf CX0 P w K mg base ["_law_dealings", "_law_deal", "_law_asks", "_law_fate", "_law_ask", "_law_told", "e"] "_law_over" (defScope s__law_over) T._law_over.f (.ref T.c_ov) A outer s H E).nox.held pins) ["_law_one", "_law_dealings"] q_ov (lamScope L) f cd cl s' H' E') (lamBody L) (tb_ov T j E') := by
   intro pins j L hj E' f cd cl s' H'
   match j, hj with
   | 0, hj =>
    cases hj
    exact pe_mownL (F := T.Dealings_may_keep) T.l_Dealings (ok_Dealings_may_keep T) ((hr.deeper _).mono (by decide)) (pv 1) (pa_cons (pv 0) pa_nil)
   | 1, hj =>
    cases hj
    exact pe_mownL (F := T.Dealings_settled) T.l_Dealings (ok_Dealings_settled T) ((hr.deeper _).mono (by decide)) (pv 1) (pa_cons (pv 0) pa_nil)
   | 2, hj =>
    cases hj
    exact pe_mownL (F := T.Dealings_keep_it) T.l_Dealings (ok_Dealings_keep_it T) ((hr.deeper _).mono (by decide)) (pv 1) (pa_cons (pv 0) pa_nil)
   | 3, hj =>
    cases hj
    exact pe_mownL (F := T.Dealings_broken) T.l_Dealings (ok_Dealings_broken T) ((hr.deeper _).mono (by decide)) (pv 1) (pa_cons (pv 0) pa_nil)
   | j + 4, hj => cases hj
  refine ⟨_, ((pss_cons (ps_set (i := 2) sc__law_over.nd rfl (Or.inl rfl) (pe_lst (pa_cons (pe_lam (c := T.c_ov) (P := T.P_ov) (q := "_law_over.<locals>.<lambda>") (L := lam_ov 0) rfl rfl rfl hcd hbm rfl rfl) pa_nil)))
   (pss_cons (ps_expr (pe_bmK (K := K) rfl PySem.F.plainAttrs_list PySem.F.slot_list_append PySem.F.type_list_append mt_append (pv 2) (pa_cons (pe_lam (c := T.c_ov) (P := T.P_ov) (q := "_law_over.<locals>.<lambda>") (L := lam_ov 1) rfl rfl rfl hcd hbm rfl rfl) pa_nil)))
   (pss_cons (ps_expr (pe_bmK (K := K) rfl PySem.F.plainAttrs_list PySem.F.slot_list_append PySem.F.type_list_append mt_append (pv 2) (pa_cons (pe_lam (c := T.c_ov) (P := T.P_ov) (q := "_law_over.<locals>.<lambda>") (L := lam_ov 2) rfl rfl rfl hcd hbm rfl rfl) pa_nil)))
   (pss_cons (ps_expr (pe_bmK (K := K) rfl PySem.F.plainAttrs_list PySem.F.slot_list_append PySem.F.type_list_append mt_append (pv 2) (pa_cons (pe_lam (c := T.c_ov) (P := T.P_ov) (q := "_law_over.<locals>.<lambda>") (L := lam_ov 3) rfl rfl rfl hcd hbm rfl rfl) pa_nil)))
   (pss_cons (ps_set (i := 3) sc__law_over.nd rfl (Or.inl rfl) (pe_mown0 T.l_Dealing G_Dealing_fate (hr.mono (by decide)) (pv 1)))
   (pss_cons (ps_for PassesOwn.never rfl (pi_listK (K := K) rfl (pv 2)) (pg_name (i := 4) sc__law_over.nd rfl (Or.inl rfl)) (pss_cons (ps_set (i := 5) sc__law_over.nd rfl (Or.inl rfl) pe_non)
   (pss_cons (ps_tryM rfl ⟨rfl, rfl⟩ (fun _ _ => (pss_one (ps_expr (pe_lamX (Ls := lams_ov) (N := ["_law_one", "_law_dealings"]) (ps := ["_law_one"]) (caps := [0]) (q := "_law_over.<locals>.<lambda>") (tb := tb_ov T) (ec := (envOfC "_law_over" (defScope s__law_over) s.heap.objs.size T._law_over.f (.ref T.c_ov)).cells) rfl rfl hr.depth hr.hd (by kernel_rfl) rfl (by decide) lbi_ov (hL _) (pv 4) (pa_cons (pv 1) pa_nil))))) (hnd_cons (i := 6) rfl rfl rfl ⟨rfl, rfl⟩ rfl T.c_StoreError sc__law_over.nd rfl rfl (fun _ _ => (pss_cons (ps_set (i := 5) sc__law_over.nd rfl (Or.inl rfl) (pe_lst (pa_cons pe_str pa_nil)))
   (pss_one (ps_if (PW.pt (pw_and (pt_val (pe_callB (call_isY (K := K) rfl) (by rfl) T.b_isinstance bt_isinstance (pa_cons (pv 6) (pa_cons (pe_glob (v := .ref T.C_Over) rfl T.c_Over rfl) pa_nil)))) (pw_and1 (pt_not (pt_val (pe_callB (call_isY (K := K) rfl) (by rfl) T.b_isinstance bt_isinstance (pa_cons (pv 6) (pa_cons (pe_glob (v := .ref T.C_NoRow) rfl T.c_NoRow rfl) pa_nil)))))))) (pss_one (ps_set (i := 5) sc__law_over.nd rfl (Or.inl rfl) (pe_lst (pa_cons (pe_xfld (K := K) rfl (pv 6) rfl) pa_nil)))) pss_nil)))) hnd_nil))
   (pss_one (ps_if (PW.pt (pw_or (pt_cmpR (op_neLK (K := K) rfl hu0) (pv 5) (pe_lst (pa_cons (pe_fldK (K := K) rfl (pv 1) rfl) pa_nil)) (nomark _)) (pw_or1 (pt_cmpR (op_neI (K := K) rfl hu1) (pe_mown0 T.l_Dealing G_Dealing_fate (hr.mono (by decide)) (pv 1)) (pv 3) (nomark _))))) (pss_one (ps_ret pe_bl)) pss_nil)))))
   (pss_one (ps_ret pe_bl))))))))), ?_⟩
  refine sq1 fun R1 p1 => ?_
  refine ⟨tbl, fun H1 f0 k1 t1 nf0 la0 => ⟨small_line (show 1 ≤ 100000 by decide), fun l hl => p1 ?_⟩⟩
  have nl : H l = none := by
   cases e : H l with
   | none => rfl
   | some o =>
    by_cases hlP : l = T.P_ov
    ·obtain ⟨ps, hP⟩ := t1.tbl
     rw [hlP, hP] at hl
     cases hl
    ·rw [k1 _ _ hlP e] at hl
     cases hl
  have A1 : Asks H (upd H1 l (.lst [.ref f0])) (envOfC "_law_over" (defScope s__law_over) s.heap.objs.size T._law_over.f (.ref T.c_ov)).cells T.P_ov l [f0] := by
   refine ⟨fun b u n e => (upd_ne (ne_of_none e nl)).trans (k1 _ _ n e), t1.upd hl, upd_same, nl, fun j hj => ?_⟩
   have ej : j = 0 := by
    have : j < 1 := hj
    omega
   subst ej
   exact lam_same la0 (Same.new hl)
  generalize upd H1 l (.lst [.ref f0]) = H1' at A1 ⊢
  refine sq1 fun R2 p2 => ?_
  refine ea rfl ⟨.inl ⟨rfl, _, SqL.of A1.ls⟩, A1.tb, fun H2 f1 k2 t2 nf1 la1 => ?_⟩
  obtain ⟨l2, A2⟩ := A1.add k2 t2 la1
  refine ⟨l, _, _, rfl, rfl, l2, (show (1 : Nat) < sizeLine from small_line1 (by decide)), p2 ?_⟩
  generalize upd H2 l (.lst ([f0].map V.ref ++ [.ref f1])) = H2' at A2 ⊢
  refine sq1 fun R3 p3 => ?_
  refine ea rfl ⟨.inl ⟨rfl, _, SqL.of A2.ls⟩, A2.tb, fun H3 f2 k3 t3 nf2 la2 => ?_⟩
  obtain ⟨l3, A3⟩ := A2.add k3 t3 la2
  refine ⟨l, _, _, rfl, rfl, l3, (show (2 : Nat) < sizeLine from small_line1 (by decide)), p3 ?_⟩
  generalize upd H3 l (.lst (([f0] ++ [f1]).map V.ref ++ [.ref f2])) = H3' at A3 ⊢
  refine sq1 fun R4 p4 => ?_
  refine ea rfl ⟨.inl ⟨rfl, _, SqL.of A3.ls⟩, A3.tb, fun H4 f3 k4 t4 nf3 la3 => ?_⟩
  obtain ⟨l4, A4⟩ := A3.add k4 t4 la3
  refine ⟨l, _, _, rfl, rfl, l4, (show (3 : Nat) < sizeLine from small_line1 (by decide)), p4 ?_⟩
  generalize upd H4 l (.lst (([f0] ++ [f1] ++ [f2]).map V.ref ++ [.ref f3])) = H4' at A4 ⊢
  have hD4 := hD.kp A4.kp tbl A4.tb
  have hd4 := hd.kp A4.kp tbl
  obtain ⟨ddx, sc, b, L, M, t, n0, ed4, _⟩ := id hd4
  refine sq1 fun R5 p5 => ?_
  refine ea rfl ⟨d, _, _, rfl, ed4, by kernel_rfl, H0, d, no, k, _, rfl, hd4, fun tf htf => p5 ?_⟩
  refine sq1 fun R6 p6 => ?_
  refine ea rfl ⟨l, rfl, ⟨_, SqL.of A4.ls⟩, ?_⟩
  have l4' : ([f0] ++ [f1] ++ [f2] ++ [f3]).length = 4 := rfl
  generalize [f0] ++ [f1] ++ [f2] ++ [f3] = fs at A4 l4' ⊢
  refine for_list (K := K) (a := l) (xs := fs.map V.ref) (fun i σ Ha => ∃ v4 v5 : Option V, σ = [some (.ref D), some (.ref d), some (.ref l), some (.ref tf), v4, v5, none] ∧ Same H4' Ha) ⟨_, _, rfl, Same.refl _⟩ ?_ ?_ ?_
  ·rintro i σ Ha _ ⟨v4, v5, rfl, sa⟩
   exact SqL.of (sa _ _ A4.ls)
  ·rintro i x σ Ha hi ⟨v4, v5, rfl, sa⟩
   have hi4 : i < fs.length := by
    have := (List.getElem?_eq_some_iff.mp hi).1
    rwa [List.length_map] at this
   rw [List.getElem?_map, List.getElem?_eq_getElem hi4] at hi
   cases hi
   have la := lam_same (A4.la i hi4) sa
   have hls : lams_ov[i]? = some (lam_ov i) := by
    match i, hi4 with
    | 0, _ => rfl
    | 1, _ => rfl
    | 2, _ => rfl
    | 3, _ => rfl
    | j + 4, h => exact absurd h (by omega)
   refine sq1 fun R7 p7 => ?_
   refine p7 ?_
   refine sq1 fun R8 p8 => ?_
   refine ea rfl ⟨fs[i], i, lam_ov i, rfl, hls, la, ea rfl ⟨la, rfl, tb_no T i (hD4.same sa) (hd4.same sa) nf fun dd H5 s5 e5 => ?_⟩⟩
   refine ⟨⟨_, rfl⟩, T.C_Over, rfl, .inl ⟨T.e_ov, fun a ha => ?_⟩⟩
   have sb : Same H4' (upd H5 a (excX a T.C_Over (some dd) false)) := (sa.trans s5).trans (Same.new ha)
   have ub : upd H5 a (excX a T.C_Over (some dd) false) a = some (excX a T.C_Over (some dd) false) := upd_same
   have ud : upd H5 a (excX a T.C_Over (some dd) false) dd = some (xdO dd [("number", .int k)]) := Same.new ha _ _ e5
   generalize upd H5 a (excX a T.C_Over (some dd) false) = H6 at sb ub ud ⊢
   refine sq1 fun R9 p9 => ?_
   refine ⟨small_line (show 1 ≤ 100000 by decide), fun u hu => p9 ?_⟩
   have sc : Same H6 (upd H6 u (.lst [.str "another"])) := Same.new hu
   generalize upd H6 u (.lst [.str "another"]) = H7 at sc ⊢
   refine ea rfl ⟨a, T.C_Over, T.C_Over, some dd, false, true, rfl, sc _ _ ub, .inr ⟨dd, _, rfl, sc _ _ ud⟩, T.y_Over, T.k_oo, ea rfl (iteT ?_)⟩
   refine ea rfl ⟨a, T.C_NoRow, T.C_Over, some dd, false, false, rfl, sc _ _ ub, .inr ⟨dd, _, rfl, sc _ _ ud⟩, T.y_Over, T.k_on, ea rfl (ite2 (fun _ => ?_) (fun z => absurd rfl z))⟩
   refine ea rfl ⟨a, T.C_Over, dd, false, _, .int k, rfl, sc _ _ ub, sc _ _ ud, T.g_Over_number, rfl, small_line (show 1 ≤ 100000 by decide), fun u2 hu2 => p8 ?_⟩
   have sd : Same H4' (upd H7 u2 (.lst [.int k])) := (sb.trans sc).trans (Same.new hu2)
   have ue : upd H7 u2 (.lst [.int k]) u2 = some (.lst [.int k]) := upd_same
   generalize upd H7 u2 (.lst [.int k]) = H8 at sd ue ⊢
   have hd8 := hd4.same sd
   obtain ⟨ddx8, sc8, b8, L8, M8, t8, _, ed8, _⟩ := id hd8
   refine ea rfl (ea rfl (gF (v := .int k) ed8 T.l_Dealing T.n_Dealing_number (by kernel_rfl) ⟨small_line (show 1 ≤ 100000 by decide), fun u3 hu3 => ?_⟩))
   have sf : Same H8 (upd H8 u3 (.lst [.int k])) := Same.new hu3
   have uf : upd H8 u3 (.lst [.int k]) u3 = some (.lst [.int k]) := upd_same
   generalize upd H8 u3 (.lst [.int k]) = H9 at sf uf ⊢
   refine ⟨u2, u3, [.int k], [.int k], rfl, rfl, SqL.of (sf _ _ ue), SqL.of uf, rfl, rfl, ea rfl ?_⟩
   have ek : eqL [V.int k] [V.int k] = true := by
    show (eqV (.int k) (.int k) && true) = true
    simp [eqV]
   refine ite2 (fun z => ?_) (fun _ => ?_)
   ·rw [ek] at z
    exact absurd z (by decide)
   ·have sg := sd.trans sf
    refine ea rfl ⟨d, _, _, rfl, sf _ _ ed8, by kernel_rfl, H0, d, no, k, _, rfl, hd4.same sg, fun t9 ht9 => ea rfl ⟨t9, tf, _, rfl, rfl, SqT.of ht9, SqT.of (sg _ _ htf), same, ea rfl (iteF ⟨_, _, rfl, sg⟩)⟩⟩
  ·rintro σ Ha ⟨v4, v5, rfl, sa⟩
   refine p6 (q Ha (fun b o n e => sa _ _ (A4.kp b o n e)) (tbl_same A4.tb sa))
end
structure EdR where
 tp : Addr
 d : Addr
 u : Addr
 k : Int
 F : List V
structure EdOk (C : Addr) (H0 H : Hp) (no : Addr) (n : Int) (op : List (Int × Addr)) (e : EdR) : Prop where
 tp : H e.tp = some (.tup [.ref e.d, .ref e.u])
 u : H e.u = some (.tup e.F)
 dl : Deal C H0 H no e.d e.k e.F
 nk : e.k ∉ op.map (·.1)
 le : e.k ≤ n
 f : e.F = kptF ∨ e.F = brkF
structure Wd (C Cm Cs Cd R : Addr) (H0 H : Hp) (D no mk : Addr) (n : Int) (op : List (Int × Addr)) (en : List EdR) : Prop where
 ds : DsAt C Cm Cs H0 H D no mk n op
 tb : Tbl H R q_ov
 nd : (op.map (·.1)).Nodup
 le : ∀ p ∈ op, p.1 ≤ n
 dl : ∀ p ∈ op, Deal Cd H0 H no p.2 p.1 opnF
 l12 : op.length ≤ 12
 n4 : n ≤ 400
 ed : ∀ e ∈ en, EdOk Cd H0 H no n op e
section
variable {C Cm Cs Cd R D no mk x d : Addr} {H0 H H' : Hp} {n k : Int} {op : List (Int × Addr)} {en : List EdR} {F : List V}
theorem Wd.same (w : Wd C Cm Cs Cd R H0 H D no mk n op en) (s : Same H H') : Wd C Cm Cs Cd R H0 H' D no mk n op en :=
 ⟨w.ds.same s, tbl_same w.tb s, w.nd, w.le, fun p hp => (w.dl p hp).same s, w.l12, w.n4, fun e he => ⟨s _ _ (w.ed e he).tp, s _ _ (w.ed e he).u, (w.ed e he).dl.same s, (w.ed e he).nk, (w.ed e he).le, (w.ed e he).f⟩⟩
theorem Wd.kp (w : Wd C Cm Cs Cd R H0 H D no mk n op en) (k : Kp R H H') (t : Tbl H' R q_ov) : Wd C Cm Cs Cd R H0 H' D no mk n op en := by
 obtain ⟨ps, hP⟩ := w.tb.tbl
 exact ⟨w.ds.kp k w.tb t, t, w.nd, w.le, fun p hp => (w.dl p hp).kp k w.tb, w.l12, w.n4, fun e he => ⟨k _ _ (ne_of (w.ed e he).tp hP (fun z => nomatch z)) (w.ed e he).tp, k _ _ (ne_of (w.ed e he).u hP (fun z => nomatch z)) (w.ed e he).u, (w.ed e he).dl.kp k w.tb, (w.ed e he).nk, (w.ed e he).le, (w.ed e he).f⟩⟩
theorem Deal.wr {l : Addr} {xs : List V} {o : HO} (h : Deal C H0 H no d n F) (hl : H l = some (.lst xs)) : Deal C H0 (upd H l o) no d n F := by
 obtain ⟨dx, sc, b, L, M, t, n0, e, eL, eM, nL, nM, et⟩ := h
 exact ⟨dx, sc, b, L, M, t, n0, (upd_ne (ne_of e hl (fun z => nomatch z))).trans e, (upd_ne (ne_of eL hl (fun z => nomatch z))).trans eL, (upd_ne (ne_of eM hl (fun z => nomatch z))).trans eM, nL, nM, (upd_ne (ne_of et hl (fun z => nomatch z))).trans et⟩
theorem Wd.wr {l : Addr} {xs ys : List V} (w : Wd C Cm Cs Cd R H0 H D no mk n op en) (hl : H l = some (.lst xs)) (h0 : H0 l = none) : Wd C Cm Cs Cd R H0 (upd H l (.lst ys)) D no mk n op en := by
 refine ⟨?_, tbl_wr w.tb hl, w.nd, w.le, fun p hp => (w.dl p hp).wr hl, w.l12, w.n4, fun e he => ⟨(upd_ne (ne_of (w.ed e he).tp hl (fun z => nomatch z))).trans (w.ed e he).tp, (upd_ne (ne_of (w.ed e he).u hl (fun z => nomatch z))).trans (w.ed e he).u, (w.ed e he).dl.wr hl, (w.ed e he).nk, (w.ed e he).le, (w.ed e he).f⟩⟩
 obtain ⟨dx, wb, a, b, c, d, e, f⟩ := w.ds
 refine ⟨dx, wb, fun b o z => ?_, b, c, d, (upd_ne (ne_of e hl (fun z => nomatch z))).trans e, (upd_ne (ne_of f hl (fun z => nomatch z))).trans f⟩
 rw [upd_ne (ne_of_none z h0)]
 exact a b o z
theorem ch_lst {l C' dx : Addr} {fs : List (Str × V)} {kvs : List (Key × V)} {xs : List V} (c : Ch2 x no H H') (hx : H x = some (.ins C' dx fs)) (hn : H no = some (.dK kvs)) (e : H l = some (.lst xs)) : H' l = some (.lst xs) :=
 c _ _ (ne_of e hx (fun z => nomatch z)) (ne_of e hn (fun z => nomatch z)) e
theorem ch_tup {l C' dx : Addr} {fs : List (Str × V)} {kvs : List (Key × V)} {xs : List V} (c : Ch2 x no H H') (hx : H x = some (.ins C' dx fs)) (hn : H no = some (.dK kvs)) (e : H l = some (.tup xs)) : H' l = some (.tup xs) :=
 c _ _ (ne_of e hx (fun z => nomatch z)) (ne_of e hn (fun z => nomatch z)) e
theorem ch_tbl {C' dx : Addr} {fs : List (Str × V)} {kvs : List (Key × V)} (c : Ch2 x no H H') (hx : H x = some (.ins C' dx fs)) (hn : H no = some (.dK kvs)) (t : Tbl H R q_ov) : Tbl H' R q_ov := by
 obtain ⟨ps, e, ok, cs⟩ := t
 refine ⟨ps, c _ _ (ne_of e hx (fun z => nomatch z)) (ne_of e hn (fun z => nomatch z)) e, ok, fun pos v z => ?_⟩
 obtain ⟨d, e1, e2⟩ := cs pos v z
 exact ⟨d, e1, c _ _ (ne_of e2 hx (fun z => nomatch z)) (ne_of e2 hn (fun z => nomatch z)) e2⟩
theorem ch_sq {K : PySem.W.Frag} {a C' dx : Addr} {fs : List (Str × V)} {kvs : List (Key × V)} {xs : List V} (c : Ch2 x no H H') (hx : H x = some (.ins C' dx fs)) (hn : H no = some (.dK kvs)) (h : SqL K H a xs) : SqL K H' a xs := by
 rcases h with (h | ⟨o, h⟩) | h
 ·exact .inl (.inl (ch_lst c hx hn h))
 ·exact .inl (.inr ⟨o, c _ _ (ne_of h hx (fun z => nomatch z)) (ne_of h hn (fun z => nomatch z)) h⟩)
 ·exact .inr h
theorem ch_deal {C' dx : Addr} {fs : List (Str × V)} {kvs : List (Key × V)} (c : Ch2 x no H H') (hx : H x = some (.ins C' dx fs)) (hn : H no = some (.dK kvs)) (h : Deal C H0 H no d n F) (ne : d ≠ x) : Deal C H0 H' no d n F := by
 obtain ⟨dx, sc, b, L, M, t, n0, e, eL, eM, nL, nM, et⟩ := h
 exact ⟨dx, sc, b, L, M, t, n0, c _ _ ne (ne_of e hn (fun z => nomatch z)) e, c _ _ (ne_of eL hx (fun z => nomatch z)) nL eL, c _ _ (ne_of eM hx (fun z => nomatch z)) nM eM, nL, nM, ch_tup c hx hn et⟩
theorem deal_ds (h : Deal Cd H0 H no d k F) {dx wb : Addr} (e : H D = some (.ins C dx (dsF mk n no wb))) : d ≠ D := by
 obtain ⟨ddx, sc, b, L, M, t, n0, ed, _⟩ := h
 exact ne_of ed e (fun z => by injection z with _ _ z; injection z with z; injection z with z; exact absurd z (by decide))
theorem deal_ne {d' : Addr} {k' : Int} {F' : List V} (h : Deal Cd H0 H no d k F) (h' : Deal Cd H0 H no d' k' F') (ne : k ≠ k') : d ≠ d' := by
 obtain ⟨ddx, sc, b, L, M, t, n0, ed, _⟩ := h
 obtain ⟨ddx', sc', b', L', M', t', n0', ed', _⟩ := h'
 exact ne_of ed ed' (fun z => by injection z with _ _ z; injection z with z; injection z with _ z; injection z with z; exact ne z)
theorem Wd.begun (w : Wd C Cm Cs Cd R H0 H D no mk n op en) (n4 : n < 400) (l12 : op.length < 12) (c : Ch2 D no H H') (hD : DsAt C Cm Cs H0 H' D no mk (n + 1) (op ++ [(n + 1, d)])) (hd : Deal Cd H0 H' no d (n + 1) opnF) :
  Wd C Cm Cs Cd R H0 H' D no mk (n + 1) (op ++ [(n + 1, d)]) en := by
 obtain ⟨dx, wb, _, _, _, _, eD, eno⟩ := w.ds
 have nk : n + 1 ∉ op.map (·.1) := fun m => by
  obtain ⟨p, hp, e⟩ := List.mem_map.mp m
  have := w.le p hp
  omega
 refine ⟨hD, ch_tbl c eD eno w.tb, ?_, fun p hp => ?_, fun p hp => ?_, by rw [List.length_append]; exact l12, by omega, fun e he => ?_⟩
 ·rw [List.map_append, List.nodup_append]
  refine ⟨w.nd, by simp, fun a ha b hb e => ?_⟩
  have hb' : b = n + 1 := by simpa using hb
  rw [e, hb'] at ha
  exact nk ha
 ·rcases List.mem_append.mp hp with z | z
  ·have := w.le p z
   omega
  ·rw [List.mem_singleton.mp z]
   exact Int.le_refl _
 ·rcases List.mem_append.mp hp with z | z
  ·exact ch_deal c eD eno (w.dl p z) (deal_ds (w.dl p z) eD)
  ·rw [List.mem_singleton.mp z]
   exact hd
 ·have o := w.ed e he
  refine ⟨ch_tup c eD eno o.tp, ch_tup c eD eno o.u, ch_deal c eD eno o.dl (deal_ds o.dl eD), fun m => ?_, by have := o.le; omega, o.f⟩
  rw [List.map_append, List.mem_append] at m
  rcases m with m | m
  ·exact o.nk m
  ·have e1 : e.k = n + 1 := by simpa using m
   have := o.le
   omega
theorem ofN_mem {p : Int × Addr} (h : p ∈ ofN k op) : p ∈ op ∧ p.1 ≠ k := by
 unfold ofN at h
 rw [List.mem_filter] at h
 exact ⟨h.1, by simpa using h.2⟩
theorem Wd.ended (w : Wd C Cm Cs Cd R H0 H D no mk n op en) (m : (k, d) ∈ op) (c : Ch2 d no H H') (eno' : H' no = some (.dK (opD (ofN k op)))) (hd : Deal Cd H0 H' no d k F) : Wd C Cm Cs Cd R H0 H' D no mk n (ofN k op) en := by
 obtain ⟨dx, wb, sm, hm, nD, nno, eD, eno⟩ := w.ds
 have od := w.dl _ m
 obtain ⟨ddx, sc, b, L, M, t, n0, ed, _⟩ := id od
 have sub : ∀ j, j ∈ (ofN k op).map (·.1) → j ∈ op.map (·.1) := fun j hj => by
  obtain ⟨p, hp, e⟩ := List.mem_map.mp hj
  exact List.mem_map.mpr ⟨p, (ofN_mem hp).1, e⟩
 refine ⟨⟨dx, wb, sm.ch2 n0 nno c, hm, nD, nno, c _ _ (deal_ds od eD).symm (ne_of eD eno (fun z => nomatch z)) eD, eno'⟩, ch_tbl c ed eno w.tb, ?_, fun p hp => w.le p (ofN_mem hp).1, fun p hp => ?_, ?_, w.n4, fun e he => ?_⟩
 ·exact w.nd.sublist ((List.filter_sublist).map _)
 ·exact ch_deal c ed eno (w.dl p (ofN_mem hp).1) (deal_ne (w.dl p (ofN_mem hp).1) od (ofN_mem hp).2)
 ·exact Nat.le_trans (List.length_filter_le _ _) w.l12
 ·have o := w.ed e he
  have nek : e.k ≠ k := fun z => o.nk (by rw [z]; exact List.mem_map.mpr ⟨_, m, rfl⟩)
  exact ⟨ch_tup c ed eno o.tp, ch_tup c ed eno o.u, ch_deal c ed eno o.dl (deal_ne o.dl od nek), fun z => o.nk (sub _ z), o.le, o.f⟩
end
theorem ofN_erase {k : Int} {d : Addr} : ∀ {op : List (Int × Addr)} {j : Nat}, (op.map (·.1)).Nodup → op[j]? = some (k, d) → ofN k op = op.eraseIdx j
 | [], j, _, h => by simp at h
 | p :: op, 0, nd, h => by
  cases h
  rw [List.map_cons, List.nodup_cons] at nd
  show List.filter _ ((k, d) :: op) = op
  rw [List.filter_cons_of_neg (by simp), List.filter_eq_self]
  intro q hq
  have : q.1 ≠ k := fun e => nd.1 (by rw [← e]; exact List.mem_map.mpr ⟨q, hq, rfl⟩)
  simpa using this
 | p :: op, j + 1, nd, h => by
  rw [List.map_cons, List.nodup_cons] at nd
  have h' : op[j]? = some (k, d) := by simpa using h
  have ne : p.1 ≠ k := fun e => nd.1 (by rw [e]; exact List.mem_map.mpr ⟨(k, d), List.mem_of_getElem? h', rfl⟩)
  show List.filter _ (p :: op) = p :: op.eraseIdx j
  rw [List.filter_cons_of_pos (by simpa using ne)]
  exact congrArg (p :: ·) (ofN_erase nd.2 h')
theorem goL_erase : ∀ (op : List (Int × Addr)) (j : Nat), (goL op).eraseIdx j = goL (op.eraseIdx j)
 | [], _ => by simp [goL]
 | p :: op, 0 => rfl
 | p :: op, j + 1 => congrArg (V.ref p.2 :: ·) (goL_erase op j)
theorem sorted_eq : ∀ {l m : List Int}, l.Perm m → l.Pairwise (· ≤ ·) → m.Pairwise (· ≤ ·) → l = m
 | [], m, p, _, _ => (List.perm_nil.mp p.symm).symm
 | x :: l, m, p, s1, s2 => by
  match m, p, s2 with
  | [], p, _ => exact absurd (List.perm_nil.mp p) (by simp)
  | y :: m, p, s2 =>
   rw [List.pairwise_cons] at s1 s2
   have e : x = y := by
    have h1 : x ∈ y :: m := p.mem_iff.mp (List.mem_cons_self ..)
    have h2 : y ∈ x :: l := p.mem_iff.mpr (List.mem_cons_self ..)
    rcases List.mem_cons.mp h1 with z | z
    ·exact z
    ·rcases List.mem_cons.mp h2 with z2 | z2
     ·exact z2.symm
     ·have := s1.1 y z2
      have := s2.1 x z
      omega
   subst e
   rw [sorted_eq ((List.perm_cons _).mp p) s1.2 s2.2]
theorem eqL_refl : ∀ l : List Int, eqL (l.map V.int) (l.map V.int) = true
 | [] => rfl
 | x :: l => by
  show (eqV (.int x) (.int x) && eqL (l.map V.int) (l.map V.int)) = true
  rw [eqL_refl l]
  simp [eqV]
theorem flat_ints : ∀ l : List Int, (l.map V.int).all flatV = true
 | [] => rfl
 | _ :: l => flat_ints l
theorem same_end {F : List V} (h : F = kptF ∨ F = brkF) : ∃ (f : Str) (r : List V), F = .str f :: r ∧ f ≠ "open" ∧ ∀ v ∈ V.str f :: r, SameV v := by
 have fl : ∀ v : V, flatV v = true → eqV v v = true → SameV v := fun v a b => .inr ⟨a, b⟩
 rcases h with rfl | rfl
 ·refine ⟨_, _, rfl, by decide, fun v hv => ?_⟩
  simp only [List.mem_cons, List.not_mem_nil, or_false] at hv
  rcases hv with rfl | rfl | rfl
  ·exact fl _ rfl (by simp [eqV])
  ·exact fl _ rfl rfl
  ·exact fl _ rfl rfl
 ·refine ⟨_, _, rfl, by decide, fun v hv => ?_⟩
  simp only [List.mem_cons, List.not_mem_nil, or_false] at hv
  rcases hv with rfl | rfl
  ·exact fl _ rfl (by simp [eqV])
  ·exact fl _ rfl rfl
section
variable {P : Program} {w : World} {K : PySem.W.Frag} {mg : Str → Option Value} {base : Heap}
theorem new_ds (T : Txt K mg) {σ : L2.St} {H : Hp} {Q : VK}
  (q : ∀ (H0 H' : Hp) (D no mk : Addr), Same H H' → H D = none → H no = none → DsAt T.C_Dealings T.C_Makes T.C_Schema H0 H' D no mk 0 [] → Q (.ref D) H') :
  tMake T.C_Dealings (sp_Dealings___init__ T.C_Dealings) [] E0 (tCons (tMake T.C_Makes (sp_Makes___init__ T.C_Makes T.C_Schema) [.non] E0 (tCons (tMake T.C_Schema (sp_Schema___init__ T.C_Schema) [.non] E0
   (tCons (tLst (tCons (tTup (tCons (tC (.str "t")) (tCons (tLst (tCons (tTup (tCons (tC (.str "k")) (tCons (tC (.str "number")) tNil))) tNil)) tNil))) tNil)) tNil)) tNil)) tNil) σ H Q := by
 refine ⟨small_line (show 2 ≤ 100000 by decide), fun q0 hq => ⟨small_line (show 1 ≤ 100000 by decide), fun ca hca => ⟨small_line (show 2 ≤ 100000 by decide), fun t ht => ⟨small_line (show 1 ≤ 100000 by decide), fun l hl => ?_⟩⟩⟩⟩
 have s1 : Same H (upd H q0 (.tup [.str "k", .str "number"])) := Same.new hq
 have u1 : upd H q0 (.tup [.str "k", .str "number"]) q0 = some (.tup [.str "k", .str "number"]) := upd_same
 generalize upd H q0 (.tup [.str "k", .str "number"]) = H1 at s1 u1 hca ht hl ⊢
 have s2 : Same H1 (upd H1 ca (.lst [.ref q0])) := Same.new hca
 have u2 : upd H1 ca (.lst [.ref q0]) ca = some (.lst [.ref q0]) := upd_same
 generalize upd H1 ca (.lst [.ref q0]) = H2 at s2 u2 ht hl ⊢
 have s3 : Same H2 (upd H2 t (.tup [.str "t", .ref ca])) := Same.new ht
 have u3 : upd H2 t (.tup [.str "t", .ref ca]) t = some (.tup [.str "t", .ref ca]) := upd_same
 generalize upd H2 t (.tup [.str "t", .ref ca]) = H3 at s3 u3 hl ⊢
 have s4 : Same H3 (upd H3 l (.lst [.ref t])) := Same.new hl
 have u4 : upd H3 l (.lst [.ref t]) l = some (.lst [.ref t]) := upd_same
 generalize upd H3 l (.lst [.ref t]) = H4 at s4 u4 ⊢
 intro x xx hx hxx nx
 have s5 : Same H4 (upd (upd H4 xx (.own x)) x (.ins T.C_Schema xx [])) := mk_same hx hxx fun _ _ _ e => e
 refine ⟨x, xx, l, .non, [t], tb1, [], rfl, upd_same, .inl (s5 _ _ u4), .cons ⟨ca, [q0], s5 _ _ (s4 _ _ u3), .inl (s5 _ _ (s4 _ _ (s3 _ _ u2))), .cons (s5 _ _ (s4 _ _ (s3 _ _ (s2 _ _ u1)))) .nil⟩ .nil, tb1_ok, .inl ⟨rfl, rfl⟩, ⟨by decide, .nil, fun _ z => nomatch z⟩, fun H5 hS c5 => ⟨rfl, ?_⟩⟩
 have s6 : Same H4 H5 := mk_same hx hxx fun b o n e => c5 b o e n
 intro y yx hy hyx ny
 have s7 : Same H5 (upd (upd H5 yx (.own y)) y (.ins T.C_Makes yx [])) := mk_same hy hyx fun _ _ _ e => e
 have nxy : x ≠ y := by
  obtain ⟨dx, tt, oo, dd, o, ts, cas, rs, a, _⟩ := hS
  exact ne_of_none a hy
 refine ⟨y, yx, x, rfl, upd_same, hS.kept s7, nxy, fun H6 c6 m6 => ⟨rfl, ?_⟩⟩
 have s8 : Same H5 H6 := mk_same hy hyx c6
 intro D Dx hD hDx nD
 refine ⟨D, Dx, y, rfl, upd_same, fun H7 no wb c7 fno eD eno => ⟨rfl, ?_⟩⟩
 have s9 : Same H6 H7 := mk_same hD hDx c7
 have all : Same H H6 := ((((s1.trans s2).trans s3).trans s4).trans s6).trans s8
 have nno : no ≠ D := fun z => by rw [z, upd_same] at fno; cases fno
 have nno2 : no ≠ Dx := fun z => by rw [z, upd_ne nD, upd_same] at fno; cases fno
 have fno' : H6 no = none := by rw [upd_ne nno, upd_ne nno2] at fno; exact fno
 exact q H6 H7 D no y (all.trans s9) (all.free hD) (all.free fno') ⟨Dx, wb, Sm.of s9, m6, hD, fno', eD, eno⟩
theorem four {j : Int} (h0 : 0 ≤ j) (h1 : j < 4) : ∃ m : Int, atI [V.int 0, .int 380, .int 397, .int 30] j = some (.int m) ∧ 0 ≤ m ∧ m ≤ 397 := by
 have h : j = 0 ∨ j = 1 ∨ j = 2 ∨ j = 3 := by omega
 rcases h with rfl | rfl | rfl | rfl
 ·exact ⟨0, rfl, by decide, by decide⟩
 ·exact ⟨380, rfl, by decide, by decide⟩
 ·exact ⟨397, rfl, by decide, by decide⟩
 ·exact ⟨30, rfl, by decide, by decide⟩
theorem cut_ints (ns : List Int) (lo hi : Option Int) : ∃ cs : List Int, cutV (ns.map V.int) lo hi = cs.map V.int := by
 unfold cutV
 rw [← List.map_drop, ← List.map_take]
 exact ⟨_, rfl⟩
end
def sp_law (K : PySem.W.Frag) (R : Addr) : Sp := fun vs H Q _ => ∃ (a : Addr) (ns : List Int), vs = [.ref a] ∧ SqL K H a (ns.map V.int) ∧ ns.length ≤ 63 ∧ H R = some (.tbl #[]) ∧ ∀ H' : Hp, Q (.bl true) H'
theorem sqC {a b : TS} {D : Ends} {σ : L2.St} {H : Hp} (I : L2.St → Hp → Prop) (hb : ∀ σ H, I σ H → b D σ H) (ha : ∀ N : L2.St → Hp → Prop, (∀ σ H, I σ H → N σ H) → a { D with nx := N } σ H) : tSeq a b D σ H := ha (b D) hb
theorem sq_asg {te : TE} {g : TG} {b : TS} {D : Ends} {σ : L2.St} {H : Hp} (h : te σ H fun x H1 => g x σ H1 (b D)) : tSeq (tAsg te g) b D σ H := h
def lawI (C Cm Cs Cd R : Addr) (H0 : Hp) (a D no mk g eL p : Addr) (cs : List Int) (i : Nat) : L2.St → Hp → Prop := fun σ Ha => ∃ (n : Int) (op : List (Int × Addr)) (en : List EdR) (v3 v6 v7 v8 v9 v10 : Option V),
 σ = [some (.ref a), some (.ref D), some (.int n), v3, some (.ref g), some (.ref eL), v6, v7, v8, v9, v10] ∧ Wd C Cm Cs Cd R H0 Ha D no mk n op en ∧ Ha g = some (.lst (goL op)) ∧ Ha eL = some (.lst (en.map fun e => .ref e.tp)) ∧ Ha p = some (.lst (cs.map V.int)) ∧ en.length ≤ i
theorem ofN_one (k : Int) (d : Addr) : ofN k [(k, d)] = [] := by
 unfold ofN
 rw [List.filter_cons_of_neg (by simp)]
 rfl
theorem ret_op {r : R2} {ta tb : TE} {D : Ends} {σ : L2.St} {H : Hp} (h : ta σ H fun x H1 => tb σ H1 fun y H2 => r x y H2 D.rt) : tRet (tOp r ta tb) D σ H := h
theorem fld_of {K : PySem.W.Frag} {ta : TE} {f : Str} {σ : L2.St} {H : Hp} {Q : VK} (h : ta σ H fun x H1 => ∃ a C dx fs v, x = .ref a ∧ H1 a = some (.ins C dx fs) ∧ Cls K C ∧ NoAttr K C f ∧ fs.lookup f = some v ∧ Q v H1) : tFld K ta f σ H Q := h
theorem meth_of {C : Addr} {m : Str} {sp : Sp} {dvs : List V} {E : XK} {ta : TE} {t : TA} {σ : L2.St} {H : Hp} {Q : VK} (h : ta σ H fun x H1 => ∃ a dx fs, x = .ref a ∧ H1 a = some (.ins C dx fs) ∧ fs.lookup m = none ∧ t σ H1 fun vs H2 => sp (x :: (vs ++ dvs)) H2 Q E) : tMeth C m sp dvs E ta t σ H Q := h
theorem Wd.add {C Cm Cs Cd R D no mk : Addr} {H0 H : Hp} {n : Int} {op : List (Int × Addr)} {en : List EdR} {e : EdR} (w : Wd C Cm Cs Cd R H0 H D no mk n op en) (h : EdOk Cd H0 H no n op e) : Wd C Cm Cs Cd R H0 H D no mk n op (en ++ [e]) :=
 ⟨w.ds, w.tb, w.nd, w.le, w.dl, w.l12, w.n4, fun x hx => (List.mem_append.mp hx).elim (w.ed x) fun z => by rw [List.mem_singleton.mp z]; exact h⟩
theorem ofN_no {k : Int} {op : List (Int × Addr)} : k ∉ (ofN k op).map (·.1) := fun m => by
 obtain ⟨p, hp, e⟩ := List.mem_map.mp m
 exact (ofN_mem hp).2 e
theorem use2 {I A : Hp → Prop} {G : Prop} (f : (∀ H, I H → A H) → G) (h : ∀ H, I H → A H) : G := f h
section
variable {P : Program} {w : World} {K : PySem.W.Frag} {mg : Str → Option Value} {base : Heap}
theorem ok_law (T : Txt K mg) (hbm : Bm mg base) : FnOk P w K mg base CX0 9 T.law.f T.law.fd ["_law_script"] (sp_law K T.P_ov) := by
 have G_Dealing_fate : FnOk P w K mg base CX0 1 T.Dealing_fate.f T.Dealing_fate.fd _ _ := ok_Dealing_fate T
 have G_Dealings___init__ : FnOk P w K mg base CX0 1 T.Dealings___init__.f T.Dealings___init__.fd _ _ := ok_Dealings___init__ T
 have G_Dealings_begin : FnOk P w K mg base CX0 6 T.Dealings_begin.f T.Dealings_begin.fd _ _ := (ok_Dealings_begin T).down
 have G_Dealings_broken : FnOk P w K mg base CX0 4 T.Dealings_broken.f T.Dealings_broken.fd _ _ := (ok_Dealings_broken T).down
 have G_Dealings_keep_it : FnOk P w K mg base CX0 5 T.Dealings_keep_it.f T.Dealings_keep_it.fd _ _ := (ok_Dealings_keep_it T).down
 have G_Dealings_open_list : FnOk P w K mg base CX0 1 T.Dealings_open_list.f T.Dealings_open_list.fd _ _ := ok_Dealings_open_list T
 have G_Makes___init__ : FnOk P w K mg base CX0 3 T.Makes___init__.f T.Makes___init__.fd _ _ := ok_Makes___init__ T
 have G_Schema___init__ : FnOk P w K mg base CX0 7 T.Schema___init__.f T.Schema___init__.fd _ _ := ok_Schema___init__ T
 have G__law_at : FnOk P w K mg base CX0 1 T._law_at.f T._law_at.fd _ _ := ok__law_at T
 have G__law_mix : FnOk P w K mg base CX0 1 T._law_mix.f T._law_mix.fd _ _ := ok__law_mix T
 have G__law_begun : FnOk P w K mg base CX0 7 T._law_begun.f T._law_begun.fd _ _ := ok__law_begun T
 have G__law_over : FnOk P w K mg base CX0 8 T._law_over.f T._law_over.fd _ _ := ok__law_over T hbm
 refine T.law.fn.ok sc_law (fun vs H Q E h => ?_) (fun cdv A outer s H vs Q E hr h => ?_)
 ·obtain ⟨a, ns, rfl, _⟩ := h
  rfl
 ·obtain ⟨a, ns, rfl, hs, hl, hR, q⟩ := h
  have hu0 := hr.units0
  have hu1 := hu_of hr
  refine ⟨_, ((pss_cons (ps_set (i := 1) sc_law.nd rfl (Or.inl rfl) (pe_make T.k_Dealings G_Dealings___init__ (hr.mono (by decide)) rfl T.c_Dealings T.Dealings___init__.bi .nil pass0 (pa_cons (pe_make T.k_Makes G_Makes___init__ (hr.mono (by decide)) rfl T.c_Makes (bi1_Makes T) (dvs := [.non]) (.cons rfl .nil) pass0 (pa_cons (pe_make T.k_Schema G_Schema___init__ (hr.mono (by decide)) rfl T.c_Schema (bi1_Schema T) (dvs := [.non]) (.cons rfl .nil) pass0 (pa_cons (pe_lst (pa_cons (pe_tup (pa_cons pe_str (pa_cons (pe_lst (pa_cons (pe_tup (pa_cons pe_str (pa_cons pe_str pa_nil))) pa_nil)) pa_nil))) pa_nil)) pa_nil)) pa_nil)) pa_nil)))
   (pss_cons (ps_set (i := 2) sc_law.nd rfl (Or.inl rfl) (pe_op op_add (pe_ix (ix_listK (K := K) rfl) (pe_lst (pa_cons pe_int (pa_cons pe_int (pa_cons pe_int (pa_cons pe_int pa_nil))))) (pe_op op_mod (pe_own G__law_at (hr.mono (by decide)) rfl (pa_cons (pv 0) (pa_cons pe_int pa_nil))) pe_int) (fun _ _ => rfl)) (pe_op op_mod (pe_own G__law_at (hr.mono (by decide)) rfl (pa_cons (pv 0) (pa_cons pe_int pa_nil))) pe_int)))
   (pss_cons (ps_for PassesOwn.never rfl (pi_range1 rfl T.b_range (pa_cons (pv 2) pa_nil)) (pg_name (i := 3) sc_law.nd rfl (Or.inl rfl)) (pss_one (ps_expr (pe_mown T.l_Dealings G_Dealings_broken (hr.mono (by decide)) (pv 1) (pa_cons (pe_mown0 T.l_Dealings G_Dealings_begin (hr.mono (by decide)) (pv 1)) pa_nil)))))
   (pss_cons (ps_set (i := 4) sc_law.nd rfl (Or.inl rfl) (pe_lst pa_nil))
   (pss_cons (ps_set (i := 5) sc_law.nd rfl (Or.inl rfl) (pe_lst pa_nil))
   (pss_cons (ps_for PassesOwn.never rfl (pi_listK (K := K) rfl (pe_slice (sl_listK (K := K) rfl) (pv 0) (po_some pe_int) (po_some pe_int))) (pg_name (i := 6) sc_law.nd rfl (Or.inl rfl)) (pss_cons (ps_set (i := 7) sc_law.nd rfl (Or.inl rfl) (pe_op op_mod (pe_own G__law_mix (hr.mono (by decide)) rfl (pa_cons (pv 6) (pa_cons pe_int pa_nil))) pe_int))
   (pss_cons (ps_if (PW.pt (pw_or (pt_cmpR op_lt (pv 7) pe_int (nomark _)) (pw_or1 (pt_cmpR (op_eqE (K := K) rfl hu0) (pv 4) (pe_lst pa_nil) (nomark _))))) (pss_cons (ps_asg (pe_own G__law_begun (hr.mono (by decide)) rfl (pa_cons (pv 1) (pa_cons (pv 2) (pa_cons (pv 4) pa_nil)))) (pg_lstK (K := K) (n := 2) rfl rfl (pgs_cons ((pg_name (i := 8) sc_law.nd rfl (Or.inl rfl))) (pgs_cons ((pg_name (i := 9) sc_law.nd rfl (Or.inl rfl))) pgs_nil))))
   (pss_cons (ps_if (pt_not (pt_val (pv 8))) (pss_one (ps_ret pe_bl)) pss_nil)
   (pss_one (ps_if (pt_cmp (pc_notN (pv 9))) (pss_cons (ps_expr (pe_bmK (K := K) rfl PySem.F.plainAttrs_list PySem.F.slot_list_append PySem.F.type_list_append mt_append (pv 4) (pa_cons (pv 9) pa_nil)))
   (pss_one (ps_set (i := 2) sc_law.nd rfl (Or.inl rfl) (pe_op op_add (pv 2) pe_int)))) pss_nil)))) (pss_cons (ps_set (i := 9) sc_law.nd rfl (Or.inl rfl) (pe_bmK (K := K) rfl PySem.F.plainAttrs_list PySem.F.slot_list_pop PySem.F.type_list_pop mt_popAt (pv 4) (pa_cons (pe_op op_mod (pe_own G__law_mix (hr.mono (by decide)) rfl (pa_cons (pv 6) (pa_cons pe_int pa_nil))) (pe_callB (call_len_seqK (K := K) rfl) (by rfl) T.b_len bt_len (pa_cons (pv 4) pa_nil))) pa_nil)))
   (pss_cons (ps_set (i := 10) sc_law.nd rfl (Or.inl rfl) (pe_tup (pa_cons pe_str (pa_cons pe_int (pa_cons pe_non pa_nil)))))
   (pss_cons (ps_if (pt_cmpR op_eq (pv 7) pe_int (nomark _)) (pss_one (ps_expr (pe_mown T.l_Dealings G_Dealings_keep_it (hr.mono (by decide)) (pv 1) (pa_cons (pv 9) pa_nil)))) (pss_cons (ps_expr (pe_mown T.l_Dealings G_Dealings_broken (hr.mono (by decide)) (pv 1) (pa_cons (pv 9) pa_nil)))
   (pss_one (ps_set (i := 10) sc_law.nd rfl (Or.inl rfl) (pe_tup (pa_cons pe_str (pa_cons pe_int pa_nil)))))))
   (pss_cons (ps_if (PW.pt (pw_or (pt_cmpR (op_neI (K := K) rfl hu1) (pe_mown0 T.l_Dealing G_Dealing_fate (hr.mono (by decide)) (pv 9)) (pv 10) (nomark _)) (pw_or1 (pt_not (pt_val (pe_own G__law_over (hr.mono (by decide)) rfl (pa_cons (pv 1) (pa_cons (pv 9) pa_nil)))))))) (pss_one (ps_ret pe_bl)) pss_nil)
   (pss_one (ps_expr (pe_bmK (K := K) rfl PySem.F.plainAttrs_list PySem.F.slot_list_append PySem.F.type_list_append mt_append (pv 5) (pa_cons (pe_tup (pa_cons (pv 9) (pa_cons (pv 10) pa_nil))) pa_nil)))))))))
   (pss_one (ps_if (pt_cmpR (op_neLK (K := K) rfl hu0) (pe_mown0 T.l_Dealings G_Dealings_open_list (hr.mono (by decide)) (pv 1)) (pe_callB (call_sortedI rfl) (by rfl) T.b_sorted bt_sorted (pa_cons (pe_comp (N := ["_law_deal"]) (own := 1) (caps := []) rfl (by kernel_rfl) (by kernel_rfl) (pi_listK (K := K) rfl (pv 4)) (fun _ _ _ _ _ => pg_name (i := 0) (show List.Nodup (["_law_deal"] : List Str) by decide +kernel) rfl (Or.inl rfl)) (fun _ _ _ _ _ => pts_nil) (fun _ _ _ _ _ => (pe_fldK (K := K) rfl (pv 0) rfl))) pa_nil)) (nomark _)) (pss_one (ps_ret pe_bl)) pss_nil)))))
   (pss_cons (ps_for PassesOwn.never rfl (pi_listK (K := K) rfl (pv 5)) (pg_tupK (K := K) (n := 2) rfl rfl (pgs_cons ((pg_name (i := 9) sc_law.nd rfl (Or.inl rfl))) (pgs_cons ((pg_name (i := 10) sc_law.nd rfl (Or.inl rfl))) pgs_nil))) (pss_one (ps_if (PW.pt (pw_or (pt_cmpR (op_neI (K := K) rfl hu1) (pe_mown0 T.l_Dealing G_Dealing_fate (hr.mono (by decide)) (pv 9)) (pv 10) (nomark _)) (pw_or1 (pt_not (pt_val (pe_own G__law_over (hr.mono (by decide)) rfl (pa_cons (pv 1) (pa_cons (pv 9) pa_nil)))))))) (pss_one (ps_ret pe_bl)) pss_nil)))
   (pss_one (ps_ret (pe_cmpR op_eq (pe_fldK (K := K) rfl (pe_mown0 T.l_Dealings G_Dealings_begin (hr.mono (by decide)) (pe_make T.k_Dealings G_Dealings___init__ (hr.mono (by decide)) rfl T.c_Dealings T.Dealings___init__.bi .nil pass0 (pa_cons (pe_make T.k_Makes G_Makes___init__ (hr.mono (by decide)) rfl T.c_Makes (bi1_Makes T) (dvs := [.non]) (.cons rfl .nil) pass0 (pa_cons (pe_make T.k_Schema G_Schema___init__ (hr.mono (by decide)) rfl T.c_Schema (bi1_Schema T) (dvs := [.non]) (.cons rfl .nil) pass0 (pa_cons (pe_lst (pa_cons (pe_tup (pa_cons pe_str (pa_cons (pe_lst (pa_cons (pe_tup (pa_cons pe_str (pa_cons pe_str pa_nil))) pa_nil)) pa_nil))) pa_nil)) pa_nil)) pa_nil)) pa_nil))) rfl) pe_int (nomark _)))))))))))), ?_⟩
  refine sq1 fun R1 p1 => ?_
  refine sq_asg (new_ds T fun H0 H1 D no mk s1 fD fno hD => ?_)
  refine p1 ?_
  have hs1 := s1.seq hs
  have tb1' : Tbl H1 T.P_ov q_ov := ⟨#[], s1 _ _ hR, trivial, fun pos v z => nomatch z⟩
  refine sq1 fun R2 p2 => ?_
  refine ⟨small_line (show 4 ≤ 100000 by decide), fun li hli => ea rfl ⟨a, ns, 0, rfl, (Same.new hli).seq hs1, Int.le_refl _, fun z => ⟨z, 4, rfl, rfl, (show (0 : Int) < 4 by decide), ?_⟩⟩⟩
  obtain ⟨m, em, m0, m1⟩ := four (Int.emod_nonneg z (by decide : (4 : Int) ≠ 0)) (Int.emod_lt_of_pos z (by decide : (0 : Int) < 4))
  refine ixL (SqL.of upd_same) em (ea rfl ⟨a, ns, 1, rfl, (Same.new hli).seq hs1, (by decide), fun z2 => ⟨z2, 4, rfl, rfl, (show (0 : Int) < 4 by decide), m, _, rfl, rfl, p2 ?_⟩⟩)
  have y0 : 0 ≤ z2 % 4 := Int.emod_nonneg z2 (by decide)
  have y1 : z2 % 4 < 4 := Int.emod_lt_of_pos z2 (by decide)
  generalize z2 % 4 = y at y0 y1 ⊢
  have s2 : Same H1 (upd H1 li (.lst [.int 0, .int 380, .int 397, .int 30])) := Same.new hli
  generalize upd H1 li (.lst [.int 0, .int 380, .int 397, .int 30]) = H2 at s2 ⊢
  have W2 : Wd T.C_Dealings T.C_Makes T.C_Schema T.C_Dealing T.P_ov H0 H2 D no mk 0 [] [] := ⟨hD.same s2, tbl_same tb1' s2, .nil, (fun _ z => nomatch z), (fun _ z => nomatch z), Nat.zero_le _, by decide, (fun _ z => nomatch z)⟩
  have hs2 := s2.seq hs1
  refine sq1 fun R3 p3 => ?_
  refine ea rfl ⟨m + y, rfl, by omega, by omega, ?_⟩
  refine for_range (fun i σ Ha => ∃ v3 : Option V, σ = [some (.ref a), some (.ref D), some (.int (m + y)), v3, none, none, none, none, none, none, none] ∧ Wd T.C_Dealings T.C_Makes T.C_Schema T.C_Dealing T.P_ov H0 Ha D no mk (i : Int) [] [] ∧ SqL K Ha a (ns.map V.int)) ⟨_, rfl, W2, hs2⟩ ?_ ?_
  ·rintro i σ Ha hi ⟨v3, rfl, W, hsa⟩
   obtain ⟨dx, wb, _, _, _, _, eD, eno⟩ := id W.ds
   refine ea rfl ⟨D, _, _, rfl, eD, by kernel_rfl, ea rfl ⟨D, _, _, rfl, eD, by kernel_rfl, H0, D, no, mk, i, [], rfl, W.ds, (fun z => nomatch z), by decide, fun full => ?_, fun l1 n1 Hb d hd c hD' hd' => ?_⟩⟩
   ·rcases full with z | z
    ·exact absurd z (by decide)
    ·omega
   ·have Wb := W.begun n1 l1 c hD' hd'
    obtain ⟨dxb, wbb, _, _, _, _, eDb, enob⟩ := id hD'
    obtain ⟨ddx, sc, b, L, M, t, n0, ed, _⟩ := id hd'
    refine ⟨H0, D, d, no, mk, i + 1, i + 1, [((i : Int) + 1, d)], "open", [.int 0], rfl, hD', hd', fun _ => ⟨List.mem_singleton.mpr rfl, fun Hc c' eno' hd'' => ?_⟩, fun nf => absurd rfl nf⟩
    have Wc := Wb.ended (List.mem_singleton.mpr rfl) c' eno' hd''
    have e0 : ofN ((i : Int) + 1) ([] ++ [((i : Int) + 1, d)]) = [] := ofN_one _ _
    rw [e0] at Wc
    exact ⟨_, rfl, Wc, ch_sq c' ed enob (ch_sq c eD eno hsa)⟩
  rintro σ Ha ⟨v3, rfl, W3, hs3⟩
  have emy : ((m + y).toNat : Int) = m + y := Int.toNat_of_nonneg (by omega)
  rw [emy] at W3
  refine p3 ?_
  refine sq1 fun R4 p4 => ?_
  refine ⟨Nat.zero_le _, fun g hg => p4 ?_⟩
  have s4 : Same Ha (upd Ha g (.lst [])) := Same.new hg
  have u4 : upd Ha g (.lst []) g = some (.lst []) := upd_same
  have g0 : H0 g = none := by
   obtain ⟨_, _, sm, _⟩ := W3.ds
   exact sm.none hg
  have W4 := W3.same s4
  have hs4 := s4.seq hs3
  generalize upd Ha g (.lst []) = H4 at s4 u4 W4 hs4 ⊢
  refine sq1 fun R5 p5 => ?_
  refine ⟨Nat.zero_le _, fun eL hL => p5 ?_⟩
  have s5 : Same H4 (upd H4 eL (.lst [])) := Same.new hL
  have u5 : upd H4 eL (.lst []) eL = some (.lst []) := upd_same
  have e0 : H0 eL = none := by
   obtain ⟨_, _, sm, _⟩ := W4.ds
   exact sm.none hL
  have nge : g ≠ eL := ne_of_none u4 hL
  have W5 := W4.same s5
  have hs5 := s5.seq hs4
  have v5 := s5 _ _ u4
  generalize upd H4 eL (.lst []) = H5 at s5 u5 W5 hs5 v5 ⊢
  refine sq1 fun R6 p6 => ?_
  obtain ⟨cs, ecs⟩ := cut_ints ns (some 3) (some 43)
  have lcs : cs.length ≤ 63 := by
   have h1 := congrArg List.length ecs
   rw [List.length_map] at h1
   rw [← h1]
   unfold cutV
   rw [List.length_take, List.length_drop, List.length_map]
   omega
  refine ea rfl (ea rfl (ea rfl ⟨a, _, rfl, hs5, fun p hp => ?_⟩))
  rw [ecs]
  have s6 : Same H5 (upd H5 p (.lst (cs.map V.int))) := Same.new hp
  have u6 : upd H5 p (.lst (cs.map V.int)) p = some (.lst (cs.map V.int)) := upd_same
  have ngp : g ≠ p := ne_of_none v5 hp
  have nep : eL ≠ p := ne_of_none u5 hp
  have W6 := W5.same s6
  have v6 := s6 _ _ v5
  have w6 := s6 _ _ u5
  generalize upd H5 p (.lst (cs.map V.int)) = H6 at s6 u6 W6 v6 w6 ⊢
  refine ⟨p, rfl, ⟨_, SqL.of u6⟩, ?_⟩
  refine for_list (K := K) (a := p) (xs := cs.map V.int) (lawI T.C_Dealings T.C_Makes T.C_Schema T.C_Dealing T.P_ov H0 a D no mk g eL p cs) ⟨_, [], [], _, _, _, _, _, _, rfl, W6, v6, w6, u6, Nat.le_refl _⟩ ?_ ?_ ?_
  ·rintro i σ Hx _ ⟨_, _, _, _, _, _, _, _, _, _, _, _, _, e, _⟩
   exact SqL.of e
  ·rintro i x σ Hx hi ⟨n, op, en, v3, v6', v7, v8, v9, v10, rfl, W, eg, ee, ep, li⟩
   have hic : i < cs.length := by
    have := (List.getElem?_eq_some_iff.mp hi).1
    rwa [List.length_map] at this
   rw [List.getElem?_map, List.getElem?_eq_getElem hic] at hi
   cases hi
   generalize cs[i] = c
   refine sq1 fun R7 p7 => ?_
   refine ea rfl ⟨c, 0, rfl, by decide, by decide, fun z hz => ⟨z, 8, rfl, rfl, (show (0 : Int) < 8 by decide), p7 ?_⟩⟩
   refine sqC (fun σ' H' => ∃ (n : Int) (op : List (Int × Addr)) (en : List EdR) (v8 v9 v10 : Option V), σ' = [some (.ref a), some (.ref D), some (.int n), v3, some (.ref g), some (.ref eL), some (.int c), some (.int (z % 8)), v8, v9, v10] ∧ Wd T.C_Dealings T.C_Makes T.C_Schema T.C_Dealing T.P_ov H0 H' D no mk n op en ∧ H' g = some (.lst (goL op)) ∧ H' eL = some (.lst (en.map fun e => .ref e.tp)) ∧ H' p = some (.lst (cs.map V.int)) ∧ en.length ≤ i + 1) ?_ ?_
   ·rintro σ' H' ⟨n', op', en', w8, w9, w10, rfl, W', eg', ee', ep', li'⟩
    obtain ⟨dx, wb, _, _, _, _, eD, eno⟩ := id W'.ds
    refine ea rfl ⟨D, _, _, rfl, eD, by kernel_rfl, H0, D, no, mk, n', op', rfl, W'.ds, W'.l12, fun l ms hl pm so => ?_⟩
    have s1' : Same H' (upd H' l (.lst (ms.map V.int))) := Same.new hl
    have u1 : upd H' l (.lst (ms.map V.int)) l = some (.lst (ms.map V.int)) := upd_same
    have W1 := W'.same s1'
    have g1 := s1' _ _ eg'
    generalize upd H' l (.lst (ms.map V.int)) = Hv at s1' u1 W1 g1 ⊢
    refine ea rfl ⟨g, rfl, ⟨_, SqL.of g1⟩, fun Dl hDl => ?_⟩
    refine comp_by (J := Itl K g) op'.length (fun j τ H4 => ∃ v : Option V, τ = [v] ∧ Same Hv H4 ∧ H4 Dl = some (.lst (((op'.take j).map (·.1)).map V.int))) ⟨none, rfl, Same.new hDl, upd_same⟩
     (fun j τ H4 hj ⟨_, _, sm, _⟩ => ⟨_, .ref op'[j].2, SqL.of (sm _ _ g1), by rw [goL, List.getElem?_map, List.getElem?_eq_getElem hj]; rfl⟩)
     (by rintro τ H4 ⟨_, _, sm, _⟩; exact ⟨_, SqL.of (sm _ _ g1), by rw [goL, List.length_map]; exact Nat.le_refl _⟩) ?_ ?_
    ·rintro j τ H4 y H5 hj ⟨v, rfl, sm4, hd4⟩ ⟨rfl, hy⟩
     have ey := hy _ (SqL.of (sm4 _ _ g1))
     rw [goL, List.getElem?_map, List.getElem?_eq_getElem hj] at ey
     cases ey
     have dlj := (W1.dl op'[j] (List.getElem_mem hj)).same sm4
     obtain ⟨ddx, sc, b, L, M, t, n0, ed, _⟩ := id dlj
     refine ea rfl (gF (v := .int op'[j].1) ed T.l_Dealing T.n_Dealing_number (by kernel_rfl) ⟨_, hd4, ?_, _, rfl, sm4.upd hDl, ?_⟩)
     ·rw [List.length_map, List.length_map, List.length_take]
      have := W'.l12
      exact small_line1 (by omega)
     ·rw [upd_same, List.take_succ_eq_append_getElem hj, List.map_append, List.map_append]
      rfl
    ·rintro τ H4 ⟨v, rfl, sm4, hd4⟩
     rw [List.take_length] at hd4
     refine ⟨Dl, op'.map (·.1), rfl, SqL.of hd4, ?_, fun l2 ms2 hl2 pm2 so2 => ?_⟩
     ·rw [List.length_map]
      have := W'.l12
      omega
     have em : ms = ms2 := sorted_eq (pm.trans pm2.symm) so so2
     subst em
     have s5' : Same H4 (upd H4 l2 (.lst (ms.map V.int))) := Same.new hl2
     have u5' : upd H4 l2 (.lst (ms.map V.int)) l2 = some (.lst (ms.map V.int)) := upd_same
     have sa := sm4.trans s5'
     generalize upd H4 l2 (.lst (ms.map V.int)) = Hz at s5' u5' sa ⊢
     refine ⟨l, l2, _, _, rfl, rfl, SqL.of (sa _ _ u1), SqL.of u5', flat_ints ms, flat_ints ms, ea rfl (ite2 (fun zz => ?_) (fun _ => ?_))⟩
     ·rw [eqL_refl] at zz
      exact absurd zz (by decide)
     ·have sb := s1'.trans sa
      exact ⟨n', op', en', v3, _, _, _, _, _, rfl, W'.same sb, sb _ _ eg', sb _ _ ee', sb _ _ ep', li'⟩
   ·intro N hN
    refine use2 (I := fun H2 => Same Hx H2) (fun kk => ea rfl ⟨z % 8, 6, rfl, rfl, ea rfl (ite2 (fun _ => iteT (kk Hx (Same.refl _))) (fun zw => ea rfl ⟨Nat.zero_le _, fun u hu => ⟨g, u, _, rfl, rfl, SqL.of (Same.new hu _ _ eg), SqL.of upd_same, ea rfl (ite2 (fun _ => kk _ (Same.new hu)) (fun ze => ?_))⟩⟩))⟩) ?_
    ·have s1' : Same Hx (upd Hx u (.lst [])) := Same.new hu
     have W1 := W.same s1'
     have g1 := s1' _ _ eg
     have e1 := s1' _ _ ee
     have q1 := s1' _ _ ep
     generalize upd Hx u (.lst []) = Hu at s1' W1 g1 e1 q1 ⊢
     have pos : 0 < op.length := by
      cases op with
      | nil => exact absurd rfl ze
      | cons _ _ => exact Nat.succ_pos _
     have lg : (goL op).length = op.length := List.length_map ..
     refine sq1 fun R8 p8 => ?_
     refine ea rfl ⟨.inl ⟨rfl, _, SqL.of g1⟩, ea rfl ⟨c, 1, rfl, by decide, by decide, fun z2 hz2 => ea rfl ⟨_, _, rfl, .inl (SqL.of g1), ⟨z2, _, rfl, rfl, (by rw [lg]; omega), ?_⟩⟩⟩⟩
     have j0 : 0 ≤ z2 % ((goL op).length : Int) := Int.emod_nonneg _ (by rw [lg]; omega)
     have j1 : z2 % ((goL op).length : Int) < (goL op).length := Int.emod_lt_of_pos _ (by rw [lg]; omega)
     have jl : (z2 % ((goL op).length : Int)).toNat < op.length := by
      rw [lg] at j0 j1 ⊢
      omega
     have l12 := W.l12
     have j2 : z2 % ((goL op).length : Int) < 2 ^ 63 := by
      rw [lg] at j1 ⊢
      omega
     have six := PySem.StrLaws.seqIndex_nonneg j0 j1
     obtain ⟨j, ej⟩ : ∃ j, (z2 % ((goL op).length : Int)).toNat = j := ⟨_, rfl⟩
     rw [ej] at jl six
     obtain ⟨⟨k, d⟩, ekd⟩ : ∃ kd, op[j]? = some kd := ⟨_, List.getElem?_eq_getElem jl⟩
     have mem := List.mem_of_getElem? ekd
     have gj : (goL op)[j]? = some (V.ref d) := by
      rw [goL, List.getElem?_map, ekd]
      rfl
     refine ⟨g, _, _, j, .ref d, rfl, rfl, g1, by omega, j2, six, gj, p8 ?_⟩
     rw [goL_erase, ← ofN_erase W.nd ekd]
     have W2' := W1.wr (ys := goL (ofN k op)) g1 g0
     have g2 : upd Hu g (.lst (goL (ofN k op))) g = some (.lst (goL (ofN k op))) := upd_same
     have e2 := (upd_ne (H := Hu) (o := .lst (goL (ofN k op))) nge.symm).trans e1
     have q2 := (upd_ne (H := Hu) (o := .lst (goL (ofN k op))) ngp.symm).trans q1
     generalize upd Hu g (.lst (goL (ofN k op))) = Hv at W2' g2 e2 q2 ⊢
     have hd2 := W2'.dl _ mem
     obtain ⟨dx, wb, _, _, _, _, eD, eno⟩ := id W2'.ds
     obtain ⟨ddx, sc, b, L, M, t, n0, ed, _⟩ := id hd2
     refine sq1 fun R9 p9 => ?_
     refine ⟨small_line (show 3 ≤ 100000 by decide), fun u1 hu1 => p9 ?_⟩
     have s3' : Same Hv (upd Hv u1 (.tup kptF)) := Same.new hu1
     have t3 : upd Hv u1 (.tup kptF) u1 = some (.tup kptF) := upd_same
     have W3' := W2'.same s3'
     have g3 := s3' _ _ g2
     have e3 := s3' _ _ e2
     have q3 := s3' _ _ q2
     have hd3 := hd2.same s3'
     have eD3 := s3' _ _ eD
     have eno3 := s3' _ _ eno
     have ed3 := s3' _ _ ed
     generalize upd Hv u1 (.tup kptF) = Hw at s3' t3 W3' g3 e3 q3 hd3 eD3 eno3 ed3 ⊢
     refine sqC (fun σ' H' => ∃ (ud : Addr) (F : List V), σ' = [some (.ref a), some (.ref D), some (.int n), v3, some (.ref g), some (.ref eL), some (.int c), some (.int (z % 8)), v8, some (.ref d), some (.ref ud)] ∧ (F = kptF ∨ F = brkF) ∧ H' ud = some (.tup F) ∧ Wd T.C_Dealings T.C_Makes T.C_Schema T.C_Dealing T.P_ov H0 H' D no mk n (ofN k op) en ∧ Deal T.C_Dealing H0 H' no d k F ∧ H' g = some (.lst (goL (ofN k op))) ∧ H' eL = some (.lst (en.map fun e => .ref e.tp)) ∧ H' p = some (.lst (cs.map V.int))) ?_ ?_
     ·rintro σ' H' ⟨ud, F, rfl, hF, hud, W4', hd4, g4, e4, q4⟩
      obtain ⟨f, r, eF, nf, same⟩ := same_end hF
      obtain ⟨ddx4, sc4, b4, L4, M4, t4, n04, ed4, _⟩ := id hd4
      refine sq1 fun R11 p11 => ?_
      refine ea rfl ⟨d, _, _, rfl, ed4, by kernel_rfl, H0, d, no, k, F, rfl, hd4, fun t ht => ea rfl ⟨t, ud, F, rfl, rfl, SqT.of ht, SqT.of hud, eF ▸ same, ea rfl (iteF ?_)⟩⟩
      refine ea rfl (ea rfl ⟨H0, D, d, no, mk, n, k, ofN k op, f, r, rfl, W4'.ds, eF ▸ hd4, nf, same, W4'.tb, fun Hz kz tz => ea rfl (iteF (p11 ?_))⟩)
      obtain ⟨ps, hP⟩ := W4'.tb.tbl
      have W5' := W4'.kp kz tz
      have hd5 := hd4.kp kz W4'.tb
      have hud5 := kz _ _ (ne_of hud hP (fun z => nomatch z)) hud
      have g5 := kz _ _ (ne_of g4 hP (fun z => nomatch z)) g4
      have e5 := kz _ _ (ne_of e4 hP (fun z => nomatch z)) e4
      have q5 := kz _ _ (ne_of q4 hP (fun z => nomatch z)) q4
      refine ea rfl ⟨.inl ⟨rfl, _, SqL.of e5⟩, ea rfl (ea rfl ⟨small_line (show 2 ≤ 100000 by decide), fun tp htp => ?_⟩)⟩
      have s6' : Same Hz (upd Hz tp (.tup [.ref d, .ref ud])) := Same.new htp
      have t6 : upd Hz tp (.tup [.ref d, .ref ud]) tp = some (.tup [.ref d, .ref ud]) := upd_same
      have W6' := W5'.same s6'
      have g6 := s6' _ _ g5
      have e6 := s6' _ _ e5
      have q6 := s6' _ _ q5
      have hd6 := hd5.same s6'
      have hud6 := s6' _ _ hud5
      generalize upd Hz tp (.tup [.ref d, .ref ud]) = Hy at s6' t6 W6' g6 e6 q6 hd6 hud6 ⊢
      refine ⟨eL, _, _, rfl, rfl, e6, ?_, hN _ _ ?_⟩
      ·rw [List.length_map]
       exact small_line1 (by omega)
      have W7' := (W6'.add (e := ⟨tp, d, ud, k, F⟩) ⟨t6, hud6, hd6, ofN_no, W.le _ mem, hF⟩).wr (ys := (en.map fun e => V.ref e.tp) ++ [.ref tp]) e6 e0
      refine ⟨n, ofN k op, en ++ [⟨tp, d, ud, k, F⟩], _, _, _, rfl, W7', (upd_ne nge).trans g6, ?_, (upd_ne nep.symm).trans q6, ?_⟩
      ·rw [upd_same, List.map_append]
       rfl
      ·rw [List.length_append]
       exact Nat.succ_le_succ li
     ·intro N2 hN2
      refine ea rfl ⟨rfl, ea rfl (ite2 (fun _ => ?_) (fun _ => ?_))⟩
      ·refine ea rfl ⟨D, _, _, rfl, eD3, by kernel_rfl, ea rfl ⟨H0, D, d, no, mk, n, k, op, "open", [.int 0], rfl, W3'.ds, hd3, fun _ => ⟨List.mem_map.mpr ⟨_, mem, rfl⟩, fun Hb cb enob hdb => hN2 _ _ ?_⟩, fun nf => absurd rfl nf⟩⟩
       exact ⟨u1, kptF, rfl, .inl rfl, ch_tup cb ed3 eno3 t3, W3'.ended mem cb enob hdb, hdb, ch_lst cb ed3 eno3 g3, ch_lst cb ed3 eno3 e3, ch_lst cb ed3 eno3 q3⟩
      ·refine sq1 fun R10 p10 => ?_
       refine ea rfl ⟨D, _, _, rfl, eD3, by kernel_rfl, ea rfl ⟨H0, D, d, no, mk, n, k, op, "open", [.int 0], rfl, W3'.ds, hd3, fun _ => ⟨List.mem_map.mpr ⟨_, mem, rfl⟩, fun Hb cb enob hdb => p10 ⟨small_line (show 2 ≤ 100000 by decide), fun u2 hu2 => hN2 _ _ ?_⟩⟩, fun nf => absurd rfl nf⟩⟩
       have sz : Same Hb (upd Hb u2 (.tup brkF)) := Same.new hu2
       exact ⟨u2, brkF, rfl, .inr rfl, upd_same, (W3'.ended mem cb enob hdb).same sz, hdb.same sz, sz _ _ (ch_lst cb ed3 eno3 g3), sz _ _ (ch_lst cb ed3 eno3 e3), sz _ _ (ch_lst cb ed3 eno3 q3)⟩
    ·intro H2 s2
     have W1 := W.same s2
     have g1 := s2 _ _ eg
     have e1 := s2 _ _ ee
     have q1 := s2 _ _ ep
     obtain ⟨dx, wb, _, _, _, _, eD, eno⟩ := id W1.ds
     have nk : n + 1 ∉ op.map (·.1) := fun m => by
      obtain ⟨pr, hpr, e⟩ := List.mem_map.mp m
      have := W.le pr hpr
      omega
     refine sq1 fun R8 p8 => ?_
     refine ea rfl (ea rfl (ea rfl ⟨H0, D, no, mk, g, n, op, rfl, W1.ds, nk, W.l12, W.n4, g1, fun full H3 l s3 el => ?_, fun l1 n1 H3 d l hd c3 hD3 hd3 el => ?_⟩))
     ·refine ⟨l, _, rfl, SqL.of el, rfl, _, _, rfl, _, _, rfl, rfl, p8 ?_⟩
      refine sq1 fun R9 p9 => ?_
      refine ea rfl (ea rfl (iteF (p9 ?_)))
      refine ea rfl (ea rfl (iteNS rfl (hN _ _ ?_)))
      exact ⟨n, op, en, _, _, _, rfl, W1.same s3, s3 _ _ g1, s3 _ _ e1, s3 _ _ q1, Nat.le_succ_of_le li⟩
     ·have W3' := W1.begun n1 l1 c3 hD3 hd3
      have g3 := ch_lst c3 eD eno g1
      have e3 := ch_lst c3 eD eno e1
      have q3 := ch_lst c3 eD eno q1
      refine ⟨l, _, rfl, SqL.of el, rfl, _, _, rfl, _, _, rfl, rfl, p8 ?_⟩
      refine sq1 fun R9 p9 => ?_
      refine ea rfl (ea rfl (iteF (p9 ?_)))
      refine ea rfl (ea rfl (ite2 (fun _ => ?_) (fun zz => ?_)))
      ·refine sq1 fun R10 p10 => ?_
       refine ea rfl ⟨.inl ⟨rfl, _, SqL.of g3⟩, ea rfl ⟨g, _, _, rfl, rfl, g3, ?_, p10 ?_⟩⟩
       ·rw [goL, List.length_map]
        exact small_line1 (by omega)
       ·refine ea rfl ⟨n, 1, rfl, rfl, hN _ _ ?_⟩
        refine ⟨n + 1, op ++ [(n + 1, d)], en, _, _, _, rfl, W3'.wr g3 g0, ?_, (upd_ne nge.symm).trans e3, (upd_ne ngp.symm).trans q3, Nat.le_succ_of_le li⟩
        rw [upd_same, goL, goL, List.map_append]
        rfl
      ·exact absurd (by rw [decide_eq_false (fun z => nomatch z)]; rfl) zz
  ·rintro σ Hx ⟨n, op, en, v3, v6, v7, v8, v9, v10, rfl, W, eg, ee, ep, li⟩
   refine p6 ?_
   refine sq1 fun R7 p7 => ?_
   refine ea rfl ⟨eL, rfl, ⟨_, SqL.of ee⟩, ?_⟩
   refine for_list (K := K) (a := eL) (xs := en.map fun e => V.ref e.tp) (fun i σ Hy => ∃ w9 w10 : Option V, σ = [some (.ref a), some (.ref D), some (.int n), v3, some (.ref g), some (.ref eL), v6, v7, v8, w9, w10] ∧ Wd T.C_Dealings T.C_Makes T.C_Schema T.C_Dealing T.P_ov H0 Hy D no mk n op en ∧ Hy eL = some (.lst (en.map fun e => .ref e.tp))) ⟨_, _, rfl, W, ee⟩ ?_ ?_ ?_
   ·rintro i σ Hy _ ⟨_, _, _, _, e⟩
    exact SqL.of e
   ·rintro i x σ Hy hi ⟨w9, w10, rfl, Wy, ey⟩
    rw [List.getElem?_map] at hi
    cases hen : en[i]? with
    | none => rw [hen] at hi; cases hi
    | some e =>
     rw [hen] at hi
     cases hi
     have o := Wy.ed e (List.mem_of_getElem? hen)
     obtain ⟨f, r, eF, nf, same⟩ := same_end o.f
     obtain ⟨ddx, sc, b, L, M, t, n0, ed, _⟩ := id o.dl
     refine ⟨e.tp, _, rfl, SqT.of o.tp, rfl, _, _, rfl, _, _, rfl, rfl, ?_⟩
     refine ea rfl ⟨e.d, _, _, rfl, ed, by kernel_rfl, H0, e.d, no, e.k, e.F, rfl, o.dl, fun t ht => ea rfl ⟨t, e.u, e.F, rfl, rfl, SqT.of ht, SqT.of o.u, eF ▸ same, ea rfl (iteF ?_)⟩⟩
     refine ea rfl (ea rfl ⟨H0, D, e.d, no, mk, n, e.k, op, f, r, rfl, Wy.ds, eF ▸ o.dl, nf, same, Wy.tb, fun Hz kz tz => ea rfl (iteF ⟨_, _, rfl, Wy.kp kz tz, ?_⟩)⟩)
     obtain ⟨ps, hP⟩ := Wy.tb.tbl
     exact kz _ _ (ne_of ey hP (fun z => nomatch z)) ey
   ·rintro σ Hy ⟨w9, w10, rfl, Wy, ey⟩
    refine p7 (ret_op (fld_of (meth_of (new_ds T fun H0' H1' D' no' mk' s' _ _ hD' => ?_))))
    obtain ⟨dx, wb, _, _, _, _, eD', _⟩ := id hD'
    refine ⟨D', _, _, rfl, eD', by kernel_rfl, H0', D', no', mk', 0, [], rfl, hD', (fun z => nomatch z), by decide, fun full => ?_, fun _ _ H'' d hd c hD'' hd'' => ?_⟩
    ·rcases full with z | z
     ·exact absurd z (by decide)
     ·exact absurd z (by decide)
    ·obtain ⟨ddx, sc, b, L, M, t, n0, ed, _⟩ := id hd''
     refine gF (v := .int (0 + 1)) ed T.l_Dealing T.n_Dealing_number (by kernel_rfl) ⟨rfl, ?_⟩
     rw [decide_eq_true (show V.int (0 + 1) = V.int 1 from rfl)]
     exact q _
end
theorem fin {l : PySem.W.OpenLaw} {w : World} {K : PySem.W.Frag} {mg : Str → Option Value} {fa : Addr} (T : Txt K mg) (hfa : mg "law" = some (.ref fa)) : ∃ fd : FuncData, (∀ (s : Shared) (v : Value), BindsTo s fd ⟨[v], []⟩ [("_law_script", v)]) ∧ ∀ base : Heap, K.In base → base.Ns mainGlobals mg → Bm mg base → FnOk l.prog w K mg base CX0 9 fa fd ["_law_script"] (sp_law K T.P_ov) := by
 cases hfa.symm.trans T.law.gl
 refine ⟨T.law.fd, fun s v => ?_, fun base _ _ hbm => ok_law T hbm⟩
 obtain ⟨_, _, _, _, _, _, _, _, _, e, _⟩ := T.law.fn.ex
 rw [e]
 exact .of_eq rfl
theorem all_mk {l : PySem.W.OpenLaw} {w : World} {K : PySem.W.Frag} {h : Heap} {mg : Str → Option Value} {fa : Addr} (X : K.In h) (G : h.Ns mainGlobals mg) (hfa : mg "law" = some (.ref fa))
  {f0 f1 f2 f3 f4 f5 f6 f7 f8 f9 f10 f11 f12 f13 f14 f15 f16 f17 f18 f19 f20 f21 f22 f23 f24 f25 f26 f27 f28 f29 f30 f31 f32 f33 f34 f35 f36 : Addr}
  {dt5 : Addr} {do5 : Obj} {dn5 : Nat} {od5 an5 : Option Addr} {sl5 : Array (Option Value)} {oc5 kV5 dc5 pm5 cd5 ct5 : Value}
  {dt30 : Addr} {do30 : Obj} {dn30 : Nat} {od30 an30 : Option Addr} {sl30 : Array (Option Value)} {oc30 kV30 dc30 pm30 cd30 ct30 : Value}
  {C_Makes C_AtMake C_Dealing C_Dealings C_Schema C_StoreError C_Over C_TooMany C_NoRow : Addr}
  {c_ov P_ov : Addr}
  {D_KINDS : Addr} {oD_KINDS : Obj} {iD_KINDS : Array Value} {pD_KINDS : Nat}
  {t_GREATEST : Tok}
  {t_LETTERS : Tok}
  {t_LONGEST_NAME : Tok}
  {t_MOST : Tok}
  {t_MOST_AT_ONCE : Tok}
  {t_MOST_IN_ALL : Tok}
  (aC_Makes : PySem.W.nsIn K mainGlobals "Makes" = some (some (.ref C_Makes)))
  (lc_Makes : Cls K C_Makes)
  (mk_Makes : PySem.W.makesIn K C_Makes = true)
  (kc_Makes : PySem.W.keepIn K (.ref C_Makes) = true)
  (n_Makes_schema : PySem.W.findIn K (.ref C_Makes) "schema" = some none)
  (n_Makes_last : PySem.W.findIn K (.ref C_Makes) "last" = some none)
  (n_Makes_still_told : PySem.W.findIn K (.ref C_Makes) "still_told" = some none)
  (n_Makes_stretches : PySem.W.findIn K (.ref C_Makes) "stretches" = some none)
  (n_Makes_last_written : PySem.W.findIn K (.ref C_Makes) "last_written" = some none)
  (aC_AtMake : PySem.W.nsIn K mainGlobals "AtMake" = some (some (.ref C_AtMake)))
  (lc_AtMake : Cls K C_AtMake)
  (mk_AtMake : PySem.W.makesIn K C_AtMake = true)
  (kc_AtMake : PySem.W.keepIn K (.ref C_AtMake) = true)
  (n_AtMake_makes : PySem.W.findIn K (.ref C_AtMake) "makes" = some none)
  (n_AtMake_make : PySem.W.findIn K (.ref C_AtMake) "make" = some none)
  (aC_Dealing : PySem.W.nsIn K mainGlobals "Dealing" = some (some (.ref C_Dealing)))
  (lc_Dealing : Cls K C_Dealing)
  (mk_Dealing : PySem.W.makesIn K C_Dealing = true)
  (kc_Dealing : PySem.W.keepIn K (.ref C_Dealing) = true)
  (n_Dealing_number : PySem.W.findIn K (.ref C_Dealing) "number" = some none)
  (n_Dealing_schema : PySem.W.findIn K (.ref C_Dealing) "schema" = some none)
  (n_Dealing_begun_at : PySem.W.findIn K (.ref C_Dealing) "begun_at" = some none)
  (n_Dealing_beneath : PySem.W.findIn K (.ref C_Dealing) "beneath" = some none)
  (n_Dealing_laid_over : PySem.W.findIn K (.ref C_Dealing) "laid_over" = some none)
  (n_Dealing_fate_now : PySem.W.findIn K (.ref C_Dealing) "fate_now" = some none)
  (aC_Dealings : PySem.W.nsIn K mainGlobals "Dealings" = some (some (.ref C_Dealings)))
  (lc_Dealings : Cls K C_Dealings)
  (mk_Dealings : PySem.W.makesIn K C_Dealings = true)
  (kc_Dealings : PySem.W.keepIn K (.ref C_Dealings) = true)
  (n_Dealings_makes : PySem.W.findIn K (.ref C_Dealings) "makes" = some none)
  (n_Dealings_begun_many : PySem.W.findIn K (.ref C_Dealings) "begun_many" = some none)
  (n_Dealings_not_over : PySem.W.findIn K (.ref C_Dealings) "not_over" = some none)
  (n_Dealings_written_by : PySem.W.findIn K (.ref C_Dealings) "written_by" = some none)
  (aC_Schema : PySem.W.nsIn K mainGlobals "Schema" = some (some (.ref C_Schema)))
  (lc_Schema : Cls K C_Schema)
  (mk_Schema : PySem.W.makesIn K C_Schema = true)
  (kc_Schema : PySem.W.keepIn K (.ref C_Schema) = true)
  (n_Schema_tables : PySem.W.findIn K (.ref C_Schema) "tables" = some none)
  (n_Schema_orders : PySem.W.findIn K (.ref C_Schema) "orders" = some none)
  (n_Schema_columns : PySem.W.findIn K (.ref C_Schema) "columns" = some none)
  (aX_StoreError : PySem.W.nsIn K mainGlobals "StoreError" = some (some (.ref C_StoreError)))
  (aX_Over : PySem.W.nsIn K mainGlobals "Over" = some (some (.ref C_Over)))
  (aX_TooMany : PySem.W.nsIn K mainGlobals "TooMany" = some (some (.ref C_TooMany)))
  (aX_NoRow : PySem.W.nsIn K mainGlobals "NoRow" = some (some (.ref C_NoRow)))
  (x_TooMany : PySem.W.excIn K C_TooMany VB "ValueError.__new__" = true)
  (ycl_TooMany : PySem.W.hasDictIn K C_TooMany = true)
  (yga_TooMany : PySem.W.findIn K (.ref C_TooMany) "__getattribute__" = some (some (.builtin "BaseException.__getattribute__")))
  (ygt_TooMany : PySem.W.findIn K (.ref C_TooMany) "__getattr__" = some none)
  (yha_TooMany : PySem.W.findIn K (.ref C_TooMany) "__class__" = some (some (.builtin "object.__class__")))
  (yhn_TooMany : PySem.W.specialIn K (.builtin "object.__class__") "__get__" = some (some (.builtin "getset_descriptor.__get__")))
  (ytk_TooMany : PySem.W.takesIn K (.builtin "object.__class__") = some true)
  (yhm_TooMany : PySem.W.mroIn K C_TooMany (.type "object") = some true)
  (yhb_TooMany : PySem.W.mroIn K C_TooMany (.type "BaseException") = some true)
  (e_ov : PySem.W.exmOne K (.ref C_Over) (.ref C_StoreError) = some true)
  (e_tm : PySem.W.exmOne K (.ref C_TooMany) (.ref C_TooMany) = some true)
  (k_tm : PySem.W.kitOne K (.ref C_TooMany) (.ref C_StoreError) = some true)
  (k_oo : PySem.W.kitOne K (.ref C_Over) (.ref C_Over) = some true)
  (k_on : PySem.W.kitOne K (.ref C_Over) (.ref C_NoRow) = some false)
  (yB_Over : xisB K C_Over = true)
  (xI_Over : exiIn K C_Over f0 = true)
  (kB_Over : PySem.W.keepIn K (.ref C_Over) = true)
  (aB_Over : xatB K C_Over ["number"] = true)
  (d0 : Mf K C_Over "__init__" "Over.__init__" s_Over___init__ f0)
  (d1 : Gf K "is_whole" s_is_whole f1)
  (d2 : Gf K "has_only" s_has_only f2)
  (d3 : Gf K "is_name" s_is_name f3)
  (d4 : Gf K "is_value" s_is_value f4)
  (a5 : PySem.W.findIn K (.ref C_Makes) "__init__" = some (some (.ref f5)))
  (i5 : PySem.W.isFn K (.ref f5) = true)
  (l5 : K.lookup f5 = some ⟨oc5, od5, .func (PySem.W.fnOf "__init__" "Makes.__init__" (defArgs s_Makes___init__) (defBody s_Makes___init__) (defScope s_Makes___init__) (.ref dt5) kV5 dc5 pm5 an5 cd5 ct5), sl5⟩)
  (ld5 : K.lookup dt5 = some do5)
  (dd5 : do5.data = .seq #[.none] dn5)
  (c5 : PySem.W.codeIn K cd5 "Makes.__init__" = true)
  (k5 : PySem.W.keepIn K (.ref f5) = true)
  (d6 : Mf K C_Makes "last_make" "Makes.last_make" s_Makes_last_make f6)
  (d7 : Mf K C_AtMake "__init__" "AtMake.__init__" s_AtMake___init__ f7)
  (d8 : Mf K C_Dealing "__init__" "Dealing.__init__" s_Dealing___init__ f8)
  (d9 : Mf K C_Dealing "need_not_over" "Dealing.need_not_over" s_Dealing_need_not_over f9)
  (d10 : Mf K C_Dealing "written" "Dealing.written" s_Dealing_written f10)
  (d11 : Mf K C_Dealing "fate" "Dealing.fate" s_Dealing_fate f11)
  (d12 : Mf K C_Dealing "end_kept" "Dealing.end_kept" s_Dealing_end_kept f12)
  (d13 : Mf K C_Dealing "end_broken" "Dealing.end_broken" s_Dealing_end_broken f13)
  (d14 : Mf K C_Dealings "__init__" "Dealings.__init__" s_Dealings___init__ f14)
  (d15 : Mf K C_Dealings "begin" "Dealings.begin" s_Dealings_begin f15)
  (d16 : Mf K C_Dealings "open_list" "Dealings.open_list" s_Dealings_open_list f16)
  (d17 : Mf K C_Dealings "may_keep" "Dealings.may_keep" s_Dealings_may_keep f17)
  (d18 : Mf K C_Dealings "settled" "Dealings.settled" s_Dealings_settled f18)
  (d19 : Mf K C_Dealings "keep_it" "Dealings.keep_it" s_Dealings_keep_it f19)
  (d20 : Mf K C_Dealings "broken" "Dealings.broken" s_Dealings_broken f20)
  (d21 : Gf K "few_of" s_few_of f21)
  (d22 : Gf K "pair_of" s_pair_of f22)
  (d23 : Gf K "need_name" s_need_name f23)
  (d24 : Gf K "need_unlike" s_need_unlike f24)
  (d25 : Gf K "column_from" s_column_from f25)
  (d26 : Gf K "table_from" s_table_from f26)
  (d27 : Gf K "tables_from" s_tables_from f27)
  (d28 : Gf K "order_from" s_order_from f28)
  (d29 : Gf K "orders_from" s_orders_from f29)
  (a30 : PySem.W.findIn K (.ref C_Schema) "__init__" = some (some (.ref f30)))
  (i30 : PySem.W.isFn K (.ref f30) = true)
  (l30 : K.lookup f30 = some ⟨oc30, od30, .func (PySem.W.fnOf "__init__" "Schema.__init__" (defArgs s_Schema___init__) (defBody s_Schema___init__) (defScope s_Schema___init__) (.ref dt30) kV30 dc30 pm30 an30 cd30 ct30), sl30⟩)
  (ld30 : K.lookup dt30 = some do30)
  (dd30 : do30.data = .seq #[.none] dn30)
  (c30 : PySem.W.codeIn K cd30 "Schema.__init__" = true)
  (k30 : PySem.W.keepIn K (.ref f30) = true)
  (d31 : Mf K C_Schema "table_names" "Schema.table_names" s_Schema_table_names f31)
  (d32 : Gf K "_law_at" s__law_at f32)
  (d33 : Gf K "_law_mix" s__law_mix f33)
  (d34 : Gf K "_law_over" s__law_over f34)
  (d35 : Gf K "_law_begun" s__law_begun f35)
  (d36 : Gf K "law" s_law f36)
  (m_ov : lamB K f34 c_ov P_ov = true)
  (z_all : PySem.W.nsIn K mainGlobals "all" = some none)
  (z_bool : PySem.W.nsIn K mainGlobals "bool" = some none)
  (z_dict : PySem.W.nsIn K mainGlobals "dict" = some none)
  (z_int : PySem.W.nsIn K mainGlobals "int" = some none)
  (z_isinstance : PySem.W.nsIn K mainGlobals "isinstance" = some none)
  (z_len : PySem.W.nsIn K mainGlobals "len" = some none)
  (z_list : PySem.W.nsIn K mainGlobals "list" = some none)
  (z_range : PySem.W.nsIn K mainGlobals "range" = some none)
  (z_set : PySem.W.nsIn K mainGlobals "set" = some none)
  (z_sorted : PySem.W.nsIn K mainGlobals "sorted" = some none)
  (z_str : PySem.W.nsIn K mainGlobals "str" = some none)
  (z_tuple : PySem.W.nsIn K mainGlobals "tuple" = some none)
  (g_GREATEST : PySem.W.nsIn K mainGlobals "GREATEST" = some (some (.int 1000000000 t_GREATEST)))
  (g_LETTERS : PySem.W.nsIn K mainGlobals "LETTERS" = some (some (.str "abcdefghijklmnopqrstuvwxyz" t_LETTERS)))
  (g_LONGEST_NAME : PySem.W.nsIn K mainGlobals "LONGEST_NAME" = some (some (.int 8 t_LONGEST_NAME)))
  (g_MOST : PySem.W.nsIn K mainGlobals "MOST" = some (some (.int 4 t_MOST)))
  (g_MOST_AT_ONCE : PySem.W.nsIn K mainGlobals "MOST_AT_ONCE" = some (some (.int 12 t_MOST_AT_ONCE)))
  (g_MOST_IN_ALL : PySem.W.nsIn K mainGlobals "MOST_IN_ALL" = some (some (.int 400 t_MOST_IN_ALL)))
  (nT_KINDS : PySem.W.nsIn K mainGlobals "KINDS" = some (some (.ref D_KINDS)))
  (lT_KINDS : K.lookup D_KINDS = some oD_KINDS)
  (xT_KINDS : oD_KINDS.cls = .type "tuple")
  (tT_KINDS : oD_KINDS.data = .seq iD_KINDS pD_KINDS)
  (zT_KINDS : iD_KINDS.size ≤ 100000)
  (kT_KINDS : Vals [.str "number", .str "word"] iD_KINDS.toList) :
  ∃ fd : FuncData, (∀ (s : Shared) (v : Value), BindsTo s fd ⟨[v], []⟩ [("_law_script", v)]) ∧ ∀ base : Heap, K.In base → base.Ns mainGlobals mg → Bm mg base → FnOk l.prog w K mg base CX0 9 fa fd ["_law_script"] (sp_law K P_ov) := by
 have F5 : FunD K "__init__" "Makes.__init__" s_Makes___init__ f5 (.ref dt5) _ := ⟨⟨_, _, _, _, _, _, _, _, _, rfl, l5, c5⟩, k5⟩
 have F30 : FunD K "__init__" "Schema.__init__" s_Schema___init__ f30 (.ref dt30) _ := ⟨⟨_, _, _, _, _, _, _, _, _, rfl, l30, c30⟩, k30⟩
 exact fin { C_Makes := C_Makes, c_Makes := PySem.W.mg_of X G aC_Makes, l_Makes := lc_Makes, n_Makes_schema := n_Makes_schema, n_Makes_last := n_Makes_last, n_Makes_still_told := n_Makes_still_told, n_Makes_stretches := n_Makes_stretches, n_Makes_last_written := n_Makes_last_written, k_Makes := ⟨mk_Makes, a5, i5, kc_Makes⟩, C_AtMake := C_AtMake, c_AtMake := PySem.W.mg_of X G aC_AtMake, l_AtMake := lc_AtMake, n_AtMake_makes := n_AtMake_makes, n_AtMake_make := n_AtMake_make, k_AtMake := ⟨mk_AtMake, d7.a, d7.i, kc_AtMake⟩, C_Dealing := C_Dealing, c_Dealing := PySem.W.mg_of X G aC_Dealing, l_Dealing := lc_Dealing, n_Dealing_number := n_Dealing_number, n_Dealing_schema := n_Dealing_schema, n_Dealing_begun_at := n_Dealing_begun_at, n_Dealing_beneath := n_Dealing_beneath, n_Dealing_laid_over := n_Dealing_laid_over, n_Dealing_fate_now := n_Dealing_fate_now, k_Dealing := ⟨mk_Dealing, d8.a, d8.i, kc_Dealing⟩, C_Dealings := C_Dealings, c_Dealings := PySem.W.mg_of X G aC_Dealings, l_Dealings := lc_Dealings, n_Dealings_makes := n_Dealings_makes, n_Dealings_begun_many := n_Dealings_begun_many, n_Dealings_not_over := n_Dealings_not_over, n_Dealings_written_by := n_Dealings_written_by, k_Dealings := ⟨mk_Dealings, d14.a, d14.i, kc_Dealings⟩, C_Schema := C_Schema, c_Schema := PySem.W.mg_of X G aC_Schema, l_Schema := lc_Schema, n_Schema_tables := n_Schema_tables, n_Schema_orders := n_Schema_orders, n_Schema_columns := n_Schema_columns, k_Schema := ⟨mk_Schema, a30, i30, kc_Schema⟩, D_KINDS := D_KINDS, c_KINDS := PySem.W.mg_of X G nT_KINDS, t_KINDS := ⟨oD_KINDS, iD_KINDS, pD_KINDS, lT_KINDS, xT_KINDS, tT_KINDS, small_line zT_KINDS, kT_KINDS⟩, C_StoreError := C_StoreError, c_StoreError := PySem.W.mg_of X G aX_StoreError, C_Over := C_Over, c_Over := PySem.W.mg_of X G aX_Over, C_TooMany := C_TooMany, c_TooMany := PySem.W.mg_of X G aX_TooMany, C_NoRow := C_NoRow, c_NoRow := PySem.W.mg_of X G aX_NoRow, x_TooMany := x_TooMany, y_TooMany := ⟨has_cls ycl_TooMany, yga_TooMany, ygt_TooMany, yha_TooMany, yhn_TooMany, ytk_TooMany, yhm_TooMany, yhb_TooMany⟩, e_ov := e_ov, e_tm := e_tm, k_tm := k_tm, k_oo := k_oo, k_on := k_on, y_Over := xis_of yB_Over, k_Over := ⟨xI_Over, d0.i, kB_Over⟩, g_Over_number := xget_of (xis_of yB_Over) aB_Over (.head _), s_Over_number := xset_of aB_Over (.head _), Over___init__ := d0.mx (fun _ _ _ _ _ _ => bs fun _ => bs fun _ => b0 rfl), is_whole := d1.fx X G (fun _ _ _ _ _ _ => bs fun _ => b0 rfl), has_only := d2.fx X G (fun _ _ _ _ _ _ => bs fun _ => bs fun _ => b0 rfl), is_name := d3.fx X G (fun _ _ _ _ _ _ => bs fun _ => b0 rfl), is_value := d4.fx X G (fun _ _ _ _ _ _ => bs fun _ => bs fun _ => b0 rfl), Makes___init__ := ⟨_, _, dt5, do5, dn5, F5, ld5, dd5, ⟨a5, i5, k5⟩⟩, Makes_last_make := d6.mx (fun _ _ _ _ _ _ => bs fun _ => b0 rfl), AtMake___init__ := d7.mx (fun _ _ _ _ _ _ => bs fun _ => bs fun _ => bs fun _ => b0 rfl), Dealing___init__ := d8.mx (fun _ _ _ _ _ _ => bs fun _ => bs fun _ => bs fun _ => b0 rfl), Dealing_need_not_over := d9.mx (fun _ _ _ _ _ _ => bs fun _ => b0 rfl), Dealing_written := d10.mx (fun _ _ _ _ _ _ => bs fun _ => b0 rfl), Dealing_fate := d11.mx (fun _ _ _ _ _ _ => bs fun _ => b0 rfl), Dealing_end_kept := d12.mx (fun _ _ _ _ _ _ => bs fun _ => bs fun _ => b0 rfl), Dealing_end_broken := d13.mx (fun _ _ _ _ _ _ => bs fun _ => b0 rfl), Dealings___init__ := d14.mx (fun _ _ _ _ _ _ => bs fun _ => bs fun _ => b0 rfl), Dealings_begin := d15.mx (fun _ _ _ _ _ _ => bs fun _ => b0 rfl), Dealings_open_list := d16.mx (fun _ _ _ _ _ _ => bs fun _ => b0 rfl), Dealings_may_keep := d17.mx (fun _ _ _ _ _ _ => bs fun _ => bs fun _ => b0 rfl), Dealings_settled := d18.mx (fun _ _ _ _ _ _ => bs fun _ => bs fun _ => b0 rfl), Dealings_keep_it := d19.mx (fun _ _ _ _ _ _ => bs fun _ => bs fun _ => b0 rfl), Dealings_broken := d20.mx (fun _ _ _ _ _ _ => bs fun _ => bs fun _ => b0 rfl), few_of := d21.fx X G (fun _ _ _ _ _ _ => bs fun _ => bs fun _ => b0 rfl), pair_of := d22.fx X G (fun _ _ _ _ _ _ => bs fun _ => b0 rfl), need_name := d23.fx X G (fun _ _ _ _ _ _ => bs fun _ => b0 rfl), need_unlike := d24.fx X G (fun _ _ _ _ _ _ => bs fun _ => b0 rfl), column_from := d25.fx X G (fun _ _ _ _ _ _ => bs fun _ => b0 rfl), table_from := d26.fx X G (fun _ _ _ _ _ _ => bs fun _ => b0 rfl), tables_from := d27.fx X G (fun _ _ _ _ _ _ => bs fun _ => b0 rfl), order_from := d28.fx X G (fun _ _ _ _ _ _ => bs fun _ => bs fun _ => b0 rfl), orders_from := d29.fx X G (fun _ _ _ _ _ _ => bs fun _ => bs fun _ => b0 rfl), Schema___init__ := ⟨_, _, dt30, do30, dn30, F30, ld30, dd30, ⟨a30, i30, k30⟩⟩, Schema_table_names := d31.mx (fun _ _ _ _ _ _ => bs fun _ => b0 rfl), _law_at := d32.fx X G (fun _ _ _ _ _ _ => bs fun _ => bs fun _ => b0 rfl), _law_mix := d33.fx X G (fun _ _ _ _ _ _ => bs fun _ => bs fun _ => b0 rfl), _law_over := d34.fx X G (fun _ _ _ _ _ _ => bs fun _ => bs fun _ => b0 rfl), _law_begun := d35.fx X G (fun _ _ _ _ _ _ => bs fun _ => bs fun _ => bs fun _ => b0 rfl), law := d36.fx X G (fun _ _ _ _ _ _ => bs fun _ => b0 rfl), c_ov := c_ov, P_ov := P_ov, m_ov := m_ov, b_all := PySem.W.mg_none_of X G z_all, b_bool := PySem.W.mg_none_of X G z_bool, b_dict := PySem.W.mg_none_of X G z_dict, b_int := PySem.W.mg_none_of X G z_int, b_isinstance := PySem.W.mg_none_of X G z_isinstance, b_len := PySem.W.mg_none_of X G z_len, b_list := PySem.W.mg_none_of X G z_list, b_range := PySem.W.mg_none_of X G z_range, b_set := PySem.W.mg_none_of X G z_set, b_sorted := PySem.W.mg_none_of X G z_sorted, b_str := PySem.W.mg_none_of X G z_str, b_tuple := PySem.W.mg_none_of X G z_tuple, u_GREATEST := _, c_GREATEST := PySem.W.mg_of X G g_GREATEST, r_GREATEST := ⟨_, rfl⟩, u_LETTERS := _, c_LETTERS := PySem.W.mg_of X G g_LETTERS, r_LETTERS := ⟨_, rfl⟩, u_LONGEST_NAME := _, c_LONGEST_NAME := PySem.W.mg_of X G g_LONGEST_NAME, r_LONGEST_NAME := ⟨_, rfl⟩, u_MOST := _, c_MOST := PySem.W.mg_of X G g_MOST, r_MOST := ⟨_, rfl⟩, u_MOST_AT_ONCE := _, c_MOST_AT_ONCE := PySem.W.mg_of X G g_MOST_AT_ONCE, r_MOST_AT_ONCE := ⟨_, rfl⟩, u_MOST_IN_ALL := _, c_MOST_IN_ALL := PySem.W.mg_of X G g_MOST_IN_ALL, r_MOST_IN_ALL := ⟨_, rfl⟩ } hfa
theorem walk {l : PySem.W.OpenLaw} {q : Program} {loose : List Str} {XP : (Str → Option Value) → Heap → Prop} {YP : World → Heap → Prop} {d : DefRec} {K : Params → PySem.W.Frag} {c R : Addr} (hn : l.most = some 63) (hdf : d.params.defaults = [])
  (hY : ∀ (w : World) (h : Heap), YP w h → (K w.params).In h)
  (hrec : ((recsOf q).find? fun e => e.name == ("_law_over" : Str)).isSome = true) (htab : ∀ w : World, PySem.W.tabIn (K w.params) "_law_over" = some (c, R)) (hKR : ∀ w : World, (K w.params).lookup R = none)
  (F : ∀ (w : World) (mg : Str → Option Value) (fa : Addr) (h : Heap), (K w.params).In h → h.Ns mainGlobals mg → mg d.name = some (.ref fa) →
   ∃ fd : FuncData, (∀ (s : Shared) (u : Value), BindsTo s fd ⟨[u], []⟩ [("_law_script", u)]) ∧ ∀ base : Heap, (K w.params).In base → base.Ns mainGlobals mg → Bm mg base → FnOk l.prog w (K w.params) mg base CX0 9 fa fd ["_law_script"] (sp_law (K w.params) R)) :
  PySem.W.WalkO q loose XP YP l.row.toRowW d [] (fun f vs => PySem.call f vs) :=
 have ⟨_, hrec⟩ := Option.isSome_iff_exists.mp hrec
 L2.walk_ofT (n := 63) (k := 9) (x := "_law_script") (CX := CX0) (sp := fun K => sp_law K R) hn (by decide) hdf ⟨rfl, by decide, by decide, rfl⟩ hY hrec htab hKR F (fun _ _ a ns hl hO hS => ⟨a, ns, rfl, hS, hl, hO.1, fun _ => rfl⟩) fun _ _ _ _ z => z
end K16
open PySem PySem.W PyProof.Rows
set_option maxRecDepth 100000 in
set_option maxHeartbeats 0 in
theorem PySem.Challenge.cw_planstore_k16_how_many_dealings_holds : PySem.Challenge.rw_planstore_k16_how_many_dealings.Holds := by
 w_on; o_law; k_head; (case hw => w_witness2)
 k_fill
 refine K16.walk (l := PySem.Challenge.rw_planstore_k16_how_many_dealings) (c := 662) (R := 658) rfl rfl (fun w h Y => PySem.W.km_in_of Y) ?R1 ?R2 ?R3 ?F
 case R1 => kernel_rfl
 case R2 =>
  intro w
  kernel_rfl
 case R3 =>
  intro w
  kernel_rfl
 case F =>
  intro w mg fa h KX G hmg
  refine' K16.all_mk (c_ov := 662) (P_ov := 658) KX G hmg _ _ _ _ _ _ _ _ _ _ _ _ _ _ _ _ _ _ _ _ _ _ _ _ _ _ _ _ _ _ _ _ _ _ _ _ _ _ _ _ _ _ _ _ ?x_TooMany _ _ _ _ _ _ _ _ ?e_ov ?e_tm ?k_tm ?k_oo ?k_on ?yB_Over ?xI_Over _ ?aB_Over _ _ _ _ _ _ _ _ ?ld5 ?dd5 _ _ _ _ _ _ _ _ _ _ _ _ _ _ _ _ _ _ _ _ _ _ _ _ _ _ _ _ _ ?ld30 ?dd30 _ _ _ _ _ _ _ _ ?m_ov _ _ _ _ _ _ _ _ _ _ _ _ _ _ _ _ _ _ _ ?lT_KINDS ?xT_KINDS ?tT_KINDS ?zT_KINDS ?kT_KINDS
  all_goals first | k_is | exact ⟨by k_is, _, L2.fun_mk (by k_is) (by k_is) (by k_is)⟩ | exact ⟨by k_is, by k_is, _, L2.fun_mk (by k_is) (by k_is) (by k_is)⟩ | exact ⟨by k_is, by k_is, by k_is, by k_is⟩ | skip
  try (case x_TooMany => k_exc)
  try (case e_ov => kts_exm)
  try (case e_tm => kts_exm)
  try (case k_tm => kit_is)
  try (case k_oo => kit_is)
  try (case k_on => kit_is)
  try (case yB_Over => kernel_rfl)
  try (case xI_Over => kernel_rfl)
  try (case aB_Over => kernel_rfl)
  try (case ld5 => (first | k_is | exact rfl))
  try (case dd5 => exact rfl)
  try (case ld30 => (first | k_is | exact rfl))
  try (case dd30 => exact rfl)
  try (case m_ov => kernel_rfl)
  try (case lT_KINDS => (first | k_is | exact rfl))
  try (case xT_KINDS => (first | exact rfl | decide))
  try (case tT_KINDS => (first | exact rfl | decide))
  try (case zT_KINDS => (first | exact rfl | decide))
  try (case kT_KINDS => exact (.cons ⟨_, rfl⟩ (.cons ⟨_, rfl⟩ .nil)))
#print axioms PySem.Challenge.cw_planstore_k16_how_many_dealings_holds
