import PyProof.Rows.All
import Wide.All
import OpenK.AllK
import Wide.FinOn
import HandS.ExcCtx
import HandS.ForMost
import HandS.ForExc
import HandS.AnyAll
import HandS.Deep
import HandS.Wide
import HandS.TupAny
import HandS.IsInst
import PyProof.DictKinds
import HandS.DictComp
import HandS.Lambda
import KE.SortData
import HandS.GenList
import HandS.Conv
import HandS.EndTab
import HandS.TupLe
import KE.GoesEnum
import KE.DataMinKey
import KE.KLam
import KE.DataMinMax
import HandS.SetFor
import HandS.Strs
import KE.KExcIs
import KE.KTupSum
import KE.KExcPX
import KE.KExcInit
import KE.KExcSuper
import OpenK.KCls
import HandS.HotCalls
import HandS.SortKw
import KE.GoesEnumKw
import KE.KDictDisplayH
import HandS.NamedTupSort
import HandS.SetBool
import HandS.TupSets
import PySem.Challenge.RW_takersrest_k01_make_offer
set_option Elab.async false
set_option linter.all false
set_option maxRecDepth 100000
set_option maxHeartbeats 1000000
namespace PD
open PySem PySem.Spec PyProof.Rows L2

/-! ### results -/
structure Ex where
  cls : Addr
  fs : List (Str × PyData)
inductive R (α : Type) where
  | ok (a : α)
  | exc (e : Ex)
  | bad
def R.bind {α β : Type} (x : R α) (f : α → R β) : R β := match x with
  | .ok a => f a
  | .exc e => .exc e
  | .bad => .bad
instance : Monad R where
  pure := .ok
  bind := R.bind
@[simp] theorem R.bind_ok {α β : Type} (a : α) (f : α → R β) : (R.ok a >>= f) = f a := rfl
@[simp] theorem R.bind_exc {α β : Type} (e : Ex) (f : α → R β) : ((R.exc e : R α) >>= f) = R.exc e := rfl
@[simp] theorem R.bind_bad {α β : Type} (f : α → R β) : ((R.bad : R α) >>= f) = R.bad := rfl
@[simp] theorem R.pure_eq {α : Type} (a : α) : (pure a : R α) = R.ok a := rfl

/-! ### heaps -/
/-- the table of a code object at P: what it tells are code objects that are known -/
def TabC (H : Hp) (P : Addr) : Prop := ∃ ps : Array Value, H P = some (.tbl ps) ∧ TriplesOk ps.toList ∧ ∀ (pos : Pos) (cv : Value), codeAmong pos ps.toList = some cv → ∃ c q, cv = .ref c ∧ H c = some (LamX.CodeO c q)
theorem TabC.mono {H H' : Hp} {b : Addr} (t : TabC H b) (e : ∀ ps, H b = some (.tbl ps) → H' b = some (.tbl ps)) (k : ∀ c q, H c = some (LamX.CodeO c q) → H' c = some (LamX.CodeO c q)) : TabC H' b := by
  obtain ⟨ps, h, z, q⟩ := t
  refine ⟨ps, e ps h, z, fun pos cv hc => ?_⟩
  obtain ⟨c, n, e1, e2⟩ := q pos cv hc
  exact ⟨c, n, e1, k c n e2⟩
theorem TabC.nil {H : Hp} {b : Addr} (h : H b = some (.tbl #[])) : TabC H b := ⟨#[], h, True.intro, fun pos cv hc => by
  have z : codeAmong pos [] = some cv := hc
  simp [codeAmong] at z⟩
theorem codeO_tbl {c : Addr} {q : Str} : ∀ ps, LamX.CodeO c q ≠ .tbl ps := fun ps => LamX.codeO_ne ps
/-- an object that is no code object and no table -/
def Plain (o : HO) : Prop := (∀ c q, o ≠ LamX.CodeO c q) ∧ ∀ ps, o ≠ .tbl ps
theorem plain_lst (l : List V) : Plain (.lst l) := ⟨fun _ _ h => (by unfold LamX.CodeO at h; cases h), fun _ h => (by cases h)⟩
structure Ext (H H' : Hp) : Prop where
  keep : ∀ b o, H b = some o → (∀ ps, o ≠ .tbl ps) → H' b = some o
  tab : ∀ b, TabC H b → TabC H' b
  al : ∀ b, H b ≠ none → H' b ≠ none
theorem Ext.refl (H : Hp) : Ext H H := ⟨fun _ _ h _ => h, fun _ h => h, fun _ h => h⟩
theorem Ext.trans {H H1 H2 : Hp} (a : Ext H H1) (b : Ext H1 H2) : Ext H H2 :=
  ⟨fun c o h n => b.keep c o (a.keep c o h n) n, fun c h => b.tab c (a.tab c h), fun c h => b.al c (a.al c h)⟩
theorem Ext.new {H : Hp} {p : Addr} {o : HO} (h : H p = none) : Ext H (upd H p o) := by
  refine ⟨fun b x e n => ?_, fun b t => ?_, fun b e => ?_⟩
  · rw [upd_ne (ne_of_none e h)]; exact e
  · exact t.mono (fun ps e => by rw [upd_ne (ne_of_none e h)]; exact e) fun c q e => by rw [upd_ne (ne_of_none e h)]; exact e
  · by_cases hb : b = p
    · rw [hb, upd_same]; simp
    · rw [upd_ne hb]; exact e
theorem Ext.same {H H' : Hp} (s : Same H H') : Ext H H' :=
  ⟨fun b o e _ => s b o e, fun b t => t.mono (fun ps e => s b _ e) (fun c q e => s c _ e), fun b e => by
    cases q : H b with
    | none => exact absurd q e
    | some o => rw [s b o q]; simp⟩

/-- the heap without the addresses O -/
def hide (O : List Addr) (H : Hp) : Hp := fun b => if b ∈ O then none else H b
theorem hide_out {O : List Addr} {H : Hp} {b : Addr} (h : b ∉ O) : hide O H b = H b := by unfold hide; rw [if_neg h]
theorem hide_some {O : List Addr} {H : Hp} {b : Addr} {o : HO} (h : hide O H b = some o) : b ∉ O ∧ H b = some o := by
  unfold hide at h
  split at h
  · cases h
  · exact ⟨by assumption, h⟩
/-- what reading data leans on -/
def Sub (G G' : Hp) : Prop := ∀ b o, G b = some o → (∀ ps, o ≠ .tbl ps) → G' b = some o
theorem Sub.trans {G G1 G2 : Hp} (a : Sub G G1) (b : Sub G1 G2) : Sub G G2 := fun c o h n => b c o (a c o h n) n
theorem Sub.ext {H H' : Hp} (e : Ext H H') : Sub H H' := e.keep
theorem Sub.hide {O : List Addr} {H H' : Hp} (e : Sub H H') : Sub (hide O H) (PD.hide O H') := fun b o h n => by
  obtain ⟨h1, h2⟩ := hide_some h
  rw [hide_out h1]
  exact e b o h2 n
theorem Sub.less {O O' : List Addr} {H : Hp} (e : ∀ b ∈ O', b ∈ O) : Sub (PD.hide O H) (PD.hide O' H) := fun b o h n => by
  obtain ⟨h1, h2⟩ := hide_some h
  rw [hide_out fun m => h1 (e b m)]
  exact h2
theorem Sub.unhide {O : List Addr} {H : Hp} : Sub (PD.hide O H) H := fun b o h n => (hide_some h).2
theorem Sub.sqL {K : PySem.W.Frag} {G G' : Hp} {a : Addr} {xs : List V} (s : Sub G G') (h : SqL K G a xs) : SqL K G' a xs := by
  rcases h with (h | ⟨o, h⟩) | h
  · exact .inl (.inl (s _ _ h fun _ q => by cases q))
  · exact .inl (.inr ⟨o, s _ _ h fun _ q => by cases q⟩)
  · exact .inr h
theorem Sub.sqT {K : PySem.W.Frag} {G G' : Hp} {a : Addr} {xs : List V} (s : Sub G G') (h : SqT K G a xs) : SqT K G' a xs := by
  rcases h with (h | ⟨o, h⟩) | h
  · exact .inl (.inl (s _ _ h fun _ q => by cases q))
  · exact .inl (.inr ⟨o, s _ _ h fun _ q => by cases q⟩)
  · exact .inr h

/-! ### dicts whose keys are tuples of ints, every value True -/
abbrev ikt (P : Program) (w : World) : HeapKind P w (List Int) := tupleKind (intKind P w)
def dctO (a : Addr) (ep : Nat) (xs : List (List Int × Addr)) : HO := .ext fun h => (a == sysModules) = false ∧ xs.length ≤ sizeLine ∧ (xs.map (·.1)).Nodup ∧
  ∃ o es, h.get? a = some o ∧ o.ExactDict ∧ o.data = .dict es ep ∧ ∀ (P : Program) (w : World), es.toList = xs.map fun x => entryOfKey (ikt P w) (x.1, x.2, .bool true)
def dctE (x : List Int × Addr) : PyData × PyData := (.tuple (x.1.map .int), .bool true)
mutual
def nod : PyData → Bool
  | .none | .bool _ | .int _ | .str _ => true
  | .list xs | .tuple xs => nodAll xs
  | .dict _ => false
def nodAll : List PyData → Bool
  | [] => true
  | x :: xs => nod x && nodAll xs
end
mutual
theorem nod_of_lay : ∀ {d : PyData}, d.canLay0 = true → nod d = true
  | .none, _ => rfl
  | .bool _, _ => rfl
  | .int _, _ => rfl
  | .str _, _ => rfl
  | .list xs, h => nodAll_of_lay (xs := xs) h
  | .tuple xs, h => nodAll_of_lay (xs := xs) h
  | .dict _, h => by cases h
theorem nodAll_of_lay : ∀ {xs : List PyData}, PyData.canLayAll0 xs = true → nodAll xs = true
  | [], _ => rfl
  | x :: xs, h => by
    have h : (x.canLay0 && PyData.canLayAll0 xs) = true := h
    show (nod x && nodAll xs) = true
    rw [Bool.and_eq_true] at h ⊢
    exact ⟨nod_of_lay h.1, nodAll_of_lay h.2⟩
end
/-! ### values that read as data -/
mutual
inductive Rp (K : PySem.W.Frag) (G : Hp) : V → PyData → Prop
  | non : Rp K G .non .none
  | bl (b : Bool) : Rp K G (.bl b) (.bool b)
  | int (i : Int) : Rp K G (.int i) (.int i)
  | str (x : Str) : Rp K G (.str x) (.str x)
  | lst {a : Addr} {xs : List V} {ds : List PyData} : SqL K G a xs → ds.length ≤ sizeLine → RpAll K G xs ds → Rp K G (.ref a) (.list ds)
  | tup {a : Addr} {xs : List V} {ds : List PyData} : SqT K G a xs → ds.length ≤ sizeLine → RpAll K G xs ds → Rp K G (.ref a) (.tuple ds)
  | dct {a : Addr} {ep : Nat} {xs : List (List Int × Addr)} : G a = some (dctO a ep xs) → (∀ x ∈ xs, SqT K G x.2 (x.1.map V.int)) → Rp K G (.ref a) (.dict (xs.map dctE))
inductive RpAll (K : PySem.W.Frag) (G : Hp) : List V → List PyData → Prop
  | nil : RpAll K G [] []
  | cons {v : V} {vs : List V} {d : PyData} {ds : List PyData} : Rp K G v d → RpAll K G vs ds → RpAll K G (v :: vs) (d :: ds)
end
section
variable {K : PySem.W.Frag} {G G' : Hp}
mutual
theorem Rp.mono (s : Sub G G') : ∀ {d : PyData} {v : V}, Rp K G v d → Rp K G' v d
  | .none, _, h => by cases h; exact .non
  | .bool _, _, h => by cases h; exact .bl _
  | .int _, _, h => by cases h; exact .int _
  | .str _, _, h => by cases h; exact .str _
  | .list _, _, h => by
    cases h with
    | lst a z b => exact .lst (s.sqL a) z (RpAll.mono s b)
  | .tuple _, _, h => by
    cases h with
    | tup a z b => exact .tup (s.sqT a) z (RpAll.mono s b)
  | .dict _, _, h => by
    cases h with
    | dct a b => exact .dct (s _ _ a (fun _ q => by cases q)) fun x hx => s.sqT (b x hx)
theorem RpAll.mono (s : Sub G G') : ∀ {ds : List PyData} {vs : List V}, RpAll K G vs ds → RpAll K G' vs ds
  | [], _, h => by cases h; exact .nil
  | _ :: _, _, h => by
    cases h with
    | cons a b => exact .cons (Rp.mono s a) (RpAll.mono s b)
end
mutual
theorem Rp.dp : ∀ {d : PyData} {v : V}, Rp K G v d → nod d = true → Dp K G v d
  | .none, _, h, _ => by cases h; exact .non
  | .bool _, _, h, _ => by cases h; exact .bl _
  | .int _, _, h, _ => by cases h; exact .int _
  | .str _, _, h, _ => by cases h; exact .str _
  | .list _, _, h, n => by
    cases h with
    | lst a z b => exact .lst a (RpAll.dp b n)
  | .tuple _, _, h, n => by
    cases h with
    | tup a z b => exact .tup a (RpAll.dp b n)
  | .dict _, _, h, n => by cases n
theorem RpAll.dp : ∀ {ds : List PyData} {vs : List V}, RpAll K G vs ds → nodAll ds = true → DpAll K G vs ds
  | [], _, h, _ => by cases h; exact .nil
  | d :: ds, _, h, n => by
    have n : (nod d && nodAll ds) = true := n
    rw [Bool.and_eq_true] at n
    cases h with
    | cons a b => exact .cons (Rp.dp a n.1) (RpAll.dp b n.2)
end
mutual
theorem Rp.shaped : ∀ {d : PyData} {v : V}, Rp K G v d → True := fun _ => trivial
end
theorem RpAll.length : ∀ {vs : List V} {ds : List PyData}, RpAll K G vs ds → vs.length = ds.length
  | _, _, .nil => rfl
  | _, _, .cons _ t => by simp [RpAll.length t]
theorem RpAll.get : ∀ {vs : List V} {ds : List PyData} {i : Nat} {v : V}, RpAll K G vs ds → vs[i]? = some v → ∃ d, ds[i]? = some d ∧ Rp K G v d
  | _, _, _, _, .nil, h => by simp at h
  | _, _, 0, _, .cons r _, h => by simp at h; subst h; exact ⟨_, rfl, r⟩
  | _, _, i + 1, _, .cons _ t, h => by
    obtain ⟨d, h1, h2⟩ := RpAll.get (i := i) t (by simpa using h)
    exact ⟨d, by simpa using h1, h2⟩
theorem RpAll.get' : ∀ {vs : List V} {ds : List PyData} {i : Nat} {d : PyData}, RpAll K G vs ds → ds[i]? = some d → ∃ v, vs[i]? = some v ∧ Rp K G v d
  | _, _, _, _, .nil, h => by simp at h
  | _, _, 0, _, .cons r _, h => by simp at h; subst h; exact ⟨_, rfl, r⟩
  | _, _, i + 1, _, .cons _ t, h => by
    obtain ⟨d, h1, h2⟩ := RpAll.get' (i := i) t (by simpa using h)
    exact ⟨d, by simpa using h1, h2⟩
theorem RpAll.append : ∀ {vs ws : List V} {ds es : List PyData}, RpAll K G vs ds → RpAll K G ws es → RpAll K G (vs ++ ws) (ds ++ es)
  | _, _, _, _, .nil, q => q
  | _, _, _, _, .cons r t, q => .cons r (RpAll.append t q)
theorem RpAll.one {v : V} {d : PyData} (h : Rp K G v d) : RpAll K G [v] [d] := .cons h .nil
theorem RpAll.take : ∀ {vs : List V} {ds : List PyData} (n : Nat), RpAll K G vs ds → RpAll K G (vs.take n) (ds.take n)
  | _, _, 0, _ => .nil
  | _, _, _ + 1, .nil => .nil
  | _, _, n + 1, .cons r t => .cons r (RpAll.take n t)
theorem RpAll.drop : ∀ {vs : List V} {ds : List PyData} (n : Nat), RpAll K G vs ds → RpAll K G (vs.drop n) (ds.drop n)
  | _, _, 0, r => r
  | _, _, _ + 1, .nil => .nil
  | _, _, n + 1, .cons _ t => RpAll.drop n t
theorem RpAll.reverse : ∀ {vs : List V} {ds : List PyData}, RpAll K G vs ds → RpAll K G vs.reverse ds.reverse
  | _, _, .nil => .nil
  | _, _, .cons r t => by
    rw [List.reverse_cons, List.reverse_cons]
    exact (RpAll.reverse t).append (.one r)
theorem RpAll.set {v : V} {d : PyData} (r : Rp K G v d) : ∀ {vs : List V} {ds : List PyData} (i : Nat), RpAll K G vs ds → RpAll K G (vs.set i v) (ds.set i d)
  | _, _, _, .nil => .nil
  | _, _, 0, .cons _ t => .cons r t
  | _, _, i + 1, .cons q t => .cons q (RpAll.set r i t)
theorem RpAll.erase : ∀ {vs : List V} {ds : List PyData} (i : Nat), RpAll K G vs ds → RpAll K G (vs.eraseIdx i) (ds.eraseIdx i)
  | _, _, _, .nil => .nil
  | _, _, 0, .cons _ t => t
  | _, _, i + 1, .cons q t => .cons q (RpAll.erase i t)
end

/-! ### slots -/
inductive Sl where
  | d (x : PyData)
  | own (xs : List PyData)
  | dct (ks : List (List Int))
  | exn (a : Addr) (cls : Value) (dd : Option Addr) (e : Ex)
def Sl.Hold : Sl → Prop
  | .own _ => True
  | .dct _ => True
  | _ => False
abbrev Rho := List (Option Sl)
def ExR (K : PySem.W.Frag) (G H : Hp) (cls : Value) (d : Option Addr) (e : Ex) : Prop :=
  cls = .ref e.cls ∧ ((e.fs = [] ∧ d = none) ∨ ∃ dd fs, d = some dd ∧ H dd = some (.xd fs) ∧ fs.map (·.1) = e.fs.map (·.1) ∧ RpAll K G (fs.map (·.2)) (e.fs.map (·.2)))
theorem ExR.mv {K : PySem.W.Frag} {G G' H H' : Hp} {cls : Value} {d : Option Addr} {e : Ex} (s : Sub G G') (hx : ∀ dd fs, H dd = some (.xd fs) → H' dd = some (.xd fs)) (h : ExR K G H cls d e) : ExR K G' H' cls d e := by
  obtain ⟨h1, h2⟩ := h
  refine ⟨h1, ?_⟩
  rcases h2 with h2 | ⟨dd, fs, h3, h4, h5, h6⟩
  · exact .inl h2
  · exact .inr ⟨dd, fs, h3, hx _ _ h4, h5, h6.mono s⟩
def SlotR (K : PySem.W.Frag) (O0 O : List Addr) (H : Hp) (v : V) : Sl → Prop
  | .d x => Rp K (hide O H) v x
  | .own xs => ∃ p vs, v = .ref p ∧ p ∈ O ∧ p ∉ O0 ∧ H p = some (.lst vs) ∧ xs.length ≤ sizeLine ∧ RpAll K (hide O H) vs xs
  | .dct ks => ∃ p ep xs, v = .ref p ∧ p ∈ O ∧ p ∉ O0 ∧ H p = some (dctO p ep xs) ∧ xs.map (·.1) = ks ∧ ∀ x ∈ xs, SqT K (hide O H) x.2 (x.1.map V.int)
  | .exn a cls dd e => v = .ref a ∧ ExR K (hide O H) H cls dd e
theorem SlotR.hold {K : PySem.W.Frag} {O0 O : List Addr} {H : Hp} {v : V} {s : Sl} (hs : s.Hold) (h : SlotR K O0 O H v s) : ∃ p, v = .ref p ∧ p ∈ O ∧ p ∉ O0 := by
  cases s with
  | d x => exact hs.elim
  | own xs => obtain ⟨p, vs, rfl, m, n, _⟩ := h; exact ⟨p, rfl, m, n⟩
  | dct ks => obtain ⟨p, _, vs, rfl, m, n, _⟩ := h; exact ⟨p, rfl, m, n⟩
  | exn a c dd e => exact hs.elim
theorem SlotR.mv {K : PySem.W.Frag} {O0 O O' : List Addr} {H H' : Hp} {v : V} {s : Sl} (sub : Sub (hide O H) (hide O' H')) (hm : s.Hold → ∀ p, v = .ref p → p ∈ O → p ∉ O0 → p ∈ O' ∧ ∀ o, H p = some o → (∀ ps, o ≠ .tbl ps) → H' p = some o)
    (hx : ∀ dd fs, H dd = some (.xd fs) → H' dd = some (.xd fs)) (h : SlotR K O0 O H v s) : SlotR K O0 O' H' v s := by
  cases s with
  | d x => exact Rp.mono sub h
  | own xs =>
    obtain ⟨p, vs, rfl, m, n, hp, z, r⟩ := h
    obtain ⟨m', k⟩ := hm trivial p rfl m n
    exact ⟨p, vs, rfl, m', n, k _ hp (fun _ q => by cases q), z, r.mono sub⟩
  | dct ks =>
    obtain ⟨p, ep, xs, rfl, m, n, hp, z, r⟩ := h
    obtain ⟨m', k⟩ := hm trivial p rfl m n
    exact ⟨p, ep, xs, rfl, m', n, k _ hp (fun _ q => by cases q), z, fun x hx => sub.sqT (r x hx)⟩
  | exn a c dd e => exact ⟨h.1, h.2.mv sub hx⟩
structure St0 (K : PySem.W.Frag) (Tb : List Addr) (H0 : Hp) (O0 O : List Addr) (H : Hp) (σ : L2.St) (ρ : Rho) : Prop where
  ext : Ext H0 H
  sub : ∀ b ∈ O0, b ∈ O
  new : ∀ b ∈ O, b ∉ O0 → H0 b = none
  al : ∀ b ∈ O, H b ≠ none
  tab : ∀ P ∈ Tb, TabC H P
  pln : ∀ b ∈ O, b ∉ O0 → ∃ o, H b = some o ∧ Plain o
  len : σ.length = ρ.length
  slot : ∀ (i : Nat) (s : Sl), ρ[i]? = some (some s) → ∃ v, σ[i]? = some (some v) ∧ SlotR K O0 O H v s
  inj : ∀ (i j : Nat) (p : Addr) (s t : Sl), s.Hold → t.Hold → ρ[i]? = some (some s) → ρ[j]? = some (some t) → σ[i]? = some (some (.ref p)) → σ[j]? = some (some (.ref p)) → i = j
section
variable {K : PySem.W.Frag} {Tb : List Addr} {H0 H H' : Hp} {O0 O : List Addr} {σ : L2.St} {ρ : Rho}
theorem St0.step (s : St0 K Tb H0 O0 O H σ ρ) (e : Ext H H') : St0 K Tb H0 O0 O H' σ ρ where
  ext := s.ext.trans e
  sub := s.sub
  new := s.new
  al := fun b m => e.al b (s.al b m)
  tab := fun P m => e.tab P (s.tab P m)
  pln := fun b m n => by
    obtain ⟨o, h, q⟩ := s.pln b m n
    exact ⟨o, e.keep b o h q.2, q⟩
  len := s.len
  slot := fun i x h => by
    obtain ⟨v, h1, h2⟩ := s.slot i x h
    exact ⟨v, h1, h2.mv (Sub.hide e.keep) (fun _ p _ m _ => ⟨m, fun o h n => e.keep p o h n⟩) fun dd fs h => e.keep dd _ h fun _ q => by cases q⟩
  inj := s.inj
theorem St0.hold (s : St0 K Tb H0 O0 O H σ ρ) {i : Nat} {x : Sl} {p : Addr} (hx : x.Hold) (h : ρ[i]? = some (some x)) (hp : σ[i]? = some (some (.ref p))) : p ∈ O ∧ p ∉ O0 := by
  obtain ⟨v, h1, h2⟩ := s.slot i x h
  obtain ⟨q, rfl, m, n⟩ := h2.hold hx
  rw [hp] at h1
  cases h1
  exact ⟨m, n⟩
/-- a new address is none of the hidden -/
theorem St0.fresh (s : St0 K Tb H0 O0 O H σ ρ) {p : Addr} (h : H p = none) : p ∉ O := fun m => s.al p m h
end

/-! ### readings from denotations -/
abbrev WX := L2.WX
def AftX (K : PySem.W.Frag) (O : List Addr) (H : Hp) (e : Ex) (W : Value → Option Addr → Hp → Prop) : Prop := ∀ cls d H', Ext H H' → ExR K (hide O H') H' cls d e → W cls d H'
/-- what is wanted of a result -/
def Post (K : PySem.W.Frag) (O : List Addr) {α β : Type} (Rl : Hp → β → α → Prop) (W : Value → Option Addr → Hp → Prop) (H : Hp) (x : R α) (Q : β → Hp → Prop) : Prop := match x with
  | .ok a => ∀ b H', Ext H H' → Rl H' b a → Q b H'
  | .exc e => AftX K O H e W
  | .bad => False
abbrev RlD (K : PySem.W.Frag) (O : List Addr) : Hp → V → PyData → Prop := fun H v d => Rp K (hide O H) v d
abbrev RlL (K : PySem.W.Frag) (O : List Addr) : Hp → List V → List PyData → Prop := fun H v d => RpAll K (hide O H) v d
abbrev RlB : Hp → Bool → Bool → Prop := fun _ b c => b = c
section
variable {K : PySem.W.Frag} {O : List Addr} {α α' β β' : Type} {Rl : Hp → β → α → Prop} {Rl' : Hp → β' → α' → Prop} {W : Value → Option Addr → Hp → Prop} {H H1 : Hp}
theorem Post.step {x : R α} {Q : β → Hp → Prop} (h : Post K O Rl W H x Q) (e : Ext H H1) : Post K O Rl W H1 x Q := by
  cases x with
  | ok a => exact fun b H' e' r => h b H' (e.trans e') r
  | exc x => exact fun c d H' e' r => h c d H' (e.trans e') r
  | bad => exact h
theorem Post.then {x : R α} {f : α → R α'} {Q : β → Hp → Prop} {Q' : β' → Hp → Prop} (h : Post K O Rl' W H (x >>= f) Q') (k : ∀ a b H1, Ext H H1 → Rl H1 b a → Post K O Rl' W H1 (f a) Q' → Q b H1) : Post K O Rl W H x Q := by
  cases x with
  | ok a => exact fun b H' e r => k a b H' e r (Post.step (show Post K O Rl' W H (f a) Q' from h) e)
  | exc x => exact h
  | bad => exact h
theorem Post.mono {x : R α} {Q Q' : β → Hp → Prop} (h : Post K O Rl W H x Q) (k : ∀ b H1, Q b H1 → Q' b H1) : Post K O Rl W H x Q' := by
  cases x with
  | ok a => exact fun b H' e r => k _ _ (h b H' e r)
  | exc x => exact h
  | bad => exact h
end
section
variable (K : PySem.W.Frag) (Tb : List Addr) (W : WX)
def tD (f : Rho → R PyData) : TE := fun σ H Q => ∃ H0 O0 O ρ, St0 K Tb H0 O0 O H σ ρ ∧ Post K O (RlD K O) (fun c d H => W c d σ H) H (f ρ) Q
def tDs (f : Rho → R (List PyData)) : TA := fun σ H Q => ∃ H0 O0 O ρ, St0 K Tb H0 O0 O H σ ρ ∧ Post K O (RlL K O) (fun c d H => W c d σ H) H (f ρ) Q
def tDT (f : Rho → R Bool) : TT := fun σ H Q => ∃ H0 O0 O ρ, St0 K Tb H0 O0 O H σ ρ ∧ Post K O RlB (fun c d H => W c d σ H) H (f ρ) Q
end
theorem _root_.L2.PE.by {X : Cx} {e : Expr} {t t' : TE} (h : PE X e t) (i : ∀ σ H Q, t' σ H Q → t σ H Q) : PE X e t' := ⟨fun pins s σ H Q I q => h.run pins s σ H Q I (i σ H Q q)⟩
theorem _root_.L2.PT.by {X : Cx} {e : Expr} {t t' : TT} (h : PT X e t) (i : ∀ σ H Q, t' σ H Q → t σ H Q) : PT X e t' := ⟨fun pins s σ H Q I q => h.run pins s σ H Q I (i σ H Q q)⟩
theorem _root_.L2.PW.by {X : Cx} {e : Expr} {t t' : TT} (h : PW X e t) (i : ∀ σ H Q, t' σ H Q → t σ H Q) : PW X e t' := ⟨fun wh pins s σ H Q I q => h.run wh pins s σ H Q I (i σ H Q q)⟩
theorem _root_.L2.PA.by {X : Cx} {e : List Expr} {t t' : TA} (h : PA X e t) (i : ∀ σ H Q, t' σ H Q → t σ H Q) : PA X e t' := ⟨fun pos pins s σ H Q I q => h.run pos pins s σ H Q I (i σ H Q q)⟩
theorem _root_.L2.PS.by {X : Cx} {e : Stmt} {t t' : TS} (h : PS X e t) (i : ∀ D σ H, t' D σ H → t D σ H) : PS X e t' := ⟨fun pins s σ H D I q => h.run pins s σ H D I (i D σ H q)⟩
theorem _root_.L2.PSs.by {X : Cx} {e : List Stmt} {t t' : TS} (h : PSs X e t) (i : ∀ D σ H, t' D σ H → t D σ H) : PSs X e t' := ⟨fun pins s σ H D I q => h.run pins s σ H D I (i D σ H q)⟩
end PD

set_option Elab.async false
set_option linter.all false
set_option maxRecDepth 100000
set_option maxHeartbeats 1000000
namespace PD
open PySem PySem.Spec PyProof.Rows L2

/-! ### operations on data -/
def oAdd : PyData → PyData → R PyData
  | .int i, .int j => .ok (.int (i + j))
  | .tuple xs, .tuple ys => if xs.length + ys.length ≤ sizeLine then .ok (.tuple (xs ++ ys)) else .bad
  | .list xs, .list ys => if xs.length + ys.length ≤ sizeLine then .ok (.list (xs ++ ys)) else .bad
  | _, _ => .bad
def oSub : PyData → PyData → R PyData
  | .int i, .int j => .ok (.int (i - j))
  | _, _ => .bad
instance (i j : Int) : Decidable (CMul i j) := by unfold CMul; infer_instance
instance (i j : Int) : Decidable (CPow i j) := by unfold CPow; infer_instance
instance (i j : Int) : Decidable (CDivN i j) := by unfold CDivN; infer_instance
def oMul : PyData → PyData → R PyData
  | .int i, .int j => if CMul i j then .ok (.int (i * j)) else .bad
  | _, _ => .bad
def oDiv : PyData → PyData → R PyData
  | .int i, .int j => if CDivN i j then .ok (.int (i.fdiv j)) else .bad
  | _, _ => .bad
def oMod : PyData → PyData → R PyData
  | .int i, .int j => if j ≠ 0 then .ok (.int (i.fmod j)) else .bad
  | _, _ => .bad
def oPow : PyData → PyData → R PyData
  | .int i, .int j => if CPow i j then .ok (.int (i ^ j.toNat)) else .bad
  | _, _ => .bad
def oNeg : PyData → R PyData
  | .int i => .ok (.int (-i))
  | _ => .bad
def shp (d : PyData) : Bool := SeqAt.shaped d
def oEq (d e : PyData) : R PyData := if shp d = true ∧ shp e = true then .ok (.bool (PyData.eqv d e)) else .bad
def oNe (d e : PyData) : R PyData := if shp d = true ∧ shp e = true then .ok (.bool (!PyData.eqv d e)) else .bad
def oLt : PyData → PyData → R PyData
  | .int i, .int j => .ok (.bool (decide (i < j)))
  | _, _ => .bad
def oLe : PyData → PyData → R PyData
  | .int i, .int j => .ok (.bool (decide (i ≤ j)))
  | _, _ => .bad
def oGt : PyData → PyData → R PyData
  | .int i, .int j => .ok (.bool (decide (j < i)))
  | _, _ => .bad
def oGe : PyData → PyData → R PyData
  | .int i, .int j => .ok (.bool (decide (j ≤ i)))
  | _, _ => .bad
def items : PyData → R (List PyData)
  | .list xs => .ok xs
  | .tuple xs => .ok xs
  | _ => .bad
def inD (d : PyData) (xs : List PyData) : Bool := xs.any fun z => PyData.eqv z d
def oIn (d e : PyData) : R PyData := if shp d = true ∧ shp e = true then (do let xs ← items e; .ok (.bool (inD d xs))) else .bad
def oNotIn (d e : PyData) : R PyData := if shp d = true ∧ shp e = true then (do let xs ← items e; .ok (.bool (!inD d xs))) else .bad
def isNone : PyData → Bool
  | .none => true
  | _ => false
def oIx : PyData → PyData → R PyData
  | .list xs, .int i => match atI xs i with | some d => .ok d | none => .bad
  | .tuple xs, .int i => match atI xs i with | some d => .ok d | none => .bad
  | _, _ => .bad
def truD : PyData → R Bool
  | .none => .ok false
  | .bool b => .ok b
  | .int i => .ok (i != 0)
  | .list xs => .ok !xs.isEmpty
  | .tuple xs => .ok !xs.isEmpty
  | _ => .bad
def cutD (xs : List PyData) (lo hi : Option Int) : List PyData := (xs.drop (HT.sIx xs.length 0 lo)).take (HT.sIx xs.length xs.length hi - HT.sIx xs.length 0 lo)
def oCut (d : PyData) (lo hi : Option Int) : R PyData := match d with
  | .list xs => .ok (.list (cutD xs lo hi))
  | .tuple xs => .ok (.tuple (cutD xs lo hi))
  | _ => .bad
theorem cutD_length (xs : List PyData) (lo hi : Option Int) : (cutD xs lo hi).length ≤ xs.length := by
  unfold cutD
  rw [List.length_take, List.length_drop]
  omega

/-! ### denotations -/
abbrev Dn := Rho → R PyData
abbrev DnL := Rho → R (List PyData)
abbrev DnB := Rho → R Bool
def dVar (i : Nat) : Dn := fun ρ => match ρ[i]? with
  | some (some (.d x)) => .ok x
  | _ => .bad
def dC (x : PyData) : Dn := fun _ => .ok x
def dOne (u : PyData → R PyData) (f : Dn) : Dn := fun ρ => f ρ >>= u
def dTwo (u : PyData → PyData → R PyData) (f g : Dn) : Dn := fun ρ => f ρ >>= fun a => g ρ >>= fun b => u a b
def dNil : DnL := fun _ => .ok []
def dCons (f : Dn) (g : DnL) : DnL := fun ρ => f ρ >>= fun a => g ρ >>= fun b => .ok (a :: b)
def dTup (g : DnL) : Dn := fun ρ => g ρ >>= fun xs => if xs.length ≤ sizeLine then .ok (.tuple xs) else .bad
def dLst (g : DnL) : Dn := fun ρ => g ρ >>= fun xs => if xs.length ≤ sizeLine then .ok (.list xs) else .bad
def dArg (m : List PyData → R PyData) (g : DnL) : Dn := fun ρ => g ρ >>= m
def dTru (f : Dn) : DnB := fun ρ => f ρ >>= truD
def asB : PyData → R Bool
  | .bool b => .ok b
  | _ => .bad
def dAsB (f : Dn) : DnB := fun ρ => f ρ >>= asB
def dAnd (f g : DnB) : DnB := fun ρ => f ρ >>= fun b => if b = true then g ρ else .ok false
def dOr (f g : DnB) : DnB := fun ρ => f ρ >>= fun b => if b = true then .ok true else g ρ
def dNot (f : DnB) : DnB := fun ρ => f ρ >>= fun b => .ok (!b)
def dBool (f : DnB) : Dn := fun ρ => f ρ >>= fun b => .ok (.bool b)
def dAndV (f g : Dn) : Dn := fun ρ => f ρ >>= fun a => asB a >>= fun b => if b = true then g ρ else .ok (.bool false)
def dOrV (f g : Dn) : Dn := fun ρ => f ρ >>= fun a => asB a >>= fun b => if b = true then .ok (.bool true) else g ρ
def dNotV (f : Dn) : Dn := fun ρ => f ρ >>= fun a => asB a >>= fun b => .ok (.bool (!b))
def dIf (c : DnB) (f g : Dn) : Dn := fun ρ => c ρ >>= fun b => if b = true then f ρ else g ρ
def asI : PyData → R Int
  | .int i => .ok i
  | _ => .bad
abbrev DnO := Rho → R (Option Int)
def dNoP : DnO := fun _ => .ok none
def dPart (f : Dn) : DnO := fun ρ => f ρ >>= fun a => asI a >>= fun i => .ok (some i)
def dCut (f : Dn) (lo hi : DnO) : Dn := fun ρ => f ρ >>= fun a => lo ρ >>= fun l => hi ρ >>= fun h => oCut a l h

section
variable {X : Cx} {Tb : List Addr} {W : WX} {K : PySem.W.Frag} {O : List Addr} {H : Hp} {σ : L2.St} {Wx : Value → Option Addr → Hp → Prop}
def Al (O : List Addr) (H : Hp) : Prop := ∀ b ∈ O, H b ≠ none

/-- a new tuple, a new list -/
theorem Post.newTup {xs : List V} {ds : List PyData} {Q : VK} (al : Al O H) (h : Post K O (RlD K O) Wx H (.ok (.tuple ds)) Q) (z : ds.length ≤ sizeLine) (r : RpAll K (hide O H) xs ds) : ∀ p, H p = none → Q (.ref p) (upd H p (.tup xs)) := fun p hp => by
  have n : p ∉ O := fun m => al p m hp
  refine h _ _ (Ext.new hp) (.tup (.of (by rw [hide_out n, upd_same])) z (r.mono (Sub.hide (Ext.new hp).keep)))
theorem Post.newLst {xs : List V} {ds : List PyData} {Q : VK} (al : Al O H) (h : Post K O (RlD K O) Wx H (.ok (.list ds)) Q) (z : ds.length ≤ sizeLine) (r : RpAll K (hide O H) xs ds) : ∀ p, H p = none → Q (.ref p) (upd H p (.lst xs)) := fun p hp => by
  have n : p ∉ O := fun m => al p m hp
  refine h _ _ (Ext.new hp) (.lst (.of (by rw [hide_out n, upd_same])) z (r.mono (Sub.hide (Ext.new hp).keep)))
theorem Post.here {d : PyData} {v : V} {Q : VK} (h : Post K O (RlD K O) Wx H (.ok d) Q) (r : Rp K (hide O H) v d) : Q v H := h v H (Ext.refl H) r

/-- an operator by values -/
def Ok1 (K : PySem.W.Frag) (r : V → Hp → VK → Prop) (u : PyData → R PyData) : Prop := ∀ (O : List Addr) (H : Hp) (Wx : Value → Option Addr → Hp → Prop) (v : V) (d : PyData) (Q : VK), Al O H → Rp K (hide O H) v d → Post K O (RlD K O) Wx H (u d) Q → r v H Q
def Ok2 (K : PySem.W.Frag) (r : R2) (u : PyData → PyData → R PyData) : Prop := ∀ (O : List Addr) (H : Hp) (Wx : Value → Option Addr → Hp → Prop) (x y : V) (d e : PyData) (Q : VK), Al O H → Rp K (hide O H) x d → Rp K (hide O H) y e → Post K O (RlD K O) Wx H (u d e) Q → r x y H Q
def OkL (K : PySem.W.Frag) (r : List V → Hp → VK → Prop) (u : List PyData → R PyData) : Prop := ∀ (O : List Addr) (H : Hp) (Wx : Value → Option Addr → Hp → Prop) (vs : List V) (ds : List PyData) (Q : VK), Al O H → RpAll K (hide O H) vs ds → Post K O (RlD K O) Wx H (u ds) Q → r vs H Q
theorem tD_one {r : V → Hp → VK → Prop} {u : PyData → R PyData} {f : Dn} {Q : VK} (hr : Ok1 K r u) (h : tD K Tb W (dOne u f) σ H Q) : tUn r (tD K Tb W f) σ H Q := by
  obtain ⟨H0, O0, O, ρ, st, h⟩ := h
  exact ⟨H0, O0, O, ρ, st, Post.then h fun d v H1 e r1 k => hr O H1 _ v d Q (st.step e).al r1 k⟩
theorem tD_two {r : R2} {u : PyData → PyData → R PyData} {f g : Dn} {Q : VK} (hr : Ok2 K r u) (h : tD K Tb W (dTwo u f g) σ H Q) : tOp r (tD K Tb W f) (tD K Tb W g) σ H Q := by
  obtain ⟨H0, O0, O, ρ, st, h⟩ := h
  refine ⟨H0, O0, O, ρ, st, Post.then h fun d v H1 e r1 k => ?_⟩
  refine ⟨H0, O0, O, ρ, st.step e, Post.then k fun d2 v2 H2 e2 r2 k2 => ?_⟩
  exact hr O H2 _ v v2 d d2 Q ((st.step e).step e2).al (r1.mono (Sub.hide e2.keep)) r2 k2
theorem tD_arg {r : List V → Hp → VK → Prop} {u : List PyData → R PyData} {g : DnL} {Q : VK} (hr : OkL K r u) (h : tD K Tb W (dArg u g) σ H Q) : tCB r (tDs K Tb W g) σ H Q := by
  obtain ⟨H0, O0, O, ρ, st, h⟩ := h
  exact ⟨H0, O0, O, ρ, st, Post.then h fun d v H1 e r1 k => hr O H1 _ v d Q (st.step e).al r1 k⟩

/-! ### names, constants, displays -/
theorem fd_var (i : Nat) {x : Str} {pos : Pos} (hN : X.N[i]? = some x := by rfl) (hv : Vis X.env.scope x := by first | exact Or.inl rfl | exact Or.inr (Or.inl rfl) | exact Or.inr (Or.inr rfl)) (hd : (x == ("__debug__" : Str)) = false := by decide)
    (hcd : (x == ("__classdict__" : Str)) = false := by decide) : PE X (.Name x pos) (tD X.K Tb W (dVar i)) := (pv i hN hv hd hcd).by fun σ H Q h => by
  obtain ⟨H0, O0, O, ρ, st, h⟩ := h
  unfold dVar at h
  split at h
  · rename_i x e
    obtain ⟨v, h1, h2⟩ := st.slot i _ e
    exact ⟨v, h1, Post.here h h2⟩
  · exact h.elim
theorem fd_int {i : Int} {j pos} : PE X (.Constant (.int i) j pos) (tD X.K Tb W (dC (.int i))) := pe_int.by fun σ H Q ⟨_, _, _, _, _, h⟩ => Post.here h (.int i)
theorem fd_bl {b : Bool} {j pos} : PE X (.Constant (.bool b) j pos) (tD X.K Tb W (dC (.bool b))) := pe_bl.by fun σ H Q ⟨_, _, _, _, _, h⟩ => Post.here h (.bl b)
theorem fd_non {j pos} : PE X (.Constant .none j pos) (tD X.K Tb W (dC .none)) := pe_non.by fun σ H Q ⟨_, _, _, _, _, h⟩ => Post.here h .non
theorem fd_str {x : Str} {j pos} : PE X (.Constant (.str x) j pos) (tD X.K Tb W (dC (.str x))) := pe_str.by fun σ H Q ⟨_, _, _, _, _, h⟩ => Post.here h (.str x)
theorem fa_nil : PA X [] (tDs X.K Tb W dNil) := pa_nil.by fun σ H Q ⟨_, _, _, _, _, h⟩ => h [] H (Ext.refl H) .nil
theorem fa_cons {e : Expr} {es : List Expr} {f : Dn} {g : DnL} (ha : PE X e (tD X.K Tb W f)) (hr : PA X es (tDs X.K Tb W g)) (hs : starEach (e :: es) X.env = (false, eval e X.env) :: starEach es X.env := by rfl) : PA X (e :: es) (tDs X.K Tb W (dCons f g)) :=
  (pa_cons ha hr hs).by fun σ H Q h => by
    obtain ⟨H0, O0, O, ρ, st, h⟩ := h
    refine ⟨H0, O0, O, ρ, st, Post.then h fun d v H1 e r1 k => ?_⟩
    refine ⟨H0, O0, O, ρ, st.step e, Post.then k fun d2 v2 H2 e2 r2 k2 => ?_⟩
    exact k2 _ H2 (Ext.refl _) (.cons (r1.mono (Sub.hide e2.keep)) r2)
theorem fd_tup {es : List Expr} {g : DnL} {x1} {pos : Pos} (h : PA X es (tDs X.K Tb W g)) : PE X (.Tuple es x1 pos) (tD X.K Tb W (dTup g)) := (pe_tup h).by fun σ H Q h => by
  obtain ⟨H0, O0, O, ρ, st, h⟩ := h
  refine ⟨H0, O0, O, ρ, st, Post.then h fun d v H1 e r1 k => ?_⟩
  split at k
  · rename_i z
    exact ⟨by rw [r1.length]; exact z, Post.newTup (st.step e).al k z r1⟩
  · exact k.elim
theorem fd_lst {es : List Expr} {g : DnL} {pos : Pos} (h : PA X es (tDs X.K Tb W g)) : PE X (.List es pos) (tD X.K Tb W (dLst g)) := (pe_lst h).by fun σ H Q h => by
  obtain ⟨H0, O0, O, ρ, st, h⟩ := h
  refine ⟨H0, O0, O, ρ, st, Post.then h fun d v H1 e r1 k => ?_⟩
  split at k
  · rename_i z
    exact ⟨by rw [r1.length]; exact z, Post.newLst (st.step e).al k z r1⟩
  · exact k.elim

/-! ### operators -/
def rCatS (K : PySem.W.Frag) : R2 := fun x y H Q => ∃ l b xs zs, x = .ref l ∧ y = .ref b ∧ SqL K H l xs ∧ SqL K H b zs ∧ xs.length + zs.length ≤ sizeLine ∧ ∀ p, H p = none → Q (.ref p) (upd H p (.lst (xs ++ zs)))
theorem op_catS : OpR X (binaryOp .Add) (rCatS X.K) := by
  intro pins s σ H x y v u Q I rx ry h
  obtain ⟨l, b, xs, zs, rfl, rfl, hH, hB, hz, q⟩ := h
  cases rx
  cases ry
  obtain ⟨its, r, ⟨⟨cls, dd, data, sl⟩, n, ho, hc, hdd, hd⟩, _⟩ := I.list hH
  obtain ⟨its2, r2, ⟨⟨cls2, dd2, data2, sl2⟩, n2, ho2, hc2, hdd2, hd2⟩, _⟩ := I.list hB
  simp only at hc hdd hd hc2 hdd2 hd2
  subst hc hdd hd hc2 hdd2 hd2
  have l1 := r.length
  have l2 := r2.length
  have e : its.toArray ++ its2.toArray = (its ++ its2).toArray := by simp
  refine concat_meets ⟨_, ho, rfl⟩ ⟨_, ho2, rfl⟩ noFill_list_add seq_list_add PySem.F.slot_list_add PySem.F.entry_list_add (PySem.F.args_list_add_2 _ _) (list_addW l b its.toArray its2.toArray n n2 none none sl sl2 (by rw [List.size_toArray, List.size_toArray]; omega)) ⟨ho, ho2, ?_⟩
  rw [e]
  exact ⟨.ref _, _, I.lnew (t' := s.toks) (r.append r2) (by rw [List.length_append]; omega), rfl, q _ I.fresh⟩
theorem opR_or {f : Value → Value → Sem Value} {r r' : R2} (h : OpR X f r) (h' : OpR X f r') : OpR X f (fun x y H Q => r x y H Q ∨ r' x y H Q) := by
  intro pins s σ H x y v u Q I rx ry q
  rcases q with q | q
  · exact h pins s σ H x y v u Q I rx ry q
  · exact h' pins s σ H x y v u Q I rx ry q
theorem ok_add : Ok2 K (fun x y H Q => rI0 (fun i j => .int (i + j)) x y H Q ∨ (rCatA K x y H Q ∨ rCatS K x y H Q)) oAdd := by
  intro O H Wx x y d e Q al hx hy h
  unfold oAdd at h
  split at h
  · cases hx; cases hy
    exact .inl ⟨_, _, rfl, rfl, Post.here h (.int _)⟩
  · split at h
    · rename_i z
      cases hx with
      | tup h1 z1 a1 =>
        cases hy with
        | tup h2 z2 a2 =>
          refine .inr (.inl ⟨_, _, _, _, rfl, rfl, Sub.unhide.sqT h1, Sub.unhide.sqT h2, by rw [a1.length, a2.length]; exact z, fun e0 => ?_, fun _ e0 => ?_, fun _ _ => ?_⟩)
          · subst e0
            cases a1
            exact Post.here h (.tup h2 z2 a2)
          · subst e0
            cases a2
            rw [List.append_nil] at h
            exact Post.here h (.tup h1 z1 a1)
          · exact Post.newTup al h (by rw [List.length_append]; exact z) (a1.append a2)
    · exact h.elim
  · split at h
    · rename_i z
      cases hx with
      | lst h1 z1 a1 =>
        cases hy with
        | lst h2 z2 a2 =>
          exact .inr (.inr ⟨_, _, _, _, rfl, rfl, Sub.unhide.sqL h1, Sub.unhide.sqL h2, by rw [a1.length, a2.length]; exact z, Post.newLst al h (by rw [List.length_append]; exact z) (a1.append a2)⟩)
    · exact h.elim
  · exact h.elim
theorem ok_sub : Ok2 K (rI0 fun i j => .int (i - j)) oSub := by
  intro O H Wx x y d e Q al hx hy h
  unfold oSub at h
  split at h
  · cases hx; cases hy
    exact ⟨_, _, rfl, rfl, Post.here h (.int _)⟩
  · exact h.elim
theorem ok_mul : Ok2 K (rI CMul fun i j => .int (i * j)) oMul := by
  intro O H Wx x y d e Q al hx hy h
  unfold oMul at h
  split at h
  · cases hx; cases hy
    split at h
    · exact ⟨_, _, rfl, rfl, by assumption, Post.here h (.int _)⟩
    · exact h.elim
  · exact h.elim
theorem ok_div : Ok2 K (rI CDivN fun i j => .int (i.fdiv j)) oDiv := by
  intro O H Wx x y d e Q al hx hy h
  unfold oDiv at h
  split at h
  · cases hx; cases hy
    split at h
    · exact ⟨_, _, rfl, rfl, by assumption, Post.here h (.int _)⟩
    · exact h.elim
  · exact h.elim
theorem ok_mod : Ok2 K (rI (fun _ j => j ≠ 0) fun i j => .int (i.fmod j)) oMod := by
  intro O H Wx x y d e Q al hx hy h
  unfold oMod at h
  split at h
  · cases hx; cases hy
    split at h
    · exact ⟨_, _, rfl, rfl, by assumption, Post.here h (.int _)⟩
    · exact h.elim
  · exact h.elim
theorem ok_pow : Ok2 K (rI CPow fun i j => .int (i ^ j.toNat)) oPow := by
  intro O H Wx x y d e Q al hx hy h
  unfold oPow at h
  split at h
  · cases hx; cases hy
    split at h
    · exact ⟨_, _, rfl, rfl, by assumption, Post.here h (.int _)⟩
    · exact h.elim
  · exact h.elim
variable {a b c : Expr} {f g : Dn} {pos : Pos}
theorem fd_add (ha : PE X a (tD X.K Tb W f)) (hb : PE X b (tD X.K Tb W g)) : PE X (.BinOp a .Add b pos) (tD X.K Tb W (dTwo oAdd f g)) := (pe_op (opR_or op_add (opR_or op_catA op_catS)) ha hb).by fun σ H Q h => tD_two ok_add h
theorem fd_sub (ha : PE X a (tD X.K Tb W f)) (hb : PE X b (tD X.K Tb W g)) : PE X (.BinOp a .Sub b pos) (tD X.K Tb W (dTwo oSub f g)) := (pe_op op_sub ha hb).by fun σ H Q h => tD_two ok_sub h
theorem fd_mul (ha : PE X a (tD X.K Tb W f)) (hb : PE X b (tD X.K Tb W g)) : PE X (.BinOp a .Mult b pos) (tD X.K Tb W (dTwo oMul f g)) := (pe_op op_mul ha hb).by fun σ H Q h => tD_two ok_mul h
theorem fd_div (ha : PE X a (tD X.K Tb W f)) (hb : PE X b (tD X.K Tb W g)) : PE X (.BinOp a .FloorDiv b pos) (tD X.K Tb W (dTwo oDiv f g)) := (pe_op op_fdivN ha hb).by fun σ H Q h => tD_two ok_div h
theorem fd_mod (ha : PE X a (tD X.K Tb W f)) (hb : PE X b (tD X.K Tb W g)) : PE X (.BinOp a .Mod b pos) (tD X.K Tb W (dTwo oMod f g)) := (pe_op op_modN ha hb).by fun σ H Q h => tD_two ok_mod h
theorem fd_pow (ha : PE X a (tD X.K Tb W f)) (hb : PE X b (tD X.K Tb W g)) : PE X (.BinOp a .Pow b pos) (tD X.K Tb W (dTwo oPow f g)) := (pe_op op_pow ha hb).by fun σ H Q h => tD_two ok_pow h
theorem fd_neg (ha : PE X a (tD X.K Tb W f)) : PE X (.UnaryOp .USub a pos) (tD X.K Tb W (dOne oNeg f)) := (pe_un un_neg ha).by fun σ H Q h => tD_one (K := X.K) (u := oNeg) (by
  intro O H Wx v d Q al hv h
  unfold oNeg at h
  split at h
  · cases hv
    exact ⟨_, rfl, Post.here h (.int _)⟩
  · exact h.elim) h

/-! ### comparisons -/
theorem ok_eq : Ok2 K (rEqD K) oEq := by
  intro O H Wx x y d e Q al hx hy h
  unfold oEq at h
  split at h
  · rename_i z
    exact ⟨d, e, (hx.mono Sub.unhide).dp (nod_of_lay (SeqAt.canLay_of_shaped z.1)), (hy.mono Sub.unhide).dp (nod_of_lay (SeqAt.canLay_of_shaped z.2)), z.1, z.2, Post.here h (.bl _)⟩
  · exact h.elim
theorem ok_ne : Ok2 K (rNeD K) oNe := by
  intro O H Wx x y d e Q al hx hy h
  unfold oNe at h
  split at h
  · rename_i z
    exact ⟨d, e, (hx.mono Sub.unhide).dp (nod_of_lay (SeqAt.canLay_of_shaped z.1)), (hy.mono Sub.unhide).dp (nod_of_lay (SeqAt.canLay_of_shaped z.2)), z.1, z.2, Post.here h (.bl _)⟩
  · exact h.elim
def rInS (K : PySem.W.Frag) (neg : Bool) : R2 := fun x y H Q => ∃ d e ds, Dp K H x d ∧ Dp K H y e ∧ items e = .ok ds ∧ SeqAt.shaped d = true ∧ SeqAt.shaped e = true ∧ Q (.bl (if neg then !inD d ds else inD d ds)) H
theorem op_inS (hu : X.A.units + 65 < cLine) : OpR X (compareOp .In) (rInS X.K false) := by
  intro pins s σ H x y v u Q I rx ry h
  obtain ⟨d, e, ds, hd, he, hi, sd, se, q⟩ := h
  obtain ⟨as, r1⟩ := Dp.reads I d x v hd rx
  obtain ⟨bs, r2⟩ := Dp.reads I e y u he ry
  unfold items at hi
  split at hi
  · cases hi
    exact SeqAt.in_list_reads r2 r1 (SeqAt.canLay_of_shaped se) (SeqAt.canLay_of_shaped sd) (room_in_shaped sd hu) ⟨.bl _, H, I, rfl, q⟩
  · cases hi
    exact SeqAt.in_tuple_reads r2 r1 (SeqAt.canLay_of_shaped se) (SeqAt.canLay_of_shaped sd) (room_in_shaped sd hu) ⟨.bl _, H, I, rfl, q⟩
  · cases hi
theorem op_notInS (hu : X.A.units + 65 < cLine) : OpR X (compareOp .NotIn) (rInS X.K true) := by
  intro pins s σ H x y v u Q I rx ry h
  obtain ⟨d, e, ds, hd, he, hi, sd, se, q⟩ := h
  obtain ⟨as, r1⟩ := Dp.reads I d x v hd rx
  obtain ⟨bs, r2⟩ := Dp.reads I e y u he ry
  unfold items at hi
  split at hi
  · cases hi
    exact SeqAt.notIn_list_reads r2 r1 (SeqAt.canLay_of_shaped se) (SeqAt.canLay_of_shaped sd) (room_in_shaped sd hu) ⟨.bl _, H, I, rfl, q⟩
  · cases hi
    exact SeqAt.notIn_tuple_reads r2 r1 (SeqAt.canLay_of_shaped se) (SeqAt.canLay_of_shaped sd) (room_in_shaped sd hu) ⟨.bl _, H, I, rfl, q⟩
  · cases hi
theorem ok_in : Ok2 K (rInS K false) oIn := by
  intro O H Wx x y d e Q al hx hy h
  unfold oIn at h
  split at h
  · rename_i z
    cases hi : items e with
    | ok ds =>
      rw [hi] at h
      exact ⟨d, e, ds, (hx.mono Sub.unhide).dp (nod_of_lay (SeqAt.canLay_of_shaped z.1)), (hy.mono Sub.unhide).dp (nod_of_lay (SeqAt.canLay_of_shaped z.2)), hi, z.1, z.2, Post.here h (.bl _)⟩
    | exc x => cases e <;> cases hi
    | bad => rw [hi] at h; exact h.elim
  · exact h.elim
theorem ok_notIn : Ok2 K (rInS K true) oNotIn := by
  intro O H Wx x y d e Q al hx hy h
  unfold oNotIn at h
  split at h
  · rename_i z
    cases hi : items e with
    | ok ds =>
      rw [hi] at h
      exact ⟨d, e, ds, (hx.mono Sub.unhide).dp (nod_of_lay (SeqAt.canLay_of_shaped z.1)), (hy.mono Sub.unhide).dp (nod_of_lay (SeqAt.canLay_of_shaped z.2)), hi, z.1, z.2, Post.here h (.bl _)⟩
    | exc x => cases e <;> cases hi
    | bad => rw [hi] at h; exact h.elim
  · exact h.elim
theorem ok_cmp {p : Int → Int → Bool} {u : PyData → PyData → R PyData} (hu : ∀ d e, (∃ i j, d = .int i ∧ e = .int j ∧ u d e = .ok (.bool (p i j))) ∨ u d e = .bad) : Ok2 K (rI0 fun i j => .bl (p i j)) u := by
  intro O H Wx x y d e Q al hx hy h
  rcases hu d e with ⟨i, j, rfl, rfl, q⟩ | q
  · rw [q] at h
    cases hx; cases hy
    exact ⟨_, _, rfl, rfl, Post.here h (.bl _)⟩
  · rw [q] at h
    exact h.elim
theorem ok_lt : Ok2 K (rI0 fun i j => .bl (decide (i < j))) oLt := ok_cmp fun d e => by unfold oLt; split; exact .inl ⟨_, _, rfl, rfl, rfl⟩; exact .inr rfl
theorem ok_le : Ok2 K (rI0 fun i j => .bl (decide (i ≤ j))) oLe := ok_cmp fun d e => by unfold oLe; split; exact .inl ⟨_, _, rfl, rfl, rfl⟩; exact .inr rfl
theorem ok_gt : Ok2 K (rI0 fun i j => .bl (decide (j < i))) oGt := ok_cmp (p := fun i j => decide (j < i)) fun d e => by unfold oGt; split; exact .inl ⟨_, _, rfl, rfl, rfl⟩; exact .inr rfl
theorem ok_ge : Ok2 K (rI0 fun i j => .bl (decide (j ≤ i))) oGe := ok_cmp (p := fun i j => decide (j ≤ i)) fun d e => by unfold oGe; split; exact .inl ⟨_, _, rfl, rfl, rfl⟩; exact .inr rfl
/-- a comparison, by its rule -/
theorem fd_cmp {op : CmpOp} {r : R2} {u : PyData → PyData → R PyData} (ho : OpR X (compareOp op) r) (hk : Ok2 X.K r u) (ha : PE X a (tD X.K Tb W f)) (hb : PE X b (tD X.K Tb W g)) (hm : behindInMarks op b = false) : PE X (.Compare a [op] [b] pos) (tD X.K Tb W (dTwo u f g)) :=
  (pe_cmpR ho ha hb hm).by fun σ H Q h => tD_two hk h
theorem Post.asB {x : R PyData} {Q : Bool → Hp → Prop} (h : Post K O RlB Wx H (x >>= asB) Q) : Post K O (RlD K O) Wx H x (fun v H1 => ∃ k, v = .bl k ∧ Q k H1) := by
  refine Post.then h fun d v H1 e r k => ?_
  unfold PD.asB at k
  split at k
  · cases r
    exact ⟨_, rfl, k _ H1 (Ext.refl _) rfl⟩
  · exact k.elim
theorem ft_cmp {op : CmpOp} {r : R2} {u : PyData → PyData → R PyData} (ho : OpR X (compareOp op) r) (hk : Ok2 X.K r u) (ha : PE X a (tD X.K Tb W f)) (hb : PE X b (tD X.K Tb W g)) (hm : behindInMarks op b = false) : PT X (.Compare a [op] [b] pos) (tDT X.K Tb W (dAsB (dTwo u f g))) :=
  (pt_cmpR ho ha hb hm).by fun σ H Q ⟨H0, O0, O, ρ, st, h⟩ => tD_two (Tb := Tb) (W := W) hk ⟨H0, O0, O, ρ, st, Post.asB h⟩
theorem fd_isN {j pos'} (ha : PE X a (tD X.K Tb W f)) : PE X (.Compare a [.Is] [.Constant .none j pos'] pos) (tD X.K Tb W (dOne (fun d => .ok (.bool (isNone d))) f)) := (pe_cmp (pc_isN ha) rfl).by fun σ H Q h => by
  obtain ⟨H0, O0, O, ρ, st, h⟩ := h
  refine ⟨H0, O0, O, ρ, st, Post.then h fun d v H1 e r k => ?_⟩
  have : decide (v = .non) = isNone d := by cases r <;> simp [isNone]
  rw [this]
  exact Post.here k (.bl _)
theorem fd_notN {j pos'} (ha : PE X a (tD X.K Tb W f)) : PE X (.Compare a [.IsNot] [.Constant .none j pos'] pos) (tD X.K Tb W (dOne (fun d => .ok (.bool (!isNone d))) f)) := (pe_cmp (pc_notN ha) rfl).by fun σ H Q h => by
  obtain ⟨H0, O0, O, ρ, st, h⟩ := h
  refine ⟨H0, O0, O, ρ, st, Post.then h fun d v H1 e r k => ?_⟩
  have : decide (v = .non) = isNone d := by cases r <;> simp [isNone]
  rw [this]
  exact Post.here k (.bl _)

/-! ### tests -/
/-- a test by an expression whose value is a bool -/
theorem ft_val (ha : PE X a (tD X.K Tb W f)) (he : ∀ whole, isTrue a X.env whole = (do let v ← whole; standAt a.pos; holding [v] (truthy v)) := by intro _; rfl) : PT X a (tDT X.K Tb W (dAsB f)) :=
  (pt_val ha he).by fun σ H Q ⟨H0, O0, O, ρ, st, h⟩ => ⟨H0, O0, O, ρ, st, (Post.asB h).mono fun b H1 q => q⟩
theorem ft_tru (ha : PE X a (tD X.K Tb W f)) (he : ∀ whole, isTrue a X.env whole = (do let v ← whole; standAt a.pos; holding [v] (truthy v)) := by intro _; rfl) : PT X a (tDT X.K Tb W (dTru f)) :=
  (pt_truth ha he).by fun σ H Q ⟨H0, O0, O, ρ, st, h⟩ => ⟨H0, O0, O, ρ, st, by
    refine Post.then h fun d v H1 e r k => ?_
    unfold truD at k
    split at k
    · cases r; exact ⟨_, rfl, k _ H1 (Ext.refl _) rfl⟩
    · cases r; exact ⟨_, rfl, k _ H1 (Ext.refl _) rfl⟩
    · cases r; exact ⟨_, rfl, k _ H1 (Ext.refl _) rfl⟩
    · cases r with
      | lst h1 z1 a1 =>
        refine ⟨_, .inl ⟨_, Sub.unhide.sqL h1, rfl⟩, k _ H1 (Ext.refl _) ?_⟩
        cases a1 <;> rfl
    · cases r with
      | tup h1 z1 a1 =>
        refine ⟨_, .inr (.inl ⟨_, Sub.unhide.sqT h1, rfl⟩), k _ H1 (Ext.refl _) ?_⟩
        cases a1 <;> rfl
    · exact k.elim⟩
variable {fb gb : DnB} {rest : List Expr}
theorem fw_and1 (ha : PT X a (tDT X.K Tb W fb)) : PW X (.BoolOp .And [a] pos) (tDT X.K Tb W fb) := pw_and1 ha
theorem fw_or1 (ha : PT X a (tDT X.K Tb W fb)) : PW X (.BoolOp .Or [a] pos) (tDT X.K Tb W fb) := pw_or1 ha
theorem fw_and (ha : PT X a (tDT X.K Tb W fb)) (hb : PW X (.BoolOp .And (b :: rest) pos) (tDT X.K Tb W gb)) : PW X (.BoolOp .And (a :: b :: rest) pos) (tDT X.K Tb W (dAnd fb gb)) :=
  (pw_and ha hb).by fun σ H Q ⟨H0, O0, O, ρ, st, h⟩ => ⟨H0, O0, O, ρ, st, by
    refine Post.then h fun d v H1 e r k => ?_
    cases (show v = d from r)
    cases d with
    | true => exact ⟨H0, O0, O, ρ, st.step e, k⟩
    | false => exact k _ H1 (Ext.refl _) rfl⟩
theorem fw_or (ha : PT X a (tDT X.K Tb W fb)) (hb : PW X (.BoolOp .Or (b :: rest) pos) (tDT X.K Tb W gb)) : PW X (.BoolOp .Or (a :: b :: rest) pos) (tDT X.K Tb W (dOr fb gb)) :=
  (pw_or ha hb).by fun σ H Q ⟨H0, O0, O, ρ, st, h⟩ => ⟨H0, O0, O, ρ, st, by
    refine Post.then h fun d v H1 e r k => ?_
    cases (show v = d from r)
    cases d with
    | false => exact ⟨H0, O0, O, ρ, st.step e, k⟩
    | true => exact k _ H1 (Ext.refl _) rfl⟩
theorem ft_not (ha : PT X a (tDT X.K Tb W fb)) : PT X (.UnaryOp .Not a pos) (tDT X.K Tb W (dNot fb)) := (pt_not ha).by fun σ H Q ⟨H0, O0, O, ρ, st, h⟩ => ⟨H0, O0, O, ρ, st, by
    refine Post.then h fun d v H1 e r k => ?_
    cases (show v = d from r)
    exact k _ H1 (Ext.refl _) rfl⟩
theorem fd_one {op} (h : PE X a (tD X.K Tb W f)) : PE X (.BoolOp op [a] pos) (tD X.K Tb W f) := pe_one h
theorem asB_of {d : PyData} {v : V} {α β : Type} {Rl : Hp → β → α → Prop} {k : Bool → R α} {Q : β → Hp → Prop} {G : Hp} (r : Rp K G v d) (h : Post K O Rl Wx H (asB d >>= k) Q) : ∃ b, v = .bl b ∧ Post K O Rl Wx H (k b) Q := by
  unfold asB at h
  split at h
  · cases r; exact ⟨_, rfl, h⟩
  · exact h.elim
theorem fd_and (ha : PE X a (tD X.K Tb W f)) (hb : PE X (.BoolOp .And (b :: rest) pos) (tD X.K Tb W g)) : PE X (.BoolOp .And (a :: b :: rest) pos) (tD X.K Tb W (dAndV f g)) :=
  (pe_and ha hb).by fun σ H Q ⟨H0, O0, O, ρ, st, h⟩ => ⟨H0, O0, O, ρ, st, by
    refine Post.then h fun d v H1 e r k => ?_
    obtain ⟨b, rfl, k⟩ := asB_of r k
    refine ⟨b, rfl, ?_⟩
    cases b with
    | true => exact ⟨H0, O0, O, ρ, st.step e, k⟩
    | false => exact Post.here k (.bl _)⟩
theorem fd_or (ha : PE X a (tD X.K Tb W f)) (hb : PE X (.BoolOp .Or (b :: rest) pos) (tD X.K Tb W g)) : PE X (.BoolOp .Or (a :: b :: rest) pos) (tD X.K Tb W (dOrV f g)) :=
  (pe_or ha hb).by fun σ H Q ⟨H0, O0, O, ρ, st, h⟩ => ⟨H0, O0, O, ρ, st, by
    refine Post.then h fun d v H1 e r k => ?_
    obtain ⟨b, rfl, k⟩ := asB_of r k
    refine ⟨b, rfl, ?_⟩
    cases b with
    | false => exact ⟨H0, O0, O, ρ, st.step e, k⟩
    | true => exact Post.here k (.bl _)⟩
theorem fd_not (ha : PE X a (tD X.K Tb W f)) : PE X (.UnaryOp .Not a pos) (tD X.K Tb W (dNotV f)) := (pe_not ha).by fun σ H Q ⟨H0, O0, O, ρ, st, h⟩ => ⟨H0, O0, O, ρ, st, by
    refine Post.then h fun d v H1 e r k => ?_
    obtain ⟨b, rfl, k⟩ := asB_of r k
    exact ⟨b, rfl, Post.here k (.bl _)⟩⟩
theorem fd_if (hc : PT X c (tDT X.K Tb W fb)) (ha : PE X a (tD X.K Tb W f)) (hb : PE X b (tD X.K Tb W g)) : PE X (.IfExp c a b pos) (tD X.K Tb W (dIf fb f g)) := (pe_ifExp hc ha hb).by fun σ H Q ⟨H0, O0, O, ρ, st, h⟩ => ⟨H0, O0, O, ρ, st, by
    refine Post.then h fun d v H1 e r k => ?_
    cases (show v = d from r)
    cases d with
    | true => exact ⟨H0, O0, O, ρ, st.step e, k⟩
    | false => exact ⟨H0, O0, O, ρ, st.step e, k⟩⟩

/-! ### subscripts and slices -/
theorem atI_rp {G : Hp} {vs : List V} {ds : List PyData} {i : Int} {d : PyData} (r : RpAll K G vs ds) (h : atI ds i = some d) : ∃ v, atI vs i = some v ∧ Rp K G v d := by
  unfold atI at h ⊢
  rw [r.length]
  cases e : ixN ds.length i with
  | none => rw [e] at h; cases h
  | some j =>
    rw [e] at h
    exact r.get' h
theorem ok_ix : Ok2 K (rIx K) oIx := by
  intro O H Wx x y d e Q al hx hy h
  unfold oIx at h
  split at h
  · cases hy
    cases hx with
    | lst h1 z1 a1 =>
      split at h
      · rename_i e
        obtain ⟨v, h2, h3⟩ := atI_rp a1 e
        exact .inl ⟨_, _, _, v, rfl, rfl, Sub.unhide.sqL h1, h2, Post.here h h3⟩
      · exact h.elim
  · cases hy
    cases hx with
    | tup h1 z1 a1 =>
      split at h
      · rename_i e
        obtain ⟨v, h2, h3⟩ := atI_rp a1 e
        exact .inr (.inl ⟨_, _, _, v, rfl, rfl, Sub.unhide.sqT h1, h2, Post.here h h3⟩)
      · exact h.elim
  · exact h.elim
theorem fd_ix (ha : PE X a (tD X.K Tb W f)) (hb : PE X b (tD X.K Tb W g)) (hs : PlainIx b) : PE X (.Subscript a b pos) (tD X.K Tb W (dTwo oIx f g)) := (pe_ix ix_seq ha hb hs).by fun σ H Q h => tD_two ok_ix h
def tDO (K : PySem.W.Frag) (Tb : List Addr) (W : WX) (f : DnO) : TO := fun σ H Q => ∃ H0 O0 O ρ, St0 K Tb H0 O0 O H σ ρ ∧ Post K O (fun _ (x : Option Int) y => x = y) (fun c d H => W c d σ H) H (f ρ) Q
theorem _root_.L2.PO.by {X : Cx} {e : Option Expr} {t t' : TO} (h : PO X e t) (i : ∀ σ H Q, t' σ H Q → t σ H Q) : PO X e t' := ⟨fun pins s σ H Q I q => h.run pins s σ H Q I (i σ H Q q)⟩
theorem fo_none : PO X none (tDO X.K Tb W dNoP) := PO.by po_none fun σ H Q ⟨_, _, _, _, _, h⟩ => h none H (Ext.refl _) rfl
theorem asI_of {d : PyData} {v : V} {α β : Type} {Rl : Hp → β → α → Prop} {k : Int → R α} {Q : β → Hp → Prop} {G : Hp} (r : Rp K G v d) (h : Post K O Rl Wx H (asI d >>= k) Q) : ∃ b, v = .int b ∧ Post K O Rl Wx H (k b) Q := by
  unfold asI at h
  split at h
  · cases r; exact ⟨_, rfl, h⟩
  · exact h.elim
theorem fo_some (ha : PE X a (tD X.K Tb W f)) : PO X (some a) (tDO X.K Tb W (dPart f)) := PO.by (po_some ha) fun σ H Q ⟨H0, O0, O, ρ, st, h⟩ => ⟨H0, O0, O, ρ, st, by
    refine Post.then h fun d v H1 e r k => ?_
    obtain ⟨b, rfl, k⟩ := asI_of r k
    exact ⟨b, rfl, k _ H1 (Ext.refl _) rfl⟩⟩
theorem cut_rp {G : Hp} {vs : List V} {ds : List PyData} (lo hi : Option Int) (r : RpAll K G vs ds) : RpAll K G (cutV vs lo hi) (cutD ds lo hi) := by
  unfold cutV cutD
  rw [r.length]
  exact (r.drop _).take _
theorem fd_cut {lo hi : Option Expr} {fl fh : DnO} {p2 : Pos} (ha : PE X a (tD X.K Tb W f)) (hl : PO X lo (tDO X.K Tb W fl)) (hh : PO X hi (tDO X.K Tb W fh)) : PE X (.Subscript a (.Slice lo hi none p2) pos) (tD X.K Tb W (dCut f fl fh)) :=
  (pe_slice (SlR.or sl_list sl_tupA) ha hl hh).by fun σ H Q ⟨H0, O0, O, ρ, st, h⟩ => ⟨H0, O0, O, ρ, st, by
    refine Post.then h fun d v H1 e r k => ?_
    refine ⟨H0, O0, O, ρ, st.step e, Post.then k fun l l' H2 e2 r2 k2 => ?_⟩
    cases (show l' = l from r2)
    refine ⟨H0, O0, O, ρ, (st.step e).step e2, Post.then k2 fun u u' H3 e3 r3 k3 => ?_⟩
    cases (show u' = u from r3)
    have r' := r.mono (Sub.hide (e2.trans e3).keep)
    have al := (((st.step e).step e2).step e3).al
    unfold oCut at k3
    split at k3
    · cases r' with
      | lst h1 z1 a1 => exact .inl ⟨_, _, rfl, Sub.unhide.sqL h1, Post.newLst al k3 (Nat.le_trans (cutD_length _ _ _) z1) (cut_rp _ _ a1)⟩
    · cases r' with
      | tup h1 z1 a1 =>
        refine .inr ⟨_, _, rfl, Sub.unhide.sqT h1, fun hw => ?_, fun _ => Post.newTup al k3 (Nat.le_trans (cutD_length _ _ _) z1) (cut_rp _ _ a1)⟩
        refine Post.here k3 ?_
        rw [a1.length] at hw
        unfold cutD
        rw [hw.1, hw.2, List.drop_zero, Nat.sub_zero, List.take_length]
        exact .tup h1 z1 a1
    · exact k3.elim⟩
end
end PD

set_option Elab.async false
set_option linter.all false
set_option maxRecDepth 100000
set_option maxHeartbeats 1000000
namespace PD
open PySem PySem.Spec PyProof.Rows L2

/-! ### built-in calls by data -/
def bLen : List PyData → R PyData
  | [d] => (items d) >>= fun xs => .ok (.int xs.length)
  | _ => .bad
def bInt : List PyData → R PyData
  | [.int i] => .ok (.int i)
  | [.bool b] => .ok (.int (if b then 1 else 0))
  | _ => .bad
def bAbs : List PyData → R PyData
  | [.int i] => .ok (.int (if i < 0 then -i else i))
  | _ => .bad
def bTuple : List PyData → R PyData
  | [d] => (items d) >>= fun xs => .ok (.tuple xs)
  | _ => .bad
def bList : List PyData → R PyData
  | [d] => (items d) >>= fun xs => .ok (.list xs)
  | _ => .bad
def asInts : List PyData → Option (List Int)
  | [] => some []
  | .int i :: r => (asInts r).map fun k => i :: k
  | _ :: _ => none
def asBools : List PyData → Option (List Bool)
  | [] => some []
  | .bool i :: r => (asBools r).map fun k => i :: k
  | _ :: _ => none
def ofO {α : Type} (x : Option α) (f : α → R PyData) : R PyData := match x with
  | some a => f a
  | none => .bad
def bSum : List PyData → R PyData
  | [.list xs] => ofO (asInts xs) fun ns => .ok (.int ns.sum)
  | _ => .bad
def maxI : List Int → Int
  | [] => 0
  | [x] => x
  | x :: r => max x (maxI r)
def minI : List Int → Int
  | [] => 0
  | [x] => x
  | x :: r => min x (minI r)
def bMax : List PyData → R PyData
  | [.list xs] => ofO (asInts xs) fun ns => if 0 < ns.length then .ok (.int (maxI ns)) else .bad
  | _ => .bad
def bMin : List PyData → R PyData
  | [.list xs] => ofO (asInts xs) fun ns => if 0 < ns.length then .ok (.int (minI ns)) else .bad
  | _ => .bad
def bMax2 : List PyData → R PyData
  | [.int i, .int j] => .ok (.int (if j > i then j else i))
  | _ => .bad
def bMin2 : List PyData → R PyData
  | [.int i, .int j] => .ok (.int (if j < i then j else i))
  | _ => .bad
def bAny : List PyData → R PyData
  | [.list xs] => ofO (asBools xs) fun ns => .ok (.bool (ns.any id))
  | _ => .bad
def bAll : List PyData → R PyData
  | [.list xs] => ofO (asBools xs) fun ns => .ok (.bool (ns.all id))
  | _ => .bad
/-- isinstance(x, T) of data: T one of int, bool, tuple, list, str -/
def isiD (T : String) : PyData → Option Bool
  | .none => kitB "NoneType" T
  | .bool _ => kitB "bool" T
  | .int _ => kitB "int" T
  | .str _ => kitB "str" T
  | .list _ => kitB "list" T
  | .tuple _ => kitB "tuple" T
  | .dict _ => none
def oIsi (T : String) (d : PyData) : R PyData := match isiD T d with
  | some b => .ok (.bool b)
  | none => .bad

theorem maxI_mem : ∀ {ns : List Int}, 0 < ns.length → maxI ns ∈ ns
  | [], h => by simp at h
  | [x], _ => by simp [maxI]
  | x :: y :: r, _ => by
    have ih := maxI_mem (ns := y :: r) (by simp)
    show max x (maxI (y :: r)) ∈ x :: y :: r
    rcases Int.le_total x (maxI (y :: r)) with h | h
    · rw [Int.max_eq_right h]; exact List.mem_cons_of_mem _ ih
    · rw [Int.max_eq_left h]; exact List.mem_cons_self
theorem le_maxI : ∀ {ns : List Int} {y : Int}, y ∈ ns → y ≤ maxI ns
  | [], _, h => by simp at h
  | [x], y, h => by simp at h; subst h; simp [maxI]
  | x :: z :: r, y, h => by
    show y ≤ max x (maxI (z :: r))
    rcases List.mem_cons.mp h with rfl | h
    · exact Int.le_max_left _ _
    · exact Int.le_trans (le_maxI h) (Int.le_max_right _ _)
theorem minI_mem : ∀ {ns : List Int}, 0 < ns.length → minI ns ∈ ns
  | [], h => by simp at h
  | [x], _ => by simp [minI]
  | x :: y :: r, _ => by
    have ih := minI_mem (ns := y :: r) (by simp)
    show min x (minI (y :: r)) ∈ x :: y :: r
    rcases Int.le_total x (minI (y :: r)) with h | h
    · rw [Int.min_eq_left h]; exact List.mem_cons_self
    · rw [Int.min_eq_right h]; exact List.mem_cons_of_mem _ ih
theorem minI_le : ∀ {ns : List Int} {y : Int}, y ∈ ns → minI ns ≤ y
  | [], _, h => by simp at h
  | [x], y, h => by simp at h; subst h; simp [minI]
  | x :: z :: r, y, h => by
    show min x (minI (z :: r)) ≤ y
    rcases List.mem_cons.mp h with rfl | h
    · exact Int.min_le_left _ _
    · exact Int.le_trans (Int.min_le_right _ _) (minI_le h)

section
variable {X : Cx} {Tb : List Addr} {W : WX} {K : PySem.W.Frag} {O : List Addr} {H : Hp} {σ : L2.St} {Wx : Value → Option Addr → Hp → Prop}
theorem ints_rp {G : Hp} : ∀ {vs : List V} {ds : List PyData} {ns : List Int}, RpAll K G vs ds → asInts ds = some ns → vs = ns.map V.int
  | _, _, _, .nil, h => by cases h; rfl
  | _, _, _, .cons (d := d) (ds := ds) r t, h => by
    cases r with
    | int i =>
      obtain ⟨k, e, rfl⟩ := Option.map_eq_some_iff.mp h
      rw [ints_rp t e]; rfl
    | _ => cases h
theorem bools_rp {G : Hp} : ∀ {vs : List V} {ds : List PyData} {ns : List Bool}, RpAll K G vs ds → asBools ds = some ns → vs = ns.map V.bl
  | _, _, _, .nil, h => by cases h; rfl
  | _, _, _, .cons (d := d) (ds := ds) r t, h => by
    cases r with
    | bl i =>
      obtain ⟨k, e, rfl⟩ := Option.map_eq_some_iff.mp h
      rw [bools_rp t e]; rfl
    | _ => cases h
theorem ofO_post {α : Type} {x : Option α} {f : α → R PyData} {Q : VK} (h : Post K O (RlD K O) Wx H (ofO x f) Q) : ∃ a, x = some a ∧ Post K O (RlD K O) Wx H (f a) Q := by
  cases x with
  | some a => exact ⟨a, rfl, h⟩
  | none => exact h.elim
theorem ok_len : OkL K (fun xs H Q => ∃ p ys, xs = [.ref p] ∧ (SqL K H p ys ∨ SqT K H p ys) ∧ Q (.int ys.length) H) bLen := by
  intro O H Wx vs ds Q al r h
  unfold bLen at h
  split at h
  · cases r with
    | cons r1 r2 =>
      cases r2
      unfold items at h
      split at h
      · cases r1 with
        | lst h1 z1 a1 => exact ⟨_, _, rfl, .inl (Sub.unhide.sqL h1), by rw [a1.length]; exact Post.here h (.int _)⟩
      · cases r1 with
        | tup h1 z1 a1 => exact ⟨_, _, rfl, .inr (Sub.unhide.sqT h1), by rw [a1.length]; exact Post.here h (.int _)⟩
      · exact h.elim
  · exact h.elim
theorem ok_int : OkL K (fun xs H Q => (∃ i, xs = [.int i] ∧ Q (.int i) H) ∨ ∃ k, xs = [.bl k] ∧ Q (.int (if k then 1 else 0)) H) bInt := by
  intro O H Wx vs ds Q al r h
  unfold bInt at h
  split at h
  · cases r with
    | cons r1 r2 => cases r2; cases r1; exact .inl ⟨_, rfl, Post.here h (.int _)⟩
  · cases r with
    | cons r1 r2 => cases r2; cases r1; exact .inr ⟨_, rfl, Post.here h (.int _)⟩
  · exact h.elim
theorem ok_abs : OkL K (fun xs H Q => ∃ i, xs = [.int i] ∧ Q (.int (if i < 0 then -i else i)) H) bAbs := by
  intro O H Wx vs ds Q al r h
  unfold bAbs at h
  split at h
  · cases r with
    | cons r1 r2 => cases r2; cases r1; exact ⟨_, rfl, Post.here h (.int _)⟩
  · exact h.elim
theorem ok_tuple : OkL K (fun xs H Q => ∃ p ys, xs = [.ref p] ∧ ((SqL K H p ys ∧ ∀ l, H l = none → Q (.ref l) (upd H l (.tup ys))) ∨ (SqT K H p ys ∧ Q (.ref p) H))) bTuple := by
  intro O H Wx vs ds Q al r h
  unfold bTuple at h
  split at h
  · cases r with
    | cons r1 r2 =>
      cases r2
      unfold items at h
      split at h
      · cases r1 with
        | lst h1 z1 a1 => exact ⟨_, _, rfl, .inl ⟨Sub.unhide.sqL h1, Post.newTup al h z1 a1⟩⟩
      · cases r1 with
        | tup h1 z1 a1 => exact ⟨_, _, rfl, .inr ⟨Sub.unhide.sqT h1, Post.here h (.tup h1 z1 a1)⟩⟩
      · exact h.elim
  · exact h.elim
theorem ok_list : OkL K (fun xs H Q => ∃ p ys, xs = [.ref p] ∧ (SqL K H p ys ∨ SqT K H p ys) ∧ ∀ l, H l = none → Q (.ref l) (upd H l (.lst ys))) bList := by
  intro O H Wx vs ds Q al r h
  unfold bList at h
  split at h
  · cases r with
    | cons r1 r2 =>
      cases r2
      unfold items at h
      split at h
      · cases r1 with
        | lst h1 z1 a1 => exact ⟨_, _, rfl, .inl (Sub.unhide.sqL h1), Post.newLst al h z1 a1⟩
      · cases r1 with
        | tup h1 z1 a1 => exact ⟨_, _, rfl, .inr (Sub.unhide.sqT h1), Post.newLst al h z1 a1⟩
      · exact h.elim
  · exact h.elim
/-- of a list of ints -/
theorem ok_ints {g : List Int → R PyData} {u : List PyData → R PyData} {r : List V → Hp → VK → Prop} (hu : ∀ ds, (∃ xs, ds = [.list xs] ∧ u ds = ofO (asInts xs) g) ∨ u ds = .bad)
    (k : ∀ (O : List Addr) (H : Hp) (Wx : Value → Option Addr → Hp → Prop) (a : Addr) (ns : List Int) (Q : VK), Al O H → SqL K H a (ns.map V.int) → Post K O (RlD K O) Wx H (g ns) Q → r [.ref a] H Q) : OkL K r u := by
  intro O H Wx vs ds Q al rp h
  rcases hu ds with ⟨xs, rfl, e⟩ | e
  · rw [e] at h
    obtain ⟨ns, en, h⟩ := ofO_post h
    cases rp with
    | cons r1 r2 =>
      cases r2
      cases r1 with
      | lst h1 z1 a1 =>
        have q := ints_rp a1 en
        subst q
        exact k O H Wx _ ns Q al (Sub.unhide.sqL h1) h
  · rw [e] at h
    exact h.elim
theorem ok_bools {g : List Bool → R PyData} {u : List PyData → R PyData} {r : List V → Hp → VK → Prop} (hu : ∀ ds, (∃ xs, ds = [.list xs] ∧ u ds = ofO (asBools xs) g) ∨ u ds = .bad)
    (k : ∀ (O : List Addr) (H : Hp) (Wx : Value → Option Addr → Hp → Prop) (a : Addr) (ns : List Bool) (Q : VK), Al O H → SqL K H a (ns.map V.bl) → Post K O (RlD K O) Wx H (g ns) Q → r [.ref a] H Q) : OkL K r u := by
  intro O H Wx vs ds Q al rp h
  rcases hu ds with ⟨xs, rfl, e⟩ | e
  · rw [e] at h
    obtain ⟨ns, en, h⟩ := ofO_post h
    cases rp with
    | cons r1 r2 =>
      cases r2
      cases r1 with
      | lst h1 z1 a1 =>
        have q := bools_rp a1 en
        subst q
        exact k O H Wx _ ns Q al (Sub.unhide.sqL h1) h
  · rw [e] at h
    exact h.elim
theorem ok_sum : OkL K (rSum K) bSum := ok_ints (fun ds => by unfold bSum; split; exact .inl ⟨_, rfl, rfl⟩; exact .inr rfl) fun O H Wx a ns Q al s h => ⟨a, ns, rfl, s, Post.here h (.int _)⟩
theorem ok_max : OkL K (rMax K) bMax := ok_ints (fun ds => by unfold bMax; split; exact .inl ⟨_, rfl, rfl⟩; exact .inr rfl) fun O H Wx a ns Q al s h => by
  by_cases hn : 0 < ns.length
  · rw [if_pos hn] at h
    refine ⟨a, ns, rfl, s, hn, fun m h1 h2 => ?_⟩
    have e : m = maxI ns := Int.le_antisymm (le_maxI h1) (h2 _ (maxI_mem hn))
    rw [e]
    exact Post.here h (.int _)
  · rw [if_neg hn] at h
    exact h.elim
theorem ok_min : OkL K (rMin K) bMin := ok_ints (fun ds => by unfold bMin; split; exact .inl ⟨_, rfl, rfl⟩; exact .inr rfl) fun O H Wx a ns Q al s h => by
  by_cases hn : 0 < ns.length
  · rw [if_pos hn] at h
    refine ⟨a, ns, rfl, s, hn, fun m h1 h2 => ?_⟩
    have e : m = minI ns := Int.le_antisymm (h2 _ (minI_mem hn)) (minI_le h1)
    rw [e]
    exact Post.here h (.int _)
  · rw [if_neg hn] at h
    exact h.elim
theorem ok_any : OkL K (rAny K) bAny := ok_bools (fun ds => by unfold bAny; split; exact .inl ⟨_, rfl, rfl⟩; exact .inr rfl) fun O H Wx a ns Q al s h => ⟨a, ns, rfl, s, Post.here h (.bl _)⟩
theorem ok_all : OkL K (rAll K) bAll := ok_bools (fun ds => by unfold bAll; split; exact .inl ⟨_, rfl, rfl⟩; exact .inr rfl) fun O H Wx a ns Q al s h => ⟨a, ns, rfl, s, Post.here h (.bl _)⟩
theorem ok_max2 : OkL K (fun xs H Q => ∃ i j, xs = [.int i, .int j] ∧ Q (.int (if j > i then j else i)) H) bMax2 := by
  intro O H Wx vs ds Q al r h
  unfold bMax2 at h
  split at h
  · cases r with
    | cons r1 r2 => cases r2 with
      | cons r2 r3 => cases r3; cases r1; cases r2; exact ⟨_, _, rfl, Post.here h (.int _)⟩
  · exact h.elim
theorem ok_min2 : OkL K (fun xs H Q => ∃ i j, xs = [.int i, .int j] ∧ Q (.int (if j < i then j else i)) H) bMin2 := by
  intro O H Wx vs ds Q al r h
  unfold bMin2 at h
  split at h
  · cases r with
    | cons r1 r2 => cases r2 with
      | cons r2 r3 => cases r3; cases r1; cases r2; exact ⟨_, _, rfl, Post.here h (.int _)⟩
  · exact h.elim

variable {x : Str} {p pos : Pos} {e : Expr} {es : List Expr} {g : DnL} {id T : String} {r : List V → Hp → VK → Prop} {u : List PyData → R PyData}
theorem fd_callB (hc : CallR X (.builtin id) r) (hk : OkL X.K r u) (hg : Gl X x) (hm : X.mg x = none) (hv : bootBuiltins x = some (.builtin id)) (ha : PA X (e :: es) (tDs X.K Tb W g)) (hn : x ≠ "__name__" := by decide) (hdb : (x == ("__debug__" : Str)) = false := by decide)
    (he : starEach (e :: es) X.env = (false, eval e X.env) :: starEach es X.env := by rfl) (hpl : (backTo pos (starEach es X.env)).any (·.1) = false := by rfl) : PE X (.Call (.Name x p) (e :: es) [] pos) (tD X.K Tb W (dArg u g)) :=
  (pe_callB hc hg hm hv ha hn hdb he hpl).by fun σ H Q h => tD_arg hk h
theorem fd_callTy (hc : CallR X (.type T) r) (hk : OkL X.K r u) (hg : Gl X x) (hm : X.mg x = none) (hv : bootBuiltins x = some (.type T)) (ha : PA X (e :: es) (tDs X.K Tb W g)) (hn : x ≠ "__name__" := by decide) (hdb : (x == ("__debug__" : Str)) = false := by decide)
    (he : starEach (e :: es) X.env = (false, eval e X.env) :: starEach es X.env := by rfl) (hpl : (backTo pos (starEach es X.env)).any (·.1) = false := by rfl) : PE X (.Call (.Name x p) (e :: es) [] pos) (tD X.K Tb W (dArg u g)) :=
  (pe_callTy hc hg hm hv ha hn hdb he hpl).by fun σ H Q h => tD_arg hk h
theorem tyX_rp {G : Hp} {v : V} {d : PyData} {T : String} {b : Bool} (r : Rp K H v d) (h : isiD T d = some b) : ∃ t, TyX K H v (.type t) ∧ PySem.W.kitOne K (.type t) (.type T) = some b := by
  unfold isiD at h
  cases r with
  | non => exact ⟨_, .base .non, kit_ty h⟩
  | bl b => exact ⟨_, .base (.bl b), kit_ty h⟩
  | int b => exact ⟨_, .base (.int b), kit_ty h⟩
  | str b => exact ⟨_, .base (.str b), kit_ty h⟩
  | lst h1 z a =>
    rcases h1 with (h1 | ⟨o, h1⟩) | ⟨o, its, n, h1, h2, _⟩
    · exact ⟨_, .base (.lst h1), kit_ty h⟩
    · exact ⟨_, .base (.frz h1), kit_ty h⟩
    · exact ⟨_, .kList h1 h2, kit_ty h⟩
  | tup h1 z a =>
    rcases h1 with (h1 | ⟨o, h1⟩) | ⟨o, its, n, h1, h2, _⟩
    · exact ⟨_, .base (.tup h1), kit_ty h⟩
    · exact ⟨_, .fTuple h1, kit_ty h⟩
    · exact ⟨_, .kTuple h1 h2, kit_ty h⟩
  | dct _ _ => cases h
/-- isinstance(x, T) -/
theorem fd_isi {f : Dn} {a : Expr} {y : Str} {py : Pos} (ha : PE X a (tD X.K Tb W f)) (hg : Gl X "isinstance") (hm : X.mg "isinstance" = none) (hgy : Gl X y) (hmy : X.mg y = none) (hvy : bootBuiltins y = some (.type T)) (hny : y ≠ "__name__" := by decide) (hdy : (y == ("__debug__" : Str)) = false := by decide)
    (he : starEach [a, .Name y py] X.env = (false, eval a X.env) :: starEach [.Name y py] X.env := by rfl) (he2 : starEach [.Name y py] X.env = (false, eval (.Name y py) X.env) :: starEach [] X.env := by rfl) (hpl : (backTo pos (starEach [.Name y py] X.env)).any (·.1) = false := by rfl) :
    PE X (.Call (.Name "isinstance" p) [a, .Name y py] [] pos) (tD X.K Tb W (dOne (oIsi T) f)) :=
  (pe_callB call_isi hg hm boot_isinstance (pa_cons ha (pa_cons (pe_bltn (v := .ty T) hgy hmy hvy rfl hny hdy) pa_nil he2) he) (by decide) (by decide) he hpl).by fun σ H Q ⟨H0, O0, O, ρ, st, h⟩ => ⟨H0, O0, O, ρ, st, by
    refine Post.then h fun d v H1 e r k => ?_
    unfold oIsi at k
    split at k
    · rename_i b hb
      obtain ⟨t, h1, h2⟩ := tyX_rp (G := H1) (r.mono Sub.unhide) hb
      exact ⟨v, .ty T, .type t, .type T, b, rfl, .ty T, h1, h2, Post.here k (.bl b)⟩
    · exact k.elim⟩
end
end PD

set_option Elab.async false
set_option linter.all false
set_option maxRecDepth 100000
set_option maxHeartbeats 1000000
namespace PD
open PySem PySem.Spec PyProof.Rows L2

/-! ### what is walked -/
structure ItD (K : PySem.W.Frag) (G : Hp) (J : It) (ds : List PyData) : Prop where
  len : ds.length ≤ sizeLine
  go : ∀ i H', Ext G H' → i < ds.length → J.go i H'
  yld : ∀ i H' (O' : List Addr) x H'', Ext G H' → (∀ b ∈ O', G b = none) → Al O' H' → i < ds.length → J.yld i H' x H'' → Ext H' H'' ∧ ∃ d, ds[i]? = some d ∧ Rp K (hide O' H'') x d
  stop : ∀ H', Ext G H' → J.stop ds.length H'
def tI (K : PySem.W.Frag) (Tb : List Addr) (W : WX) (f : DnL) : TI := fun σ H R => ∃ H0 O0 O ρ, St0 K Tb H0 O0 O H σ ρ ∧ Post K O (fun H' J ds => ItD K (hide O H') J ds) (fun c d H => W c d σ H) H (f ρ) R
theorem _root_.L2.PI.by {X : Cx} {tg iter : Expr} {t t' : TI} (h : PI X tg iter t) (i : ∀ σ H Q, t' σ H Q → t σ H Q) : PI X tg iter t' := ⟨fun pins s σ H Q I q => h.run pins s σ H Q I (i σ H Q q)⟩

theorem hide_idem {O : List Addr} {H : Hp} : hide O (hide O H) = hide O H := by
  funext b
  unfold hide
  split <;> rfl
section
variable {K : PySem.W.Frag} {G H H' H'' : Hp} {O O' : List Addr} {a : Addr} {ds : List PyData} {xs : List V}
theorem Ext.under (e : Ext G H') (n : ∀ b ∈ O', G b = none) : Sub G (hide O' H') := fun b o h h2 => by
  have hb : b ∉ O' := fun m => by rw [n b m] at h; cases h
  rw [hide_out hb]
  exact e.keep b o h h2
theorem itd_list (h : SqL K G a xs) (z : ds.length ≤ sizeLine) (r : RpAll K G xs ds) : ItD K G (Itl K a) ds where
  len := z
  go := fun i H' e hi => by
    have hx : i < xs.length := by rw [r.length]; exact hi
    exact ⟨xs, xs[i], (Sub.ext e).sqL h, List.getElem?_eq_getElem hx⟩
  yld := fun i H' O' x H'' e n al hi y => by
    obtain ⟨rfl, y⟩ := y
    have q := y xs ((Sub.ext e).sqL h)
    obtain ⟨d, h1, h2⟩ := r.get q
    exact ⟨Ext.refl _, d, h1, h2.mono (e.under n)⟩
  stop := fun H' e => ⟨xs, (Sub.ext e).sqL h, by rw [r.length]; exact Nat.le_refl _⟩
theorem itd_tup (h : SqT K G a xs) (z : ds.length ≤ sizeLine) (r : RpAll K G xs ds) : ItD K G (Itt K a) ds where
  len := z
  go := fun i H' e hi => by
    have hx : i < xs.length := by rw [r.length]; exact hi
    exact ⟨xs, xs[i], (Sub.ext e).sqT h, List.getElem?_eq_getElem hx⟩
  yld := fun i H' O' x H'' e n al hi y => by
    obtain ⟨rfl, y⟩ := y
    have q := y xs ((Sub.ext e).sqT h)
    obtain ⟨d, h1, h2⟩ := r.get q
    exact ⟨Ext.refl _, d, h1, h2.mono (e.under n)⟩
  stop := fun H' e => ⟨xs, (Sub.ext e).sqT h, by rw [r.length]; exact Nat.le_refl _⟩
/-- lo, lo + 1, .. -/
def rngD (lo : Int) (n : Nat) : List PyData := (List.range n).map fun i => .int (lo + (i : Nat))
theorem itd_rng {lo : Int} {n : Nat} (z : n ≤ sizeLine) : ItD K G (Itr lo n) (rngD lo n) where
  len := by unfold rngD; rw [List.length_map, List.length_range]; exact z
  go := fun i H' e hi => by
    unfold rngD at hi; rw [List.length_map, List.length_range] at hi; exact hi
  yld := fun i H' O' x H'' e n' al hi y => by
    obtain ⟨rfl, rfl⟩ := y
    unfold rngD at hi ⊢
    rw [List.length_map, List.length_range] at hi
    exact ⟨Ext.refl _, _, by rw [List.getElem?_map, List.getElem?_range hi]; rfl, .int _⟩
  stop := fun H' e => by
    unfold rngD
    rw [List.length_map, List.length_range]
    exact Nat.le_refl n
end
section
variable {X : Cx} {Tb : List Addr} {W : WX} {tg : Expr}
theorem pi_both {l : Expr} {tl : TE} (hl : PE X l tl) : PI X tg l (fun σ H R => tl σ H fun x H1 => ∃ a, x = .ref a ∧ (((∃ xs, SqL X.K H1 a xs) ∧ R (Itl X.K a) H1) ∨ ((∃ xs, SqT X.K H1 a xs) ∧ R (Itt X.K a) H1))) := by
  refine ⟨fun pins s σ H R I h => ?_⟩
  refine thn (hl.run pins s σ H _ I h) fun v s1 ⟨x, H1, I1, r1, q1⟩ => ?_
  obtain ⟨a, e, q | q⟩ := q1
  · have k : PI X tg (.Name "x" ⟨0, 0, 0, 0⟩) (fun _ H' R' => H' = H1 ∧ R' = R) → True := fun _ => trivial
    obtain ⟨⟨xs, hq⟩, q⟩ := q
    subst e
    cases r1
    obtain ⟨its, rv, p, hz⟩ := I1.list hq
    refine wpAny_pyIter_list p.isList ?_
    have f : FpOk X pins H1 s1.heap.objs.size := I1.fpOk (Nat.le_refl _) (I1.hok.fresh (Nat.le_refl _))
    exact ⟨s1.heap.objs.size, [s1.heap.objs.size], _, _, H1, rfl, I1.kept (t' := s1.toks) fun b o e => Heap.get?_push_of_some _ e, turn_list a _, ⟨_, Heap.get?_push_size _ rfl, rfl, rfl⟩, fun b hb => (List.mem_singleton.mp hb) ▸ f, q⟩
  · obtain ⟨⟨xs, hq⟩, q⟩ := q
    subst e
    cases r1
    obtain ⟨its, rv, p, hz⟩ := I1.tuple hq
    refine wpAny_pyIter_tuple (show s1.heap.IsTuple a its.toArray from p) ?_
    have f : FpOk X pins H1 s1.heap.objs.size := I1.fpOk (Nat.le_refl _) (I1.hok.fresh (Nat.le_refl _))
    exact ⟨s1.heap.objs.size, [s1.heap.objs.size], _, _, H1, rfl, I1.kept (t' := s1.toks) fun b o e => Heap.get?_push_of_some _ e, turn_tuple a _, ⟨_, Heap.get?_push_size _ rfl, rfl, rfl⟩, fun b hb => (List.mem_singleton.mp hb) ▸ f, q⟩
def dItems (f : Dn) : DnL := fun ρ => f ρ >>= items
theorem fi_seq {l : Expr} {f : Dn} (hl : PE X l (tD X.K Tb W f)) : PI X tg l (tI X.K Tb W (dItems f)) := (pi_both hl).by fun σ H R ⟨H0, O0, O, ρ, st, h⟩ => ⟨H0, O0, O, ρ, st, by
  refine Post.then h fun d v H1 e r k => ?_
  unfold items at k
  split at k
  · cases r with
    | lst h1 z1 a1 => exact ⟨_, rfl, .inl ⟨⟨_, Sub.unhide.sqL h1⟩, k _ H1 (Ext.refl _) (itd_list h1 z1 a1)⟩⟩
  · cases r with
    | tup h1 z1 a1 => exact ⟨_, rfl, .inr ⟨⟨_, Sub.unhide.sqT h1⟩, k _ H1 (Ext.refl _) (itd_tup h1 z1 a1)⟩⟩
  · exact k.elim⟩
def rngA1 : List PyData → R (List PyData)
  | [.int n] => if -(2 ^ 62) ≤ n ∧ n.toNat ≤ sizeLine then .ok (rngD 0 n.toNat) else .bad
  | _ => .bad
def rngA2 : List PyData → R (List PyData)
  | [.int a, .int b] => if (-(2 ^ 62) ≤ a ∧ a < 2 ^ 62 ∧ -(2 ^ 62) ≤ b ∧ b < 2 ^ 62) ∧ (b - a).toNat ≤ sizeLine then .ok (rngD a (b - a).toNat) else .bad
  | _ => .bad
def dRng1 (g : DnL) : DnL := fun ρ => g ρ >>= rngA1
def dRng2 (g : DnL) : DnL := fun ρ => g ρ >>= rngA2
theorem line62 : (sizeLine : Int) < 2 ^ 62 := by rw [sizeLine_eq]; decide
theorem fi_rng1 {a : Expr} {g : DnL} {p pos : Pos} (hg : Gl X "range") (hm : X.mg "range" = none) (ha : PA X [a] (tDs X.K Tb W g)) (hs : starEach [a] X.env = [(false, eval a X.env)] := by rfl) : PI X tg (.Call (.Name "range" p) [a] [] pos) (tI X.K Tb W (dRng1 g)) :=
  (pi_range1 hg hm ha hs).by fun σ H R' ⟨H0, O0, O, ρ, st, h⟩ => ⟨H0, O0, O, ρ, st, by
    refine Post.then h fun d v H1 e r k => ?_
    unfold rngA1 at k
    split at k
    · split at k
      · rename_i z
        cases r with
        | cons r1 r2 =>
          cases r2
          cases r1
          have := line62
          exact ⟨_, rfl, z.1, by omega, k _ H1 (Ext.refl _) (itd_rng z.2)⟩
      · exact k.elim
    · exact k.elim⟩
theorem fi_rng2 {a b : Expr} {g : DnL} {p pos : Pos} (hg : Gl X "range") (hm : X.mg "range" = none) (ha : PA X [a, b] (tDs X.K Tb W g)) (hs : starEach [a, b] X.env = [(false, eval a X.env), (false, eval b X.env)] := by rfl) (hs2 : starEach [b] X.env = [(false, eval b X.env)] := by rfl) :
    PI X tg (.Call (.Name "range" p) [a, b] [] pos) (tI X.K Tb W (dRng2 g)) :=
  (pi_range2 hg hm ha hs hs2).by fun σ H R' ⟨H0, O0, O, ρ, st, h⟩ => ⟨H0, O0, O, ρ, st, by
    refine Post.then h fun d v H1 e r k => ?_
    unfold rngA2 at k
    split at k
    · split at k
      · rename_i z
        cases r with
        | cons r1 r2 =>
          cases r2 with
          | cons r2 r3 =>
            cases r3
            cases r1
            cases r2
            exact ⟨_, _, rfl, z.1, k _ H1 (Ext.refl _) (itd_rng z.2)⟩
      · exact k.elim
    · exact k.elim⟩

/-! ### targets -/
inductive Tg where
  | nm (i : Nat)
  | tp (ts : List Tg)
mutual
def Tg.set : Tg → PyData → Rho → Option Rho
  | .nm i, d, ρ => some (ρ.set i (some (.d d)))
  | .tp ts, d, ρ => match d with
    | .tuple ds => Tg.sets ts ds ρ
    | _ => none
def Tg.sets : List Tg → List PyData → Rho → Option Rho
  | [], [], ρ => some ρ
  | t :: ts, d :: ds, ρ => (Tg.set t d ρ).bind fun ρ' => Tg.sets ts ds ρ'
  | _, _, _ => none
end
mutual
def Tg.ixs : Tg → List Nat
  | .nm i => [i]
  | .tp ts => Tg.ixss ts
def Tg.ixss : List Tg → List Nat
  | [] => []
  | t :: ts => Tg.ixs t ++ Tg.ixss ts
end
/-- but for the places is -/
def Agr (is : List Nat) (σ σ' : L2.St) : Prop := σ'.length = σ.length ∧ ∀ j, j ∉ is → σ'[j]? = σ[j]?
theorem Agr.refl (is : List Nat) (σ : L2.St) : Agr is σ σ := ⟨rfl, fun _ _ => rfl⟩
theorem Agr.trans {is js : List Nat} {σ σ1 σ2 : L2.St} (a : Agr is σ σ1) (b : Agr js σ1 σ2) : Agr (is ++ js) σ σ2 :=
  ⟨b.1.trans a.1, fun j h => by rw [List.mem_append, not_or] at h; rw [b.2 j h.2, a.2 j h.1]⟩
theorem wipe_in {σ : L2.St} {j : Nat} : ∀ {vs : List Nat}, j ∈ vs → j < σ.length → (wipe σ vs)[j]? = some none
  | v :: vs, h, hl => by
    unfold wipe
    by_cases e : v = j
    · subst e
      rw [List.getElem?_set_self (by rw [wipe_length]; exact hl)]
    · rw [List.getElem?_set_ne e]
      rcases List.mem_cons.mp h with h | h
      · exact absurd h.symm e
      · exact wipe_in h hl
theorem Agr.wipe {is vs : List Nat} {σ σ' : L2.St} (a : Agr is σ σ') (h : ∀ i ∈ is, i ∈ vs) : L2.wipe σ' vs = L2.wipe σ vs := by
  apply List.ext_getElem?
  intro j
  by_cases hj : j ∈ vs
  · by_cases hl : j < σ.length
    · rw [wipe_in hj hl, wipe_in hj (by rw [a.1]; exact hl)]
    · rw [List.getElem?_eq_none (by rw [wipe_length, a.1]; omega), List.getElem?_eq_none (by rw [wipe_length]; omega)]
  · rw [wipe_out hj, wipe_out hj, a.2 j fun m => hj (h j m)]
/-- a target: the value v, that reads as d, is stored -/
def tG (K : PySem.W.Frag) (Tb : List Addr) (t : Tg) : TG := fun v σ H Q => ∃ H0 O0 O ρ ρ' d, St0 K Tb H0 O0 O H σ ρ ∧ Rp K (hide O H) v d ∧ t.set d ρ = some ρ' ∧ ∀ σ', St0 K Tb H0 O0 O H σ' ρ' → Agr t.ixs σ σ' → Q σ' H
def tGs (K : PySem.W.Frag) (Tb : List Addr) (ts : List Tg) : TGs := fun vs σ H Q => ∃ H0 O0 O ρ ρ' ds, St0 K Tb H0 O0 O H σ ρ ∧ RpAll K (hide O H) vs ds ∧ Tg.sets ts ds ρ = some ρ' ∧ ∀ σ', St0 K Tb H0 O0 O H σ' ρ' → Agr (Tg.ixss ts) σ σ' → Q σ' H
theorem _root_.L2.PG.by {X : Cx} {tg : Expr} {t t' : TG} (h : PG X tg t) (i : ∀ v σ H Q, t' v σ H Q → t v σ H Q) : PG X tg t' := ⟨fun pins s σ H v u Q I r q => h.run pins s σ H v u Q I r (i v σ H Q q)⟩
theorem _root_.L2.PGs.by {X : Cx} {tg : List Expr} {t t' : TGs} (h : PGs X tg t) (i : ∀ v σ H Q, t' v σ H Q → t v σ H Q) : PGs X tg t' := ⟨fun pins s σ H v u Q I r q => h.run pins s σ H v u Q I r (i v σ H Q q)⟩
theorem St0.set {K : PySem.W.Frag} {H0 H : Hp} {O0 O : List Addr} {ρ : Rho} {σ : L2.St} {i : Nat} {v : V} {d : PyData} (st : St0 K Tb H0 O0 O H σ ρ) (r : Rp K (hide O H) v d) : St0 K Tb H0 O0 O H (σ.set i (some v)) (ρ.set i (some (.d d))) where
  ext := st.ext
  sub := st.sub
  new := st.new
  al := st.al
  tab := st.tab
  pln := st.pln
  len := by rw [List.length_set, List.length_set]; exact st.len
  slot := fun j x h => by
    by_cases e : i = j
    · subst e
      have hl : i < ρ.length := by
        have := (List.getElem?_eq_some_iff.mp h).1
        rw [List.length_set] at this
        exact this
      rw [List.getElem?_set_self hl] at h
      cases h
      exact ⟨v, by rw [List.getElem?_set_self (by rw [st.len]; exact hl)], r⟩
    · rw [List.getElem?_set_ne e] at h ⊢
      exact st.slot j x h
  inj := fun j k p xs ys hx hy h1 h2 h3 h4 => by
    by_cases e : i = j
    · subst e
      have hl : i < ρ.length := by
        have := (List.getElem?_eq_some_iff.mp h1).1
        rw [List.length_set] at this
        exact this
      rw [List.getElem?_set_self hl] at h1
      cases h1
      exact hx.elim
    · by_cases e2 : i = k
      · subst e2
        have hl : i < ρ.length := by
          have := (List.getElem?_eq_some_iff.mp h2).1
          rw [List.length_set] at this
          exact this
        rw [List.getElem?_set_self hl] at h2
        cases h2
        exact hy.elim
      · rw [List.getElem?_set_ne e] at h1 h3
        rw [List.getElem?_set_ne e2] at h2 h4
        exact st.inj j k p xs ys hx hy h1 h2 h3 h4
theorem fg_nm {i : Nat} {x : Str} {pos : Pos} (hN : X.N.Nodup) (hi : X.N[i]? = some x) (hx : Loc X.env.scope x) (hf : X.fn x = true ∨ X.env.scope.names.lookup x = some .local := by first | exact .inl rfl | exact .inr rfl | assumption) : PG X (.Name x pos) (tG X.K Tb (.nm i)) :=
  (pg_name hN hi hx hf).by fun v σ H Q ⟨H0, O0, O, ρ, ρ', d, st, r, e, q⟩ => by
    unfold Tg.set at e
    cases e
    refine q _ (st.set r) ⟨by rw [List.length_set], fun j hj => ?_⟩
    unfold Tg.ixs at hj
    rw [List.getElem?_set_ne (fun e => hj (by rw [e]; exact List.mem_singleton.mpr rfl))]
theorem fgs_nil : PGs X [] (tGs X.K Tb []) := pgs_nil.by fun v σ H Q ⟨H0, O0, O, ρ, ρ', ds, st, r, e, q⟩ => by
  cases r with
  | nil =>
    unfold Tg.sets at e
    cases e
    exact ⟨rfl, q _ st (Agr.refl _ _)⟩
  | cons _ _ => unfold Tg.sets at e; cases e
theorem fgs_cons {e : Expr} {es : List Expr} {t : Tg} {ts : List Tg} (h1 : PG X e (tG X.K Tb t)) (h2 : PGs X es (tGs X.K Tb ts))
    (hs : (assignEach (e :: es) X.env).map (·.2) = assign e X.env :: (assignEach es X.env).map (·.2) := by rfl) : PGs X (e :: es) (tGs X.K Tb (t :: ts)) := (pgs_cons h1 h2 hs).by fun v σ H Q ⟨H0, O0, O, ρ, ρ', ds, st, r, e, q⟩ => by
  cases r with
  | nil => unfold Tg.sets at e; cases e
  | @cons v vs d ds r1 r2 =>
    unfold Tg.sets at e
    cases e1 : Tg.set t d ρ with
    | none => rw [e1] at e; cases e
    | some ρ1 =>
      rw [e1] at e
      refine ⟨v, vs, rfl, H0, O0, O, ρ, ρ1, d, st, r1, e1, fun σ' st' ag => ?_⟩
      refine ⟨H0, O0, O, ρ1, ρ', ds, st', r2, e, fun σ2 st2 ag2 => q _ st2 ?_⟩
      unfold Tg.ixss
      exact ag.trans ag2
theorem fg_tup {es : List Expr} {k : Nat} {ts : List Tg} {pos : Pos} {n : Nat} (hc : X.calm = true) (h : PGs X es (tGs X.K Tb ts)) (hn : (assignEach es X.env).length = n := by rfl) (hst : (assignEach es X.env).findIdx? (·.1) = none := by rfl) (hl : ts.length = n := by rfl) :
    PG X (.Tuple es k pos) (tG X.K Tb (.tp ts)) := (pg_tup hc h hn hst).by fun v σ H Q ⟨H0, O0, O, ρ, ρ', d, st, r, e, q⟩ => by
  unfold Tg.set at e
  split at e
  · cases r with
    | tup h1 z1 a1 =>
      rename_i xs ds _
      have hlen : ∀ (ts : List Tg) (ds : List PyData) (ρ ρ' : Rho), Tg.sets ts ds ρ = some ρ' → ds.length = ts.length := by
        intro ts
        induction ts with
        | nil => intro ds ρ ρ' e; cases ds with
          | nil => rfl
          | cons _ _ => unfold Tg.sets at e; cases e
        | cons t ts ih => intro ds ρ ρ' e; cases ds with
          | nil => unfold Tg.sets at e; cases e
          | cons d ds =>
            unfold Tg.sets at e
            cases e1 : Tg.set t d ρ with
            | none => rw [e1] at e; cases e
            | some ρ1 =>
              rw [e1] at e
              rw [List.length_cons, List.length_cons, ih _ _ _ e]
      refine ⟨_, _, rfl, Sub.unhide.sqT h1, ?_, H0, O0, O, ρ, ρ', _, st, a1, e, fun σ' st' ag => q σ' st' ?_⟩
      · rw [a1.length, hlen _ _ _ _ e, hl]
      · unfold Tg.ixs
        exact ag
  · cases e
end
end PD

set_option Elab.async false
set_option linter.all false
set_option maxRecDepth 100000
set_option maxHeartbeats 1000000
namespace PD
open PySem PySem.Spec PyProof.Rows L2

/-! ### comprehensions -/
def nx {α β : Type} (x : R α) (k : α → R β) : R β := match x with
  | .ok a => k a
  | _ => .bad
theorem nx_ok {α β : Type} {x : R α} {k : α → R β} {b : β} (h : nx x k = .ok b) : ∃ a, x = .ok a ∧ k a = .ok b := by
  cases x with
  | ok a => exact ⟨a, rfl, h⟩
  | exc e => cases h
  | bad => cases h
@[simp] theorem nx_ok' {α β : Type} {a : α} {k : α → R β} : nx (.ok a) k = k a := rfl
def wipeR (ρ : Rho) : List Nat → Rho
  | [] => ρ
  | v :: vs => (wipeR ρ vs).set v none
def lcGo (t : Tg) (ft : DnB) (fe : Dn) (ρ : Rho) : List PyData → R (List PyData)
  | [] => .ok []
  | d :: ds => match t.set d ρ with
    | some ρ1 => nx (ft ρ1) fun b => if b = true then nx (fe ρ1) fun y => nx (lcGo t ft fe ρ ds) fun ys => .ok (y :: ys) else lcGo t ft fe ρ ds
    | none => .bad
def dLc (fi : DnL) (t : Tg) (ft : DnB) (fe : Dn) (vs : List Nat) : Dn := fun ρ => fi ρ >>= fun ds => nx (lcGo t ft fe (wipeR ρ vs) ds) fun ys => .ok (.list ys)
def W0 : WX := fun _ _ _ _ => False
def dYes : DnB := fun _ => .ok true

theorem wipeR_length (ρ : Rho) : ∀ vs : List Nat, (wipeR ρ vs).length = ρ.length
  | [] => rfl
  | v :: vs => by unfold wipeR; rw [List.length_set, wipeR_length ρ vs]
theorem wipeR_some {ρ : Rho} {i : Nat} {x : Sl} : ∀ {vs : List Nat}, (wipeR ρ vs)[i]? = some (some x) → ρ[i]? = some (some x) ∧ i ∉ vs
  | [], h => ⟨h, by simp⟩
  | v :: vs, h => by
    unfold wipeR at h
    by_cases hi : v = i
    · subst hi
      by_cases hv : v < (wipeR ρ vs).length
      · rw [List.getElem?_set_self hv] at h; cases h
      · rw [List.getElem?_eq_none (by simpa using hv)] at h; cases h
    · rw [List.getElem?_set_ne hi] at h
      obtain ⟨h1, h2⟩ := wipeR_some h
      exact ⟨h1, by simp only [List.mem_cons, not_or]; exact ⟨fun e => hi e.symm, h2⟩⟩
theorem wipe_wipe {σ : L2.St} {vs : List Nat} : L2.wipe (L2.wipe σ vs) vs = L2.wipe σ vs := by
  refine Agr.wipe (is := vs) ⟨wipe_length _ _, fun j h => wipe_out h⟩ fun _ h => h

section
variable {K : PySem.W.Frag} {Tb : List Addr} {H0 H H1 : Hp} {O0 O : List Addr} {ρ : Rho} {σ : L2.St} {D p : Addr} {o : HO}
theorem St0.wiped (st : St0 K Tb H0 O0 O H σ ρ) (vs : List Nat) : St0 K Tb H0 O0 O H (L2.wipe σ vs) (wipeR ρ vs) where
  ext := st.ext
  sub := st.sub
  new := st.new
  al := st.al
  tab := st.tab
  pln := st.pln
  len := by rw [wipe_length, wipeR_length]; exact st.len
  slot := fun i x h => by
    obtain ⟨h1, h2⟩ := wipeR_some h
    obtain ⟨v, h3, h4⟩ := st.slot i x h1
    exact ⟨v, by rw [wipe_out h2]; exact h3, h4⟩
  inj := fun i j p xs ys hx hy h1 h2 h3 h4 => by
    obtain ⟨a1, a2⟩ := wipeR_some h1
    obtain ⟨b1, b2⟩ := wipeR_some h2
    rw [wipe_out a2] at h3
    rw [wipe_out b2] at h4
    exact st.inj i j p xs ys hx hy a1 b1 h3 h4
theorem tabG_ne {H : Hp} {P p : Addr} (t : TabC H P) (h : ∀ ps, H p ≠ some (.tbl ps)) : P ≠ p := fun e => by
  obtain ⟨ps, q, _⟩ := t
  rw [e] at q
  exact h ps q
theorem Ext.updN (e : Ext H H1) (n : H D = none) (pl : ∀ c q, H1 D ≠ some (LamX.CodeO c q)) : Ext H (upd H1 D o) where
  keep := fun b x h t => by
    rw [upd_ne (ne_of_none h n)]
    exact e.keep b x h t
  tab := fun b t => by
    have hb : b ≠ D := tabG_ne t fun ps q => by rw [n] at q; cases q
    exact (e.tab b t).mono (fun ps h => by rw [upd_ne hb]; exact h) fun c q h => by rw [upd_ne fun z => pl c q (by rw [← z]; exact h)]; exact h
  al := fun b h => by
    by_cases hb : b = D
    · rw [hb, upd_same]; simp
    · rw [upd_ne hb]; exact e.al b h
theorem hide_upd (m : p ∈ O) : hide O (upd H p o) = hide O H := by
  funext b
  unfold hide
  by_cases hb : b ∈ O
  · rw [if_pos hb, if_pos hb]
  · rw [if_neg hb, if_neg hb, upd_ne (fun e => hb (by rw [e]; exact m))]
/-- a new hidden object -/
theorem St0.more (st : St0 K Tb H0 O0 O H σ ρ) (n : H D = none) (pl : Plain o) : St0 K Tb H0 O0 (D :: O) (upd H D o) σ ρ := by
  have n0 : H0 D = none := by
    cases q : H0 D with
    | none => rfl
    | some x => exact absurd n (st.ext.al D (by rw [q]; simp))
  have sub : Sub (hide O H) (hide (D :: O) (upd H D o)) := fun b x h t => by
    obtain ⟨h1, h2⟩ := hide_some h
    have hb : b ≠ D := ne_of_none h2 n
    rw [hide_out (by rw [List.mem_cons, not_or]; exact ⟨hb, h1⟩), upd_ne hb]
    exact h2
  refine ⟨st.ext.updN n0 (fun _ _ z => by rw [n] at z; cases z), fun b h => List.mem_cons_of_mem _ (st.sub b h), fun b h h2 => ?_, fun b h => ?_, fun P m => ?_, fun b m m2 => ?_, st.len, fun i x h => ?_, st.inj⟩
  · rcases List.mem_cons.mp h with rfl | h
    · exact n0
    · exact st.new b h h2
  · rcases List.mem_cons.mp h with rfl | h
    · rw [upd_same]; simp
    · by_cases hb : b = D
      · rw [hb, upd_same]; simp
      · rw [upd_ne hb]; exact st.al b h
  · exact (st.tab P m).mono (fun ps h => by rw [upd_ne (ne_of_none h n)]; exact h) fun c q h => by rw [upd_ne (ne_of_none h n)]; exact h
  · rcases List.mem_cons.mp m with rfl | m
    · exact ⟨o, upd_same, pl⟩
    · obtain ⟨x, h, q⟩ := st.pln b m m2
      exact ⟨x, by rw [upd_ne (ne_of_none h n)]; exact h, q⟩
  · obtain ⟨v, h1, h2⟩ := st.slot i x h
    exact ⟨v, h1, h2.mv sub (fun _ p _ m _ => ⟨List.mem_cons_of_mem _ m, fun o hp _ => by rw [upd_ne (ne_of_none hp n)]; exact hp⟩) fun dd fs h => by rw [upd_ne (ne_of_none h n)]; exact h⟩
/-- the hidden object at D, which no slot owns, is changed -/
theorem St0.hid (st : St0 K Tb H0 O0 O H σ ρ) (m : D ∈ O) (m0 : D ∉ O0) {l : List V} (hD : H D = some (.lst l)) (hs : ∀ (i : Nat) (s : Sl), s.Hold → ρ[i]? = some (some s) → σ[i]? ≠ some (some (.ref D))) {l' : List V} : St0 K Tb H0 O0 O (upd H D (.lst l')) σ ρ where
  ext := st.ext.updN (st.new D m m0) (fun c q z => by rw [hD] at z; exact (plain_lst l).1 c q (Option.some.inj z))
  sub := st.sub
  new := st.new
  al := fun b h => by
    by_cases hb : b = D
    · rw [hb, upd_same]; simp
    · rw [upd_ne hb]; exact st.al b h
  tab := fun P mp => by
    have hb : P ≠ D := tabG_ne (st.tab P mp) fun ps q => by rw [hD] at q; cases q
    exact (st.tab P mp).mono (fun ps h => by rw [upd_ne hb]; exact h) fun c q h => by
      rw [upd_ne fun z => (plain_lst l).1 c q (Option.some.inj (hD.symm.trans (by rw [← z]; exact h)))]
      exact h
  pln := fun b mb nb => by
    by_cases hb : b = D
    · exact ⟨_, by rw [hb]; exact upd_same, plain_lst l'⟩
    · obtain ⟨x, h, q⟩ := st.pln b mb nb
      exact ⟨x, by rw [upd_ne hb]; exact h, q⟩
  len := st.len
  slot := fun i x h => by
    obtain ⟨v, h1, h2⟩ := st.slot i x h
    refine ⟨v, h1, h2.mv (by rw [hide_upd m]; exact fun _ _ h _ => h) (fun hx p ev mp _ => ⟨mp, fun o hp _ => ?_⟩) fun dd fs h => ?_⟩
    · have hne : p ≠ D := fun e => hs i x hx h (by rw [h1, ev, e])
      rw [upd_ne hne]; exact hp
    · rw [upd_ne (fun e => by rw [e, hD] at h; cases h)]; exact h
  inj := st.inj
theorem Ext.unhide : Ext (hide O H) H where
  keep := Sub.unhide
  tab := fun b t => t.mono (fun ps h => (hide_some h).2) fun c q h => (hide_some h).2
  al := fun b h => by
    cases q : hide O H b with
    | none => exact absurd q h
    | some x => rw [(hide_some q).2]; simp
theorem hide_in {b : Addr} (h : b ∈ O) : hide O H b = none := by unfold hide; rw [if_pos h]
theorem hide_none {b : Addr} (h : H b = none) : hide O H b = none := by unfold hide; split <;> first | rfl | exact h
end

section
variable {X : Cx} {Tb : List Addr} {W : WX}
theorem ft_yes : PTs X [] (tDT X.K Tb W dYes) := ⟨fun pins s σ H Q I ⟨_, _, _, _, _, h⟩ => pts_nil.run pins s σ H Q I (h true H (Ext.refl _) rfl)⟩
theorem ft_one {c : Expr} {f : DnB} (h : PT X c (tDT X.K Tb W f)) : PTs X [c] (tDT X.K Tb W f) := pts_one h

/-- the turns of a comprehension's block -/
theorem lc_turns {K : PySem.W.Frag} {t : Tg} {ft : DnB} {fe : Dn} {vs : List Nat} {σ : L2.St} {ρ : Rho} {H0 H1 : Hp} {O0 O : List Addr} {J : It} {ds ys : List PyData} {Q : VK} (hv : ∀ i ∈ t.ixs, i ∈ vs)
    (st1 : St0 K Tb H0 O0 O H1 σ ρ) (it : ItD K (hide O H1) J ds) (hys : lcGo t ft fe (wipeR ρ vs) ds = .ok ys)
    (fin : ∀ D acc H', Ext H1 H' → H1 D = none → H' D = some (.lst acc) → ys.length ≤ sizeLine → RpAll K (hide (D :: O) H') acc ys → Q (.ref D) H') :
    ∀ D, H1 D = none → ∃ W : Nat → Nat → Hp → Prop, (∃ m, W 0 m (upd H1 D (.lst []))) ∧ ∀ i m H, W i m H →
      (J.stop i H ∧ Q (.ref D) H) ∨ (J.go i H ∧ ∃ Nx : Hp → Prop, (∀ H', Nx H' → ∃ m', m' < m ∧ W (i + 1) m' H') ∧ ∀ x H', J.yld i H x H' → tG K Tb t x (L2.wipe σ vs) H' fun σ2 H2 => L2.wipe σ2 vs = L2.wipe σ vs ∧ tDT K Tb W0 ft σ2 H2 fun b H3 =>
        if b = true then tD K Tb W0 fe σ2 H3 fun y H4 => ∃ acc, H4 D = some (.lst acc) ∧ acc.length < sizeLine ∧ Nx (upd H4 D (.lst (acc ++ [y]))) else Nx H3) := by
  intro D nD
  have aD : D ∉ O := st1.fresh nD
  have stw := (st1.wiped vs).more (o := .lst []) nD (plain_lst [])
  have aD0 : D ∉ O0 := fun m => aD (st1.sub D m)
  have own : ∀ (i : Nat) (s : Sl), s.Hold → (wipeR ρ vs)[i]? = some (some s) → (L2.wipe σ vs)[i]? ≠ some (some (.ref D)) := fun i s hs h1 h2 => aD ((st1.wiped vs).hold hs h1 h2).1
  have nO : ∀ b ∈ D :: O, hide O H1 b = none := fun b hb => by
    rcases List.mem_cons.mp hb with rfl | hb
    · exact hide_none nD
    · exact hide_in hb
  refine ⟨fun i m H' => i ≤ ds.length ∧ m = ds.length - i ∧ ∃ acc accD rest, St0 K Tb H0 O0 (D :: O) H' (L2.wipe σ vs) (wipeR ρ vs) ∧ Ext H1 H' ∧ H' D = some (.lst acc) ∧ RpAll K (hide (D :: O) H') acc accD ∧ acc.length ≤ i ∧ lcGo t ft fe (wipeR ρ vs) (ds.drop i) = .ok rest ∧ accD ++ rest = ys,
    ⟨ds.length, Nat.zero_le _, by simp, [], [], ys, stw, Ext.new nD, upd_same, .nil, Nat.le_refl _, hys, rfl⟩, ?_⟩
  rintro i m H' ⟨hi, rfl, acc, accD, rest, s1, e1, hD, ra, la, go, ey⟩
  have eG : Ext (hide O H1) H' := Ext.unhide.trans e1
  by_cases hlt : i < ds.length
  · refine .inr ⟨it.go i H' eG hlt, fun H2 => i + 1 ≤ ds.length ∧ ∃ acc accD rest, St0 K Tb H0 O0 (D :: O) H2 (L2.wipe σ vs) (wipeR ρ vs) ∧ Ext H1 H2 ∧ H2 D = some (.lst acc) ∧ RpAll K (hide (D :: O) H2) acc accD ∧ acc.length ≤ i + 1 ∧ lcGo t ft fe (wipeR ρ vs) (ds.drop (i + 1)) = .ok rest ∧ accD ++ rest = ys,
      fun H2 q => ⟨ds.length - (i + 1), by omega, q.1, rfl, q.2⟩, fun x H2 y => ?_⟩
    obtain ⟨e2, d, hd, rx⟩ := it.yld i H' (D :: O) x H2 eG nO s1.al hlt y
    have hdr : ds.drop i = d :: ds.drop (i + 1) := by
      obtain ⟨hl, hd'⟩ := List.getElem?_eq_some_iff.mp hd
      rw [List.drop_eq_getElem_cons hl, hd']
    rw [hdr] at go
    unfold lcGo at go
    cases et : t.set d (wipeR ρ vs) with
    | none => rw [et] at go; cases go
    | some ρ1 =>
      rw [et] at go
      obtain ⟨b, eb, go⟩ := nx_ok go
      have s2 := s1.step e2
      refine ⟨H0, O0, D :: O, wipeR ρ vs, ρ1, d, s2, rx, et, fun σ' st' ag => ⟨(ag.wipe hv).trans wipe_wipe, H0, O0, D :: O, ρ1, st', ?_⟩⟩
      rw [eb]
      intro b' H3 e3 r3
      cases (show b' = b from r3)
      have s3 := st'.step e3
      cases b with
      | false =>
        refine ⟨hlt, acc, accD, rest, s2.step e3, (e1.trans e2).trans e3, (e2.trans e3).keep D _ hD (fun _ q => by cases q), ra.mono (Sub.hide (e2.trans e3).keep), Nat.le_succ_of_le la, go, ey⟩
      | true =>
        obtain ⟨yd, ey1, go⟩ := nx_ok go
        obtain ⟨rs, er, go⟩ := nx_ok go
        cases go
        refine ⟨H0, O0, D :: O, ρ1, s3, ?_⟩
        rw [ey1]
        intro y H4 e4 r4
        have hD4 := ((e2.trans e3).trans e4).keep D _ hD (fun _ q => by cases q)
        have s4 := (s2.step e3).step e4
        have zl : acc.length < sizeLine := by have := it.len; omega
        refine ⟨acc, hD4, zl, hlt, acc ++ [y], accD ++ [yd], rs, s4.hid List.mem_cons_self aD0 hD4 own, (((e1.trans e2).trans e3).trans e4).updN nD (fun c q z => (plain_lst acc).1 c q (Option.some.inj (hD4.symm.trans z))), upd_same, ?_, ?_, er, ?_⟩
        · rw [hide_upd List.mem_cons_self]
          exact (ra.mono (Sub.hide ((e2.trans e3).trans e4).keep)).append (.one r4)
        · rw [List.length_append]; simp; exact la
        · rw [List.append_assoc]; exact ey
  · have ei : i = ds.length := by omega
    subst ei
    refine .inl ⟨it.stop H' eG, ?_⟩
    rw [List.drop_length] at go
    cases go
    rw [List.append_nil] at ey
    subst ey
    refine fin D acc H' e1 nD hD ?_ ra
    have := it.len
    have := ra.length
    omega
/-- the walk of a comprehension's block -/
theorem lc_walk {K : PySem.W.Frag} {t : Tg} {ft : DnB} {fe : Dn} {fi : DnL} {vs : List Nat} {σ : L2.St} {H : Hp} {Q : VK} (hv : ∀ i ∈ t.ixs, i ∈ vs) (h : tD K Tb W (dLc fi t ft fe vs) σ H Q) :
    tLc (tI K Tb W fi) (tG K Tb t) (tDT K Tb W0 ft) (tD K Tb W0 fe) vs σ H Q := by
  obtain ⟨H0, O0, O, ρ, st, h⟩ := h
  refine ⟨H0, O0, O, ρ, st, Post.then h fun ds J H1 e it k => ?_⟩
  cases q : lcGo t ft fe (wipeR ρ vs) ds with
  | exc x => rw [q] at k; exact k.elim
  | bad => rw [q] at k; exact k.elim
  | ok ys =>
    rw [q] at k
    refine lc_turns hv (st.step e) it q fun D acc H' e1 nD hD z ra => ?_
    have aD : D ∉ O := (st.step e).fresh nD
    exact k _ H' e1 (.lst (.of (by rw [hide_out aD]; exact hD)) z (ra.mono (Sub.less fun b hb => List.mem_cons_of_mem _ hb)))
/-- [e for t in i if c] -/
theorem fd_lc {elt tg iter : Expr} {ifs : List Expr} {scope : Scope} {own : List (Str × Nat)} {pos : Pos} {fi : DnL} {t : Tg} {ft : DnB} {fe : Dn} (hc : X.calm = true) (hN : X.N.Nodup) (hi : PI X tg iter (tI X.K Tb W fi)) (ok : BlkOk X.N X.env.scope scope own)
    (hg : ∀ (s : Shared) (H : Hp) (C : Addr) (cl : List (Str × Addr)) (fp : List Addr), PG (X.blk s H scope (compEnvC scope cl C X.env) fp) tg (tG X.K Tb t))
    (ht : ∀ (s : Shared) (H : Hp) (C : Addr) (cl : List (Str × Addr)) (fp : List Addr), PTs (X.blk s H scope (compEnvC scope cl C X.env) fp) ifs (tDT X.K Tb W0 ft))
    (he : ∀ (s : Shared) (H : Hp) (C : Addr) (cl : List (Str × Addr)) (fp : List Addr), PE (X.blk s H scope (compEnvC scope cl C X.env) fp) elt (tD X.K Tb W0 fe))
    (hv : ∀ i ∈ t.ixs, i ∈ own.map (·.2) := by decide) (hs : ∀ x, foldedSetIterable iter X.env x = pure x := by intro _; rfl) : PE X (.ListComp elt [⟨tg, iter, ifs, 0⟩] scope pos) (tD X.K Tb W (dLc fi t ft fe (own.map (·.2)))) :=
  (pe_lc hc hN hi ok hg ht he hs).by fun σ H Q h => lc_walk hv h
end
end PD

set_option Elab.async false
set_option linter.all false
set_option maxRecDepth 100000
set_option maxHeartbeats 1000000
namespace PD
open PySem PySem.Spec PyProof.Rows L2

/-! ### statements -/
inductive Out where
  | nx (ρ : Rho)
  | rt (d : PyData)
  | bk (ρ : Rho)
  | ct (ρ : Rho)
  | exc (e : Ex) (ρ : Rho)
  | bad
abbrev Sn := Rho → Out
def PostS (K : PySem.W.Frag) (Tb : List Addr) (W : WX) (H0 : Hp) (O0 : List Addr) (out : Out) (D : Ends) : Prop := match out with
  | .nx ρ => ∀ O σ H, St0 K Tb H0 O0 O H σ ρ → D.nx σ H
  | .rt d => ∀ v H, Ext H0 H → Rp K (hide O0 H) v d → D.rt v H
  | .bk ρ => ∀ O σ H, St0 K Tb H0 O0 O H σ ρ → D.bk σ H
  | .ct ρ => ∀ O σ H, St0 K Tb H0 O0 O H σ ρ → D.ct σ H
  | .exc e ρ => ∀ O σ H c d, St0 K Tb H0 O0 O H σ ρ → ExR K (hide O H) H c d e → W c d σ H
  | .bad => False
def tS (K : PySem.W.Frag) (Tb : List Addr) (W : WX) (g : Sn) : TS := fun D σ H => ∃ H0 O0 O ρ, St0 K Tb H0 O0 O H σ ρ ∧ PostS K Tb W H0 O0 (g ρ) D
/-- a result, then a statement's end -/
def oR {α : Type} (x : R α) (ρ : Rho) (k : α → Out) : Out := match x with
  | .ok a => k a
  | .exc e => .exc e ρ
  | .bad => .bad
def oO (x : Option Rho) : Out := match x with
  | some ρ => .nx ρ
  | none => .bad
def gSkip : Sn := .nx
def gSeq (g h : Sn) : Sn := fun ρ => match g ρ with
  | .nx ρ' => h ρ'
  | o => o
def gSet (f : Dn) (t : Tg) : Sn := fun ρ => oR (f ρ) ρ fun d => oO (t.set d ρ)
def gExpr (f : Dn) : Sn := fun ρ => oR (f ρ) ρ fun _ => .nx ρ
def gRet (f : Dn) : Sn := fun ρ => oR (f ρ) ρ .rt
def gRetN : Sn := fun _ => .rt .none
def gIf (c : DnB) (g h : Sn) : Sn := fun ρ => oR (c ρ) ρ fun b => if b = true then g ρ else h ρ
def gBrk : Sn := .bk
def gCnt : Sn := .ct
def forGo (t : Tg) (g : Sn) : List PyData → Rho → Out
  | [], ρ => .nx ρ
  | d :: ds, ρ => match t.set d ρ with
    | some ρ1 => match g ρ1 with
      | .nx ρ2 => forGo t g ds ρ2
      | .ct ρ2 => forGo t g ds ρ2
      | .bk ρ2 => .nx ρ2
      | o => o
    | none => .bad
def gFor (fi : DnL) (t : Tg) (g : Sn) : Sn := fun ρ => oR (fi ρ) ρ fun ds => forGo t g ds ρ
def whGo (c : DnB) (g : Sn) : Nat → Rho → Out
  | 0, _ => .bad
  | n + 1, ρ => oR (c ρ) ρ fun b => if b = true then (match g ρ with
      | .nx ρ2 => whGo c g n ρ2
      | .ct ρ2 => whGo c g n ρ2
      | .bk ρ2 => .nx ρ2
      | o => o) else .nx ρ
def gWhile (c : DnB) (g : Sn) (fuel : Rho → Nat) : Sn := fun ρ => whGo c g (fuel ρ) ρ
/-- the list that slot i owns becomes a plain datum -/
def frz (i : Nat) (ρ : Rho) : Option Rho := match ρ[i]? with
  | some (some (.own ds)) => some (ρ.set i (some (.d (.list ds))))
  | _ => none
def frzD (i : Nat) (ρ : Rho) : Option Rho := match ρ[i]? with
  | some (some (.dct ks)) => some (ρ.set i (some (.d (.dict (ks.map fun k => (.tuple (k.map .int), .bool true))))))
  | _ => none
def gFrzD (i : Nat) (g : Sn) : Sn := fun ρ => match frzD i ρ with
  | some ρ' => g ρ'
  | none => .bad
def gFrz (i : Nat) (g : Sn) : Sn := fun ρ => match frz i ρ with
  | some ρ' => g ρ'
  | none => .bad
/-- slot i owns a new list -/
def gOwn (f : Dn) (i : Nat) : Sn := fun ρ => oR (f ρ) ρ fun d => match d with
  | .list ds => .nx (ρ.set i (some (.own ds)))
  | _ => .bad
def ownAt (ρ : Rho) (i : Nat) (k : List PyData → Out) : Out := match ρ[i]? with
  | some (some (.own ds)) => k ds
  | _ => .bad
def gApp (i : Nat) (f : Dn) : Sn := fun ρ => ownAt ρ i fun ds => oR (f ρ) ρ fun d => if ds.length < sizeLine then .nx (ρ.set i (some (.own (ds ++ [d])))) else .bad
def thaw (ρ : Rho) : Rho := ρ.map fun s => match s with
  | some (.own ds) => some (.d (.list ds))
  | some (.dct ks) => some (.d (.dict (ks.map fun k => (.tuple (k.map .int), .bool true))))
  | s => s
def dThawB (f : DnB) : DnB := fun ρ => nx (f (thaw ρ)) .ok
def flat : PyData → Bool
  | .none => true
  | .bool _ => true
  | .int _ => true
  | .str _ => true
  | _ => false
def dThaw (f : Dn) : Dn := fun ρ => nx (f (thaw ρ)) fun d => if flat d = true then .ok d else .bad

section
variable {K : PySem.W.Frag} {Tb : List Addr} {W : WX} {H0 H0' H H' : Hp} {O0 O : List Addr} {ρ : Rho} {σ : L2.St} {p : Addr} {D : Ends}
theorem St0.init {vs : List V} {ds : List PyData} (n : Nat) (al : Al O H) (tb : ∀ P ∈ Tb, TabC H P) (r : RpAll K (hide O H) vs ds) : St0 K Tb H O O H (vs.map some ++ List.replicate n none) (ds.map (fun d => some (.d d)) ++ List.replicate n none) where
  ext := Ext.refl H
  sub := fun _ h => h
  new := fun b h h2 => absurd h h2
  al := al
  tab := tb
  pln := fun b m n => absurd m n
  len := by simp [r.length]
  slot := fun i s h => by
    have hi : i < ds.length := by
      by_cases hi : i < ds.length
      · exact hi
      · rw [List.getElem?_append_right (by simpa using hi), List.getElem?_replicate] at h
        split at h <;> cases h
    rw [List.getElem?_append_left (by simpa using hi), List.getElem?_map] at h
    cases e : ds[i]? with
    | none => rw [e] at h; cases h
    | some d =>
      rw [e] at h
      cases h
      obtain ⟨v, h1, h2⟩ := r.get' e
      refine ⟨v, ?_, h2⟩
      have hl : i < vs.length := by rw [r.length]; exact hi
      rw [List.getElem?_append_left (by simpa using hl), List.getElem?_map, h1]
      rfl
  inj := fun i j p xs ys hx _ h1 _ _ _ => by
    have hi : i < ds.length := by
      by_cases hi : i < ds.length
      · exact hi
      · rw [List.getElem?_append_right (by simpa using hi), List.getElem?_replicate] at h1
        split at h1 <;> cases h1
    rw [List.getElem?_append_left (by simpa using hi), List.getElem?_map] at h1
    cases e : ds[i]? with
    | none => rw [e] at h1; cases h1
    | some d => rw [e] at h1; cases h1; exact hx.elim

/-! #### another entry -/
def rebase (O0 O : List Addr) (H : Hp) : Hp := hide (O.filter fun b => decide (b ∉ O0)) H
theorem mem_rebase {b : Addr} : b ∈ (O.filter fun b => decide (b ∉ O0)) ↔ b ∈ O ∧ b ∉ O0 := by
  rw [List.mem_filter, decide_eq_true_eq]
theorem St0.rebase (st : St0 K Tb H0 O0 O H σ ρ) : St0 K Tb (rebase O0 O H) O0 O H σ ρ :=
  ⟨Ext.unhide, st.sub, fun b h h2 => hide_in (mem_rebase.mpr ⟨h, h2⟩), st.al, st.tab, st.pln, st.len, st.slot, st.inj⟩
theorem St0.baseExt (st : St0 K Tb H0 O0 O H σ ρ) : Ext H0 (PD.rebase O0 O H) := by
  have out : ∀ b, H0 b ≠ none → PD.rebase O0 O H b = H b := fun b h => hide_out fun m => by
    obtain ⟨h1, h2⟩ := mem_rebase.mp m
    exact h (st.new b h1 h2)
  refine ⟨fun b o h t => ?_, fun b t => ?_, fun b h => ?_⟩
  · rw [out b (by rw [h]; simp)]
    exact st.ext.keep b o h t
  · refine (st.ext.tab b t).mono (fun ps h => ?_) fun c q h => ?_
    · obtain ⟨ps0, h0, _⟩ := t
      rw [out b (by rw [h0]; simp)]
      exact h
    · refine (hide_out fun m => ?_).trans h
      obtain ⟨m1, m2⟩ := mem_rebase.mp m
      obtain ⟨x, g1, g2⟩ := st.pln c m1 m2
      rw [h] at g1
      exact g2.1 c q (Option.some.inj g1).symm
  · rw [out b h]
    exact st.ext.al b h
theorem St0.unbase {O' : List Addr} {σ' : L2.St} {ρ' : Rho} (e : Ext H0 H0') (st : St0 K Tb H0' O0 O' H' σ' ρ') : St0 K Tb H0 O0 O' H' σ' ρ' :=
  ⟨e.trans st.ext, st.sub, fun b h h2 => by
    cases q : H0 b with
    | none => rfl
    | some x => exact absurd (st.new b h h2) (e.al b (by rw [q]; simp)), st.al, st.tab, st.pln, st.len, st.slot, st.inj⟩
theorem PostS.rebase {out : Out} (e : Ext H0 H0') (h : PostS K Tb W H0 O0 out D) : PostS K Tb W H0' O0 out D := by
  cases out with
  | nx ρ => exact fun O σ H st => h O σ H (st.unbase e)
  | bk ρ => exact fun O σ H st => h O σ H (st.unbase e)
  | ct ρ => exact fun O σ H st => h O σ H (st.unbase e)
  | rt d => exact fun v H e' r => h v H (e.trans e') r
  | exc x ρ => exact fun O σ H c d st => h O σ H c d (st.unbase e)
  | bad => exact h
theorem oR_post {α β : Type} {Rl : Hp → β → α → Prop} {x : R α} {k : α → Out} {Q : β → Hp → Prop} (st : St0 K Tb H0 O0 O H σ ρ) (h : PostS K Tb W H0 O0 (oR x ρ k) D)
    (q : ∀ a b H1, Ext H H1 → Rl H1 b a → PostS K Tb W H0 O0 (k a) D → Q b H1) : Post K O Rl (fun c d H => W c d σ H) H x Q := by
  cases x with
  | ok a => exact fun b H1 e r => q a b H1 e r h
  | exc e => exact fun c d H1 ex r => h O σ H1 c d (st.step ex) r
  | bad => exact h

/-! #### own lists -/
/-- a list that slot i owns changes -/
theorem St0.ownSet {i : Nat} {ds ds' : List PyData} {vs' : List V} (st : St0 K Tb H0 O0 O H σ ρ) (hi : ρ[i]? = some (some (.own ds))) (hp : σ[i]? = some (some (.ref p))) (z : ds'.length ≤ sizeLine) (r : RpAll K (hide O H) vs' ds') :
    St0 K Tb H0 O0 O (upd H p (.lst vs')) σ (ρ.set i (some (.own ds'))) := by
  obtain ⟨v, h1, p', vs, h2, m, m0, hH, _, _⟩ := st.slot i _ hi
  rw [hp] at h1
  cases h1
  cases h2
  have il : i < ρ.length := (List.getElem?_eq_some_iff.mp hi).1
  have own : ∀ (j : Nat) (s : Sl), s.Hold → j ≠ i → ρ[j]? = some (some s) → σ[j]? ≠ some (some (.ref p)) := fun j s hs hj h1 h2 => hj (st.inj j i p s (.own ds) hs trivial h1 hi h2 hp)
  refine ⟨st.ext.updN (st.new p m m0) (fun c q z => (plain_lst vs).1 c q (Option.some.inj (hH.symm.trans z))), st.sub, st.new, fun b h => ?_, fun P mp => ?_, fun b mb nb => ?_, by rw [List.length_set]; exact st.len, fun j x h => ?_, fun j k q xs ys hx hy h1 h2 h3 h4 => ?_⟩
  · by_cases hb : b = p
    · rw [hb, upd_same]; simp
    · rw [upd_ne hb]; exact st.al b h
  · have hb : P ≠ p := tabG_ne (st.tab P mp) fun ps q => by rw [hH] at q; cases q
    exact (st.tab P mp).mono (fun ps h => by rw [upd_ne hb]; exact h) fun c q h => by
      rw [upd_ne fun z => (plain_lst vs).1 c q (Option.some.inj (hH.symm.trans (by rw [← z]; exact h)))]
      exact h
  · by_cases hb : b = p
    · exact ⟨_, by rw [hb]; exact upd_same, plain_lst vs'⟩
    · obtain ⟨x, h, q⟩ := st.pln b mb nb
      exact ⟨x, by rw [upd_ne hb]; exact h, q⟩
  · by_cases e : i = j
    · subst e
      rw [List.getElem?_set_self il] at h
      cases h
      exact ⟨_, hp, p, vs', rfl, m, m0, upd_same, z, by rw [hide_upd m]; exact r⟩
    · rw [List.getElem?_set_ne e] at h
      obtain ⟨v, h1, h2⟩ := st.slot j x h
      refine ⟨v, h1, h2.mv (by rw [hide_upd m]; exact fun _ _ h _ => h) (fun hx q ev mq _ => ⟨mq, fun o hq _ => ?_⟩) fun dd fs h => ?_⟩
      · have hne : q ≠ p := fun e2 => own j x hx (fun z => e z.symm) h (by rw [h1, ev, e2])
        rw [upd_ne hne]; exact hq
      · rw [upd_ne (fun e => by rw [e, hH] at h; cases h)]; exact h
  · have g : ∀ (j : Nat) (s : Sl), s.Hold → (ρ.set i (some (.own ds')))[j]? = some (some s) → ∃ s', s'.Hold ∧ ρ[j]? = some (some s') := fun j s hs h => by
      by_cases e : i = j
      · subst e; exact ⟨.own ds, trivial, hi⟩
      · rw [List.getElem?_set_ne e] at h; exact ⟨s, hs, h⟩
    obtain ⟨xs', x1, g1⟩ := g j xs hx h1
    obtain ⟨ys', y1, g2⟩ := g k ys hy h2
    exact st.inj j k q xs' ys' x1 y1 g1 g2 h3 h4
/-- a new list becomes slot i's own -/
theorem St0.ownNew {i : Nat} {ds : List PyData} {vs : List V} (st : St0 K Tb H0 O0 O H σ ρ) (e : Ext H H') (n : H p = none) (hp : H' p = some (.lst vs)) (z : ds.length ≤ sizeLine) (r : RpAll K (hide (p :: O) H') vs ds) :
    St0 K Tb H0 O0 (p :: O) H' (σ.set i (some (.ref p))) (ρ.set i (some (.own ds))) := by
  have nO : p ∉ O := st.fresh n
  have n0 : H0 p = none := by
    cases q : H0 p with
    | none => rfl
    | some x => exact absurd n (st.ext.al p (by rw [q]; simp))
  have sub : Sub (hide O H) (hide (p :: O) H') := fun b o h t => by
    obtain ⟨h1, h2⟩ := hide_some h
    have hb : b ≠ p := ne_of_none h2 n
    rw [hide_out (by rw [List.mem_cons, not_or]; exact ⟨hb, h1⟩)]
    exact e.keep b o h2 t
  have nown : ∀ (j : Nat) (s : Sl), s.Hold → ρ[j]? = some (some s) → σ[j]? ≠ some (some (.ref p)) := fun j s hs h h2 => nO (st.hold hs h h2).1
  refine ⟨st.ext.trans e, fun b h => List.mem_cons_of_mem _ (st.sub b h), fun b h h2 => ?_, fun b h => ?_, fun P m => e.tab P (st.tab P m), fun b mb nb => ?_, by rw [List.length_set, List.length_set]; exact st.len, fun j s h => ?_, fun j k q xs ys hx hy h1 h2 h3 h4 => ?_⟩
  · rcases List.mem_cons.mp h with rfl | h
    · exact n0
    · exact st.new b h h2
  · rcases List.mem_cons.mp h with rfl | h
    · rw [hp]; simp
    · exact e.al b (st.al b h)
  · rcases List.mem_cons.mp mb with rfl | mb
    · exact ⟨_, hp, plain_lst vs⟩
    · obtain ⟨x, h, q⟩ := st.pln b mb nb
      exact ⟨x, e.keep b x h q.2, q⟩
  · by_cases ej : i = j
    · subst ej
      have il : i < ρ.length := by
        have := (List.getElem?_eq_some_iff.mp h).1
        rw [List.length_set] at this
        exact this
      rw [List.getElem?_set_self il] at h
      cases h
      exact ⟨_, by rw [List.getElem?_set_self (by rw [st.len]; exact il)], p, vs, rfl, List.mem_cons_self, fun m => nO (st.sub p m), hp, z, r⟩
    · rw [List.getElem?_set_ne ej] at h ⊢
      obtain ⟨v, h1, h2⟩ := st.slot j s h
      exact ⟨v, h1, h2.mv sub (fun _ q _ mq _ => ⟨List.mem_cons_of_mem _ mq, fun o hq n => e.keep q o hq n⟩) fun dd fs h => e.keep dd _ h fun _ z => by cases z⟩
  · have lt : ∀ (j : Nat) (s : Sl), i = j → (ρ.set i (some (.own ds)))[j]? = some (some s) → j < σ.length := fun j xs ej h => by
      have := (List.getElem?_eq_some_iff.mp h).1
      rw [List.length_set] at this
      rw [st.len]; exact this
    by_cases ej : i = j
    · by_cases ek : i = k
      · rw [← ej, ← ek]
      · subst ej
        rw [List.getElem?_set_self (lt _ _ rfl h1)] at h3
        cases h3
        rw [List.getElem?_set_ne ek] at h2 h4
        exact absurd h4 (nown k ys hy h2)
    · by_cases ek : i = k
      · subst ek
        rw [List.getElem?_set_self (lt _ _ rfl h2)] at h4
        cases h4
        rw [List.getElem?_set_ne ej] at h1 h3
        exact absurd h3 (nown j xs hx h1)
      · rw [List.getElem?_set_ne ej] at h1 h3
        rw [List.getElem?_set_ne ek] at h2 h4
        exact st.inj j k q xs ys hx hy h1 h2 h3 h4
/-- slot i's own list becomes a datum -/
theorem St0.frz {i : Nat} {ρ' : Rho} (st : St0 K Tb H0 O0 O H σ ρ) (h : PD.frz i ρ = some ρ') : ∃ O', St0 K Tb H0 O0 O' H σ ρ' := by
  unfold PD.frz at h
  split at h
  · rename_i ds hi
    cases h
    obtain ⟨v, h1, p, vs, rfl, m, m0, hp, z, r⟩ := st.slot i _ hi
    have il : i < ρ.length := (List.getElem?_eq_some_iff.mp hi).1
    have mem : ∀ b, b ∈ O.filter (fun b => decide (b ≠ p)) ↔ b ∈ O ∧ b ≠ p := fun b => by rw [List.mem_filter, decide_eq_true_eq]
    have sub : Sub (hide O H) (hide (O.filter fun b => decide (b ≠ p)) H) := Sub.less fun b hb => ((mem b).mp hb).1
    refine ⟨O.filter fun b => decide (b ≠ p), st.ext, fun b hb => (mem b).mpr ⟨st.sub b hb, fun e => m0 (by rw [← e]; exact hb)⟩, fun b hb => st.new b ((mem b).mp hb).1, fun b hb => st.al b ((mem b).mp hb).1, st.tab, fun b hb => st.pln b ((mem b).mp hb).1, by rw [List.length_set]; exact st.len, fun j s hs => ?_, fun j k q xs ys hx hy h2 h3 h4 h5 => ?_⟩
    · by_cases ej : i = j
      · subst ej
        rw [List.getElem?_set_self il] at hs
        cases hs
        refine ⟨_, h1, .lst (.of ?_) z (r.mono sub)⟩
        rw [hide_out (fun hb => ((mem p).mp hb).2 rfl)]
        exact hp
      · rw [List.getElem?_set_ne ej] at hs
        obtain ⟨v, g1, g2⟩ := st.slot j s hs
        exact ⟨v, g1, g2.mv sub (fun hx q ev mq _ => ⟨(mem q).mpr ⟨mq, fun e => ej (st.inj i j p (.own ds) s trivial hx hi hs h1 (by rw [g1, ev, e]))⟩, fun o hq _ => hq⟩) fun _ _ h => h⟩
    · by_cases ej : i = j
      · subst ej
        rw [List.getElem?_set_self il] at h2
        cases h2
        exact hx.elim
      · by_cases ek : i = k
        · subst ek
          rw [List.getElem?_set_self il] at h3
          cases h3
          exact hy.elim
        · rw [List.getElem?_set_ne ej] at h2
          rw [List.getElem?_set_ne ek] at h3
          exact st.inj j k q xs ys hx hy h2 h3 h4 h5
  · cases h
/-- slot i's own dict becomes a datum -/
theorem St0.frzD {i : Nat} {ρ' : Rho} (st : St0 K Tb H0 O0 O H σ ρ) (h : PD.frzD i ρ = some ρ') : ∃ O', St0 K Tb H0 O0 O' H σ ρ' := by
  unfold PD.frzD at h
  split at h
  · rename_i ks hi
    cases h
    obtain ⟨v, h1, p, ep, xs, rfl, m, m0, hp, rfl, r⟩ := st.slot i _ hi
    have il : i < ρ.length := (List.getElem?_eq_some_iff.mp hi).1
    have mem : ∀ b, b ∈ O.filter (fun b => decide (b ≠ p)) ↔ b ∈ O ∧ b ≠ p := fun b => by rw [List.mem_filter, decide_eq_true_eq]
    have sub : Sub (hide O H) (hide (O.filter fun b => decide (b ≠ p)) H) := Sub.less fun b hb => ((mem b).mp hb).1
    refine ⟨O.filter fun b => decide (b ≠ p), st.ext, fun b hb => (mem b).mpr ⟨st.sub b hb, fun e => m0 (by rw [← e]; exact hb)⟩, fun b hb => st.new b ((mem b).mp hb).1, fun b hb => st.al b ((mem b).mp hb).1, st.tab, fun b hb => st.pln b ((mem b).mp hb).1, by rw [List.length_set]; exact st.len, fun j s hs => ?_, fun j k q xs ys hx hy h2 h3 h4 h5 => ?_⟩
    · by_cases ej : i = j
      · subst ej
        rw [List.getElem?_set_self il] at hs
        cases hs
        refine ⟨_, h1, ?_⟩
        rw [List.map_map]
        refine .dct (ep := ep) ?_ fun x hx => sub.sqT (r x hx)
        rw [hide_out (fun hb => ((mem p).mp hb).2 rfl)]
        exact hp
      · rw [List.getElem?_set_ne ej] at hs
        obtain ⟨v, g1, g2⟩ := st.slot j s hs
        exact ⟨v, g1, g2.mv sub (fun hx q ev mq _ => ⟨(mem q).mpr ⟨mq, fun e => ej (st.inj i j p (.dct _) s trivial hx hi hs h1 (by rw [g1, ev, e]))⟩, fun o hq _ => hq⟩) fun _ _ h => h⟩
    · by_cases ej : i = j
      · subst ej
        rw [List.getElem?_set_self il] at h2
        cases h2
        exact hx.elim
      · by_cases ek : i = k
        · subst ek
          rw [List.getElem?_set_self il] at h3
          cases h3
          exact hy.elim
        · rw [List.getElem?_set_ne ej] at h2
          rw [List.getElem?_set_ne ek] at h3
          exact st.inj j k q xs ys hx hy h2 h3 h4 h5
  · cases h
/-- all own lists as data, for a moment -/
theorem St0.thaw (st : St0 K Tb H0 O0 O H σ ρ) : St0 K Tb H0 O0 O0 H σ (PD.thaw ρ) := by
  have sub : Sub (hide O H) (hide O0 H) := Sub.less st.sub
  have get : ∀ (i : Nat) (s : Sl), (PD.thaw ρ)[i]? = some (some s) → (∃ x, s = .d x ∧ ρ[i]? = some (some (.d x))) ∨ (∃ xs, s = .d (.list xs) ∧ ρ[i]? = some (some (.own xs))) ∨ (∃ ks, s = .d (.dict (ks.map fun k => (.tuple (k.map .int), .bool true))) ∧ ρ[i]? = some (some (.dct ks))) ∨ ∃ a c dd e, s = .exn a c dd e ∧ ρ[i]? = some (some (.exn a c dd e)) := fun i s h => by
    unfold PD.thaw at h
    rw [List.getElem?_map] at h
    cases e : ρ[i]? with
    | none => rw [e] at h; cases h
    | some o =>
      rw [e] at h
      cases o with
      | none => cases h
      | some s' =>
        cases s' with
        | d x => cases h; exact .inl ⟨x, rfl, rfl⟩
        | own xs => cases h; exact .inr (.inl ⟨xs, rfl, rfl⟩)
        | dct ks => cases h; exact .inr (.inr (.inl ⟨ks, rfl, rfl⟩))
        | exn a c dd e => cases h; exact .inr (.inr (.inr ⟨_, _, _, _, rfl, rfl⟩))
  refine ⟨st.ext, fun _ h => h, fun b h h2 => absurd h h2, fun b h => st.al b (st.sub b h), st.tab, fun b h h2 => absurd h h2, by unfold PD.thaw; rw [List.length_map]; exact st.len, fun i s h => ?_, fun i j p xs ys hx _ h1 _ _ _ => ?_⟩
  · rcases get i s h with ⟨x, rfl, e⟩ | ⟨xs, rfl, e⟩ | ⟨ks, rfl, e⟩ | ⟨a, c, dd, x, rfl, e⟩
    · obtain ⟨v, h1, h2⟩ := st.slot i _ e
      exact ⟨v, h1, Rp.mono sub h2⟩
    · obtain ⟨v, h1, p, vs, rfl, m, m0, hp, z, r⟩ := st.slot i _ e
      exact ⟨_, h1, .lst (.of (by rw [hide_out m0]; exact hp)) z (r.mono sub)⟩
    · obtain ⟨v, h1, p, ep, xs, rfl, m, m0, hp, rfl, r⟩ := st.slot i _ e
      refine ⟨_, h1, ?_⟩
      rw [List.map_map]
      exact .dct (by rw [hide_out m0]; exact hp) fun x hx => sub.sqT (r x hx)
    · obtain ⟨v, h1, h2⟩ := st.slot i _ e
      exact ⟨v, h1, h2.mv sub (fun hx _ _ _ _ => hx.elim) fun _ _ h => h⟩
  · rcases get i _ h1 with ⟨x, rfl, _⟩ | ⟨xs', rfl, _⟩ | ⟨ks, rfl, _⟩ | ⟨a, c, dd, x, rfl, _⟩ <;> exact hx.elim
theorem flat_rp {G G' : Hp} {v : V} {d : PyData} (r : Rp K G v d) (h : flat d = true) : Rp K G' v d := by
  cases r with
  | non => exact .non
  | bl b => exact .bl b
  | int i => exact .int i
  | str x => exact .str x
  | lst _ _ _ => cases h
  | tup _ _ _ => cases h
  | dct _ _ => cases h
end

section
variable {X : Cx} {Tb : List Addr} {W : WX} {e c : Expr} {f : Dn} {fb : DnB} {g h : Sn} {pos : Pos} {st : Stmt} {sts : List Stmt}
theorem ft_thaw (hc : PT X c (tDT X.K Tb W fb)) : PT X c (tDT X.K Tb W (dThawB fb)) := hc.by fun σ H Q ⟨H0, O0, O, ρ, st, h⟩ => ⟨H0, O0, O0, thaw ρ, st.thaw, by
  unfold dThawB at h
  cases q : fb (thaw ρ) with
  | ok b => rw [q] at h; exact h
  | exc x => rw [q] at h; exact h.elim
  | bad => rw [q] at h; exact h.elim⟩
theorem fd_thaw (he : PE X e (tD X.K Tb W f)) : PE X e (tD X.K Tb W (dThaw f)) := he.by fun σ H Q ⟨H0, O0, O, ρ, st, h⟩ => ⟨H0, O0, O0, thaw ρ, st.thaw, by
  unfold dThaw at h
  cases q : f (thaw ρ) with
  | ok d =>
    rw [q] at h
    by_cases hf : flat d = true
    · have h : Post X.K O (RlD X.K O) _ H (if flat d = true then .ok d else .bad) Q := h
      rw [if_pos hf] at h
      exact fun v H' e' r => h v H' e' (flat_rp r hf)
    · have h : Post X.K O (RlD X.K O) _ H (if flat d = true then .ok d else .bad) Q := h
      rw [if_neg hf] at h
      exact h.elim
  | exc x => rw [q] at h; exact h.elim
  | bad => rw [q] at h; exact h.elim⟩
theorem fs_nil : PSs X [] (tS X.K Tb W gSkip) := pss_nil.by fun D σ H ⟨H0, O0, O, ρ, st, h⟩ => h O σ H st
theorem fs_cons (h1 : PS X st (tS X.K Tb W g)) (h2 : PSs X sts (tS X.K Tb W h)) : PSs X (st :: sts) (tS X.K Tb W (gSeq g h)) := (pss_cons h1 h2).by fun D σ H ⟨H0, O0, O, ρ, st, q⟩ => ⟨H0, O0, O, ρ, st, by
  unfold gSeq at q
  cases e : g ρ with
  | nx ρ' => rw [e] at q; exact fun O' σ' H' st' => ⟨H0, O0, O', ρ', st', q⟩
  | rt d => rw [e] at q; exact q
  | bk ρ' => rw [e] at q; exact q
  | ct ρ' => rw [e] at q; exact q
  | exc x ρ' => rw [e] at q; exact q
  | bad => rw [e] at q; exact q⟩
theorem fs_one (h1 : PS X st (tS X.K Tb W g)) : PSs X [st] (tS X.K Tb W g) := pss_one h1
theorem fs_frz (i : Nat) (h1 : PSs X sts (tS X.K Tb W g)) : PSs X sts (tS X.K Tb W (gFrz i g)) := h1.by fun D σ H ⟨H0, O0, O, ρ, st, q⟩ => by
  unfold gFrz at q
  cases e : frz i ρ with
  | none => rw [e] at q; exact q.elim
  | some ρ' =>
    rw [e] at q
    obtain ⟨O', st'⟩ := st.frz e
    exact ⟨H0, O0, O', ρ', st', q⟩
theorem fs_frzD (i : Nat) (h1 : PSs X sts (tS X.K Tb W g)) : PSs X sts (tS X.K Tb W (gFrzD i g)) := h1.by fun D σ H ⟨H0, O0, O, ρ, st, q⟩ => by
  unfold gFrzD at q
  cases e : frzD i ρ with
  | none => rw [e] at q; exact q.elim
  | some ρ' =>
    rw [e] at q
    obtain ⟨O', st'⟩ := st.frzD e
    exact ⟨H0, O0, O', ρ', st', q⟩
theorem fs_pass : PS X (.Pass pos) (tS X.K Tb W gSkip) := ps_pass.by fun D σ H ⟨H0, O0, O, ρ, st, h⟩ => h O σ H st
theorem fs_brk : PS X (.Break pos) (tS X.K Tb W gBrk) := ps_break.by fun D σ H ⟨H0, O0, O, ρ, st, h⟩ => h O σ H st
theorem fs_cnt : PS X (.Continue pos) (tS X.K Tb W gCnt) := ps_continue.by fun D σ H ⟨H0, O0, O, ρ, st, h⟩ => h O σ H st
theorem fs_doc {x : Str} {j : Nat} {pos' : Pos} : PS X (.Expr (.Constant (.str x) j pos) pos') (tS X.K Tb W gSkip) := ps_doc.by fun D σ H ⟨H0, O0, O, ρ, st, h⟩ => h O σ H st
theorem fs_ret (he : PE X e (tD X.K Tb W f)) : PS X (.Return (some e) pos) (tS X.K Tb W (gRet f)) := (ps_ret he).by fun D σ H ⟨H0, O0, O, ρ, st, h⟩ => ⟨H0, O0, O, ρ, st, oR_post st h fun d v H1 e r k => k v H1 (st.ext.trans e) (r.mono (Sub.less st.sub))⟩
theorem fs_retN : PS X (.Return none pos) (tS X.K Tb W gRetN) := ps_retN.by fun D σ H ⟨H0, O0, O, ρ, st, h⟩ => h .non H st.ext .non
theorem fs_expr (he : PE X e (tD X.K Tb W f)) (hs : swapsWith e none pos.line X.env = pure false := by rfl) : PS X (.Expr e pos) (tS X.K Tb W (gExpr f)) := (ps_expr he hs).by fun D σ H ⟨H0, O0, O, ρ, st, h⟩ => ⟨H0, O0, O, ρ, st, oR_post st h fun d v H1 e r k => k O σ H1 (st.step e)⟩
theorem fs_if {a b : List Stmt} (hc : PT X c (tDT X.K Tb W fb)) (ha : PSs X a (tS X.K Tb W g)) (hb : PSs X b (tS X.K Tb W h)) : PS X (.If c a b pos) (tS X.K Tb W (gIf fb g h)) := (ps_if hc ha hb).by fun D σ H ⟨H0, O0, O, ρ, st, q⟩ => ⟨H0, O0, O, ρ, st, oR_post st q fun b b' H1 e r k => by
  cases (show b' = b from r)
  cases b with
  | true => exact ⟨H0, O0, O, ρ, st.step e, k⟩
  | false => exact ⟨H0, O0, O, ρ, st.step e, k⟩⟩
/-- name = e -/
theorem fs_set {i : Nat} {x : Str} {pos' : Pos} (hN : X.N.Nodup) (hi : X.N[i]? = some x) (hx : Loc X.env.scope x) (he : PE X e (tD X.K Tb W f)) (hs : swapsWith e (some (.Name x pos')) pos.line X.env = pure false := by rfl)
    (hf : X.fn x = true ∨ X.env.scope.names.lookup x = some .local := by first | exact .inl rfl | exact .inr rfl | assumption) : PS X (.Assign [.Name x pos'] e pos) (tS X.K Tb W (gSet f (.nm i))) := (ps_set hN hi hx he hs hf).by fun D σ H ⟨H0, O0, O, ρ, st, h⟩ => ⟨H0, O0, O, ρ, st, oR_post st h fun d v H1 e r k => by
  unfold Tg.set at k
  exact k O _ H1 ((st.step e).set r)⟩
/-- target = e -/
theorem fs_asg {tg : Expr} {t : Tg} (he : PE X e (tD X.K Tb W f)) (hg : PG X tg (tG X.K Tb t)) (hs : swapsWithSole [tg] e pos.line X.env = pure false := by rfl) (hw : swappedStores [tg] e X.env = pure none := by rfl)
    (h1 : (assignEach [tg] X.env).map (·.2) = [assign tg X.env] := by rfl) : PS X (.Assign [tg] e pos) (tS X.K Tb W (gSet f t)) := (ps_asg he hg hs hw h1).by fun D σ H ⟨H0, O0, O, ρ, st, h⟩ => ⟨H0, O0, O, ρ, st, oR_post st h fun d v H1 e r k => by
  cases q : t.set d ρ with
  | none => rw [q] at k; exact k.elim
  | some ρ' =>
    rw [q] at k
    exact ⟨H0, O0, O, ρ, ρ', d, st.step e, r, q, fun σ' st' _ => k O σ' H1 st'⟩⟩
/-- name = [.. for ..] -/
theorem fs_setLc {i : Nat} {y : Str} {py : Pos} {elt tg iter : Expr} {ifs : List Expr} {scope : Scope} {own : List (Str × Nat)} {spos : Pos} {fi : DnL} {t : Tg} {ft : DnB} {fe : Dn} (hc : X.calm = true) (hN : X.N.Nodup) (hy : X.N[i]? = some y) (hyl : X.env.scope.names.lookup y = some .local)
    (hsw : swapsWith (.ListComp elt [⟨tg, iter, ifs, 0⟩] scope pos) (some (.Name y py)) spos.line X.env = pure true) (hi : PI X tg iter (tI X.K Tb W fi)) (ok : BlkOk X.N X.env.scope scope own)
    (hg : ∀ (s : Shared) (H : Hp) (C : Addr) (cl : List (Str × Addr)) (fp : List Addr), PG (X.blk s H scope (compEnvC scope cl C X.env) fp) tg (tG X.K Tb t))
    (ht : ∀ (s : Shared) (H : Hp) (C : Addr) (cl : List (Str × Addr)) (fp : List Addr), PTs (X.blk s H scope (compEnvC scope cl C X.env) fp) ifs (tDT X.K Tb W0 ft))
    (he : ∀ (s : Shared) (H : Hp) (C : Addr) (cl : List (Str × Addr)) (fp : List Addr), PE (X.blk s H scope (compEnvC scope cl C X.env) fp) elt (tD X.K Tb W0 fe))
    (hv : ∀ i ∈ t.ixs, i ∈ own.map (·.2) := by decide) (hs : ∀ x, foldedSetIterable iter X.env x = pure x := by intro _; rfl) :
    PS X (.Assign [.Name y py] (.ListComp elt [⟨tg, iter, ifs, 0⟩] scope pos) spos) (tS X.K Tb W (gSet (dLc fi t ft fe (own.map (·.2))) (.nm i))) :=
  (ps_setLc hc hN hy hyl hsw hi ok hg ht he hs).by fun D σ H ⟨H0, O0, O, ρ, st, h⟩ => lc_walk (W := W) (Q := fun x H1 => gName i x σ H1 D.nx) hv ⟨H0, O0, O, ρ, st, oR_post st h fun d v H1 e r k => by
    unfold Tg.set at k
    exact k O _ H1 ((st.step e).set r)⟩
theorem fs_for {tg iter : Expr} {body : List Stmt} {fi : DnL} {t : Tg} (hp : PassesOwn (model X.prog X.w) X.A X.env X.xe) (hc : X.calm = true) (hi : PI X tg iter (tI X.K Tb W fi)) (hg : PG X tg (tG X.K Tb t)) (hb : PSs X body (tS X.K Tb W g))
    (hs : ∀ x, foldedSetIterable iter X.env x = pure x := by intro _; rfl) : PS X (.For tg iter body [] pos) (tS X.K Tb W (gFor fi t g)) := (ps_for hp hc hi hg hb hs).by fun D σ H ⟨H0, O0, O, ρ, st, h⟩ => ⟨H0, O0, O, ρ, st, oR_post st h fun ds J H1 e it k => by
  have st1 := (st.step e)
  have eB : Ext H0 (rebase O0 O H1) := st1.baseExt
  have k1 := PostS.rebase eB k
  have eG : Ext (hide O H1) (rebase O0 O H1) := by
    have out : ∀ b o, hide O H1 b = some o → rebase O0 O H1 b = some o := fun b o h => by
      obtain ⟨h1, h2⟩ := hide_some h
      unfold rebase
      rw [hide_out fun m => h1 (mem_rebase.mp m).1]
      exact h2
    refine ⟨fun b o h _ => out b o h, fun b t => t.mono (fun ps h => out b _ h) fun c q h => out c _ h, fun b h => ?_⟩
    cases q : hide O H1 b with
    | none => exact absurd q h
    | some x => rw [out b x q]; simp
  refine ⟨fun i m σ' H' => i ≤ ds.length ∧ m = ds.length - i ∧ ∃ O' ρ', St0 X.K Tb (rebase O0 O H1) O0 O' H' σ' ρ' ∧ PostS X.K Tb W (rebase O0 O H1) O0 (forGo t g (ds.drop i) ρ') D,
    ⟨ds.length, Nat.zero_le _, by simp, O, ρ, st1.rebase, k1⟩, ?_⟩
  rintro i m σ' H' ⟨hi, rfl, O', ρ', s1, k2⟩
  have eH : Ext (hide O H1) H' := eG.trans s1.ext
  have nG : ∀ b ∈ O', hide O H1 b = none := fun b hb => by
    by_cases h0 : b ∈ O0
    · exact hide_in (st1.sub b h0)
    · have q := s1.new b hb h0
      cases z : hide O H1 b with
      | none => rfl
      | some x =>
        obtain ⟨z1, z2⟩ := hide_some z
        unfold rebase at q
        rw [hide_out fun m => z1 (mem_rebase.mp m).1, z2] at q
        cases q
  by_cases hlt : i < ds.length
  · refine .inr ⟨it.go i H' eH hlt, fun σ2 H2 => i + 1 ≤ ds.length ∧ ∃ O' ρ', St0 X.K Tb (rebase O0 O H1) O0 O' H2 σ2 ρ' ∧ PostS X.K Tb W (rebase O0 O H1) O0 (forGo t g (ds.drop (i + 1)) ρ') D,
      fun σ2 H2 q => ⟨ds.length - (i + 1), by omega, q.1, rfl, q.2⟩, fun x H2 y => ?_⟩
    obtain ⟨e2, d, hd, rx⟩ := it.yld i H' O' x H2 eH nG s1.al hlt y
    have hdr : ds.drop i = d :: ds.drop (i + 1) := by
      obtain ⟨hl, hd'⟩ := List.getElem?_eq_some_iff.mp hd
      rw [List.drop_eq_getElem_cons hl, hd']
    rw [hdr] at k2
    unfold forGo at k2
    cases et : t.set d ρ' with
    | none => rw [et] at k2; exact k2.elim
    | some ρ1 =>
      rw [et] at k2
      refine ⟨_, O0, O', ρ', ρ1, d, s1.step e2, rx, et, fun σ3 s3 _ => ⟨_, O0, O', ρ1, s3, ?_⟩⟩
      cases eg : g ρ1 with
      | nx ρ2 => simp only [eg] at k2; exact fun O4 σ4 H4 s4 => ⟨hlt, O4, ρ2, s4, k2⟩
      | ct ρ2 => simp only [eg] at k2; exact fun O4 σ4 H4 s4 => ⟨hlt, O4, ρ2, s4, k2⟩
      | bk ρ2 => simp only [eg] at k2; exact k2
      | rt d => simp only [eg] at k2; exact k2
      | exc x ρ2 => simp only [eg] at k2; exact k2
      | bad => simp only [eg] at k2; exact k2
  · have ei : i = ds.length := by omega
    subst ei
    rw [List.drop_length] at k2
    exact .inl ⟨it.stop H' eH, k2 O' σ' H' s1⟩⟩
theorem fs_while {body : List Stmt} {fuel : Rho → Nat} (hp : PassesOwn (model X.prog X.w) X.A X.env X.xe) (hc : PT X c (tDT X.K Tb W fb)) (hb : PSs X body (tS X.K Tb W g)) : PS X (.While c body [] pos) (tS X.K Tb W (gWhile fb g fuel)) := (ps_while hp hc hb).by fun D σ H ⟨H0, O0, O, ρ, st, h⟩ => by
  refine ⟨fun m σ' H' => ∃ O' ρ', St0 X.K Tb H0 O0 O' H' σ' ρ' ∧ PostS X.K Tb W H0 O0 (whGo fb g m ρ') D, ⟨fuel ρ, O, ρ, st, h⟩, ?_⟩
  rintro m σ' H' ⟨O', ρ', s1, k⟩
  cases m with
  | zero => exact k.elim
  | succ m =>
    refine ⟨H0, O0, O', ρ', s1, oR_post s1 k fun b b' H1 e r k => ?_⟩
    cases (show b' = b from r)
    cases b with
    | false => exact k O' σ' H1 (s1.step e)
    | true =>
      refine ⟨fun σ2 H2 => ∃ O' ρ', St0 X.K Tb H0 O0 O' H2 σ2 ρ' ∧ PostS X.K Tb W H0 O0 (whGo fb g m ρ') D, fun σ2 H2 q => ⟨m, Nat.lt_succ_self _, q⟩, H0, O0, O', ρ', s1.step e, ?_⟩
      simp only [if_true] at k
      cases eg : g ρ' with
      | nx ρ2 => simp only [eg] at k; exact fun O4 σ4 H4 s4 => ⟨O4, ρ2, s4, k⟩
      | ct ρ2 => simp only [eg] at k; exact fun O4 σ4 H4 s4 => ⟨O4, ρ2, s4, k⟩
      | bk ρ2 => simp only [eg] at k; exact k
      | rt d => simp only [eg] at k; exact k
      | exc x ρ2 => simp only [eg] at k; exact k
      | bad => simp only [eg] at k; exact k
end
end PD

set_option Elab.async false
set_option linter.all false
set_option maxRecDepth 100000
set_option maxHeartbeats 1000000
namespace PD
open PySem PySem.Spec PyProof.Rows L2

/-! ### new lists -/
/-- an expression whose value is a new list -/
def tN (K : PySem.W.Frag) (Tb : List Addr) (W : WX) (f : Dn) : TE := fun σ H Q => ∃ H0 O0 O ρ, St0 K Tb H0 O0 O H σ ρ ∧ match f ρ with
  | .ok (.list ds) => ∀ p vs H', Ext H H' → H p = none → H' p = some (.lst vs) → ds.length ≤ sizeLine → RpAll K (hide (p :: O) H') vs ds → Q (.ref p) H'
  | .exc e => AftX K O H e fun c d H => W c d σ H
  | _ => False
section
variable {K : PySem.W.Frag} {Tb : List Addr} {W : WX} {H0 H H' H1 : Hp} {O0 O : List Addr} {ρ : Rho} {σ : L2.St} {p : Addr} {D : Ends} {ds : List PyData} {xs : List V}
theorem RpAll.beside (al : Al O H) (n : H p = none) (r : RpAll K (hide O H) xs ds) {o : HO} : RpAll K (hide (p :: O) (upd H p o)) xs ds := r.mono fun b x h t => by
  obtain ⟨h1, h2⟩ := hide_some h
  have hb : b ≠ p := ne_of_none h2 n
  rw [hide_out (by rw [List.mem_cons, not_or]; exact ⟨hb, h1⟩), upd_ne hb]
  exact h2
end
section
variable {X : Cx} {Tb : List Addr} {W : WX} {e : Expr} {es : List Expr} {f : Dn} {gl : DnL} {pos p : Pos} {x : Str}
/-- f ρ is a list: what is wanted once the parts are known -/
theorem tN_of {K : PySem.W.Frag} {O : List Addr} {H : Hp} {σ : L2.St} {Q : VK} {α β : Type} {Rl : Hp → β → α → Prop} {x : R α} {u : α → R PyData} {Q1 : β → Hp → Prop}
    (h : match x >>= u with
      | .ok (.list ds) => ∀ p vs H', Ext H H' → H p = none → H' p = some (.lst vs) → ds.length ≤ sizeLine → RpAll K (hide (p :: O) H') vs ds → Q (.ref p) H'
      | .exc e => AftX K O H e fun c d H => W c d σ H
      | _ => False)
    (hu : ∀ a e, u a ≠ .exc e)
    (k : ∀ a b H1, Ext H H1 → Rl H1 b a → (∀ ds, u a = .ok (.list ds) → (∀ p vs H', Ext H1 H' → H1 p = none → H' p = some (.lst vs) → ds.length ≤ sizeLine → RpAll K (hide (p :: O) H') vs ds → Q (.ref p) H') → Q1 b H1)) (nb : ∀ a, (∃ ds, u a = .ok (.list ds)) ∨ (match u a with | .ok (.list _) => True | _ => False) → True := by intros; trivial) :
    Post K O Rl (fun c d H => W c d σ H) H x Q1 := by
  cases x with
  | exc e => exact h
  | bad => exact h.elim
  | ok a =>
    intro b H1 ex r
    have h' : match u a with
      | .ok (.list ds) => ∀ p vs H', Ext H H' → H p = none → H' p = some (.lst vs) → ds.length ≤ sizeLine → RpAll K (hide (p :: O) H') vs ds → Q (.ref p) H'
      | .exc e => AftX K O H e fun c d H => W c d σ H
      | _ => False := h
    cases hu2 : u a with
    | bad => rw [hu2] at h'; exact h'.elim
    | exc e => exact absurd hu2 (hu a e)
    | ok d =>
      rw [hu2] at h'
      cases d with
      | list ds =>
        refine k a b H1 ex r ds hu2 fun p vs H' e2 n hp z rr => h' p vs H' (ex.trans e2) ?_ hp z rr
        cases q : H p with
        | none => rfl
        | some o => exact absurd n (ex.al p (by rw [q]; simp))
      | _ => exact h'.elim
theorem fn_lst (h : PA X es (tDs X.K Tb W gl)) : PE X (.List es pos) (tN X.K Tb W (dLst gl)) := (pe_lst h).by fun σ H Q ⟨H0, O0, O, ρ, st, h⟩ => by
  refine ⟨H0, O0, O, ρ, st, tN_of (u := fun xs => if xs.length ≤ sizeLine then .ok (.list xs) else .bad) h (fun a e q => by split at q <;> cases q) fun ds vs H1 ex r ds' e k => ?_⟩
  split at e
  · rename_i z
    cases e
    exact ⟨by rw [r.length]; exact z, fun p hp => k p vs _ (Ext.new hp) hp upd_same z (r.beside (st.step ex).al hp)⟩
  · cases e
theorem fn_list (hg : Gl X "list") (hm : X.mg "list" = none) (ha : PA X (e :: es) (tDs X.K Tb W gl)) (he : starEach (e :: es) X.env = (false, eval e X.env) :: starEach es X.env := by rfl) (hpl : (backTo pos (starEach es X.env)).any (·.1) = false := by rfl) : PE X (.Call (.Name "list" p) (e :: es) [] pos) (tN X.K Tb W (dArg bList gl)) :=
  (pe_callTy call_list_of hg hm boot_list ha (by decide) (by decide) he hpl).by fun σ H Q ⟨H0, O0, O, ρ, st, h⟩ => by
    refine ⟨H0, O0, O, ρ, st, tN_of (u := bList) h (fun a e q => by unfold bList items at q; split at q <;> (try split at q) <;> cases q) fun ds vs H1 ex r ds' e k => ?_⟩
    have al := (st.step ex).al
    unfold bList items at e
    split at e
    · split at e
      · cases e
        cases r with
        | cons r1 r2 =>
          cases r2
          cases r1 with
          | lst h1 z1 a1 => exact ⟨_, _, rfl, .inl (Sub.unhide.sqL h1), fun l hl => k l _ _ (Ext.new hl) hl upd_same z1 (a1.beside al hl)⟩
      · cases e
        cases r with
        | cons r1 r2 =>
          cases r2
          cases r1 with
          | tup h1 z1 a1 => exact ⟨_, _, rfl, .inr (Sub.unhide.sqT h1), fun l hl => k l _ _ (Ext.new hl) hl upd_same z1 (a1.beside al hl)⟩
      · cases e
    · cases e
/-- the slot's name takes the new list as its own -/
theorem own_end {K : PySem.W.Frag} {H0 H : Hp} {O0 O : List Addr} {ρ : Rho} {σ : L2.St} {D : Ends} {i : Nat} (st : St0 K Tb H0 O0 O H σ ρ) (h : PostS K Tb W H0 O0 (gOwn f i ρ) D) : tN K Tb W f σ H fun x H1 => D.nx (σ.set i (some x)) H1 := by
  refine ⟨H0, O0, O, ρ, st, ?_⟩
  unfold gOwn at h
  cases e : f ρ with
  | bad => rw [e] at h; exact h.elim
  | exc x => rw [e] at h; exact fun c d H1 ex r => h O σ H1 c d (st.step ex) r
  | ok d =>
    rw [e] at h
    cases d with
    | list ds => exact fun p vs H' ex n hp z r => h _ _ H' (st.ownNew ex n hp z r)
    | _ => exact h.elim
theorem fs_own {i : Nat} {pos' : Pos} (hN : X.N.Nodup) (hi : X.N[i]? = some x) (hx : Loc X.env.scope x) (he : PE X e (tN X.K Tb W f)) (hs : swapsWith e (some (.Name x pos')) pos.line X.env = pure false := by rfl)
    (hf : X.fn x = true ∨ X.env.scope.names.lookup x = some .local := by first | exact .inl rfl | exact .inr rfl | assumption) : PS X (.Assign [.Name x pos'] e pos) (tS X.K Tb W (gOwn f i)) := (ps_set hN hi hx he hs hf).by fun D σ H ⟨H0, O0, O, ρ, st, h⟩ => own_end st h
/-- name = [.. for ..], the name the list's only owner -/
theorem lc_walkN {K : PySem.W.Frag} {t : Tg} {ft : DnB} {fe : Dn} {fi : DnL} {vs : List Nat} {σ : L2.St} {H : Hp} {Q : VK} (hv : ∀ i ∈ t.ixs, i ∈ vs) (h : tN K Tb W (dLc fi t ft fe vs) σ H Q) :
    tLc (tI K Tb W fi) (tG K Tb t) (tDT K Tb W0 ft) (tD K Tb W0 fe) vs σ H Q := by
  obtain ⟨H0, O0, O, ρ, st, h⟩ := h
  refine ⟨H0, O0, O, ρ, st, tN_of (x := fi ρ) (u := fun ds => nx (lcGo t ft fe (wipeR ρ vs) ds) fun ys => .ok (.list ys)) h (fun a e q => by cases q2 : lcGo t ft fe (wipeR ρ vs) a <;> rw [q2] at q <;> cases q) fun ds J H1 ex it ds' e k => ?_⟩
  obtain ⟨ys, q, e⟩ := nx_ok e
  cases e
  exact lc_turns hv (st.step ex) it q fun D acc H' e1 nD hD z ra => k D acc H' e1 nD hD z ra
theorem fs_ownLc {i : Nat} {y : Str} {py : Pos} {elt tg iter : Expr} {ifs : List Expr} {scope : Scope} {own : List (Str × Nat)} {spos : Pos} {fi : DnL} {t : Tg} {ft : DnB} {fe : Dn} (hc : X.calm = true) (hN : X.N.Nodup) (hy : X.N[i]? = some y) (hyl : X.env.scope.names.lookup y = some .local)
    (hsw : swapsWith (.ListComp elt [⟨tg, iter, ifs, 0⟩] scope pos) (some (.Name y py)) spos.line X.env = pure true) (hi : PI X tg iter (tI X.K Tb W fi)) (ok : BlkOk X.N X.env.scope scope own)
    (hg : ∀ (s : Shared) (H : Hp) (C : Addr) (cl : List (Str × Addr)) (fp : List Addr), PG (X.blk s H scope (compEnvC scope cl C X.env) fp) tg (tG X.K Tb t))
    (ht : ∀ (s : Shared) (H : Hp) (C : Addr) (cl : List (Str × Addr)) (fp : List Addr), PTs (X.blk s H scope (compEnvC scope cl C X.env) fp) ifs (tDT X.K Tb W0 ft))
    (he : ∀ (s : Shared) (H : Hp) (C : Addr) (cl : List (Str × Addr)) (fp : List Addr), PE (X.blk s H scope (compEnvC scope cl C X.env) fp) elt (tD X.K Tb W0 fe))
    (hv : ∀ i ∈ t.ixs, i ∈ own.map (·.2) := by decide) (hs : ∀ x, foldedSetIterable iter X.env x = pure x := by intro _; rfl) :
    PS X (.Assign [.Name y py] (.ListComp elt [⟨tg, iter, ifs, 0⟩] scope pos) spos) (tS X.K Tb W (gOwn (dLc fi t ft fe (own.map (·.2))) i)) :=
  (ps_setLc hc hN hy hyl hsw hi ok hg ht he hs).by fun D σ H ⟨H0, O0, O, ρ, st, h⟩ => lc_walkN (W := W) (Q := fun x H1 => gName i x σ H1 D.nx) hv (own_end st h)
theorem fn_lc {elt tg iter : Expr} {ifs : List Expr} {scope : Scope} {own : List (Str × Nat)} {fi : DnL} {t : Tg} {ft : DnB} {fe : Dn} (hc : X.calm = true) (hN : X.N.Nodup) (hi : PI X tg iter (tI X.K Tb W fi)) (ok : BlkOk X.N X.env.scope scope own)
    (hg : ∀ (s : Shared) (H : Hp) (C : Addr) (cl : List (Str × Addr)) (fp : List Addr), PG (X.blk s H scope (compEnvC scope cl C X.env) fp) tg (tG X.K Tb t))
    (ht : ∀ (s : Shared) (H : Hp) (C : Addr) (cl : List (Str × Addr)) (fp : List Addr), PTs (X.blk s H scope (compEnvC scope cl C X.env) fp) ifs (tDT X.K Tb W0 ft))
    (he : ∀ (s : Shared) (H : Hp) (C : Addr) (cl : List (Str × Addr)) (fp : List Addr), PE (X.blk s H scope (compEnvC scope cl C X.env) fp) elt (tD X.K Tb W0 fe))
    (hv : ∀ i ∈ t.ixs, i ∈ own.map (·.2) := by decide) (hs : ∀ x, foldedSetIterable iter X.env x = pure x := by intro _; rfl) : PE X (.ListComp elt [⟨tg, iter, ifs, 0⟩] scope pos) (tN X.K Tb W (dLc fi t ft fe (own.map (·.2)))) :=
  (pe_lc hc hN hi ok hg ht he hs).by fun σ H Q h => lc_walkN hv h

/-! ### what changes an own list -/
/-- the list at slot i, at the place of a method's receiver -/
theorem own_at {K : PySem.W.Frag} {H0 H : Hp} {O0 O : List Addr} {ρ : Rho} {σ : L2.St} {D : Ends} {i : Nat} {k : List PyData → Out} (st : St0 K Tb H0 O0 O H σ ρ) (h : PostS K Tb W H0 O0 (ownAt ρ i k) D) :
    ∃ ds p vs, ρ[i]? = some (some (.own ds)) ∧ σ[i]? = some (some (.ref p)) ∧ H p = some (.lst vs) ∧ ds.length ≤ sizeLine ∧ RpAll K (hide O H) vs ds ∧ PostS K Tb W H0 O0 (k ds) D := by
  unfold ownAt at h
  split at h
  · rename_i ds e
    obtain ⟨v, h1, p, vs, rfl, m, m0, hp, z, r⟩ := st.slot i _ e
    exact ⟨ds, p, vs, e, h1, hp, z, r, h⟩
  · exact h.elim
theorem fs_app {i : Nat} {apos npos cpos : Pos} (ho : X.N[i]? = some x) (hv : Vis X.env.scope x) (hd : (x == ("__debug__" : Str)) = false) (hcd : (x == ("__classdict__" : Str)) = false) (ha : PE X e (tD X.K Tb W f))
    (hse : starEach [e] X.env = (false, eval e X.env) :: starEach [] X.env) (hbase : attributeBase (.Name x npos) "append" X.env (eval (.Name x npos) X.env) = eval (.Name x npos) X.env)
    (hfew : ((backTo cpos (starEach [e] X.env)).all (fun x => !x.1) && (backToKw cpos (keywordEach [] X.env)).all (fun x => x.1.isSome)
      && decide (([e] : List Expr).length + ([] : List Keyword).length + (if ([] : List Keyword).isEmpty then 0 else 1) < 30)) = true)
    (hline : (apos.endLine == cpos.line) = true) (hplain : (backTo cpos (starEach [] X.env)).any (·.1) = false)
    (hs : swapsWith (.Call (.Attribute (.Name x npos) "append" apos) [e] [] cpos) none pos.line X.env = pure false) :
    PS X (.Expr (.Call (.Attribute (.Name x npos) "append" apos) [e] [] cpos) pos) (tS X.K Tb W (gApp i f)) :=
  (ps_expr (pe_bm PySem.F.plainAttrs_list PySem.F.slot_list_append PySem.F.type_list_append mt_append (pe_var ho hv hd hcd) (pa_cons ha pa_nil hse) hbase hfew hline hse hplain) hs).by fun D σ H ⟨H0, O0, O, ρ, st, h⟩ => by
    obtain ⟨ds, p, vs, e1, e2, hp, z, r, h⟩ := own_at st h
    refine ⟨.ref p, e2, .inl ⟨rfl, vs, .of hp⟩, H0, O0, O, ρ, st, oR_post st h fun d v H1 ex rv k => ?_⟩
    split at k
    · rename_i hl
      refine ⟨p, vs, v, rfl, rfl, ex.keep p _ hp (fun _ q => by cases q), by rw [r.length]; exact hl, k O σ _ ((st.step ex).ownSet e1 e2 ?_ ?_)⟩
      · rw [List.length_append]; simp; exact hl
      · exact (r.mono (Sub.hide ex.keep)).append (.one rv)
    · exact k.elim
end

/-! ### defs -/
def startR (n : Nat) (ds : List PyData) : Rho := ds.map (fun d => some (.d d)) ++ List.replicate (n - ds.length) none
def endR : Out → R PyData
  | .nx _ => .ok .none
  | .rt d => .ok d
  | .exc e _ => .exc e
  | _ => .bad
def runD (n p : Nat) (g : Sn) : List PyData → R PyData := fun ds => if ds.length = p then endR (g (startR n ds)) else .bad
def spD (K : PySem.W.Frag) (Tb : List Addr) (m : List PyData → R PyData) : Sp := fun vs H Q E => ∃ O ds, Al O H ∧ (∀ P ∈ Tb, TabC H P) ∧ RpAll K (hide O H) vs ds ∧ Post K O (RlD K O) E H (m ds) Q
def WE (E : XK) : WX := fun c d _ H => E c d H
theorem lets_of {X : Cx} {W : WX} (tk : L2N.Takes X W) (σ : L2.St) : PassesAt (L2N.CX X.prog X.w) X σ (L2.WE W σ) := L2N.passAt tk σ
theorem lets0 {X : Cx} (σ : L2.St) : PassesAt (L2N.CX X.prog X.w) X σ (L2.WE W0 σ) := fun _ _ _ _ _ _ h => by
  obtain ⟨_, _, _, _, _, _, _, _, _, _, _, _, z⟩ := h
  exact z.elim
section
variable {P : Program} {w : World} {K : PySem.W.Frag} {mg : Str → Option Value} {base : Heap} {Tb : List Addr}
/-- a def, by its body -/
theorem fn_okD {x qual : Str} {st : Stmt} {f : Addr} {fd : FuncData} {N ps : List Str} {k : Nat} {g : Sn} (F : Fun K x qual st f fd) (S : FnScope N ps (defScope st))
    (hb : ∀ (cdv : Value) (A : Around) (outer : List Env) (s : Shared) (H : Hp) (E : XK), Room k (A.deeper (envOfC qual (defScope st) s.heap.objs.size f cdv)) →
      PSs (cxOf (L2N.CX P w) P w K mg base N qual (defScope st) f cdv A outer s H E) (defBody st) (tS K Tb (WE E) g)) :
    FnOk P w K mg base (L2N.CX P w) (k + 1) f fd ps (spD K Tb (runD N.length ps.length g)) := by
  obtain ⟨oc, od, kV, doc, pm, an, cdv, ct, osl, rfl, lk, hcd⟩ := F.ex
  refine fn_of lk hcd S (fun vs H Q E h => ?_) fun A outer s H vs Q E hr h => ⟨_, hb cdv A outer s H E hr, ?_⟩
  · obtain ⟨O, ds, al, tb, r, h⟩ := h
    unfold runD at h
    split at h
    · rename_i e
      rw [r.length]; exact e
    · exact h.elim
  · obtain ⟨O, ds, al, tb, r, h⟩ := h
    unfold runD at h
    split at h
    · rename_i e
      have st := St0.init (N.length - ds.length) al tb r
      refine ⟨H, O, O, startR N.length ds, ?_, ?_⟩
      · unfold L2.start startR
        rw [r.length]
        exact st
      · cases q : g (startR N.length ds) with
        | nx ρ => rw [q] at h; exact fun O' σ' H' st' => h .non H' st'.ext .non
        | rt d => rw [q] at h; exact fun v H' e' r' => h v H' e' r'
        | exc x ρ => rw [q] at h; exact fun O' σ' H' c d st' ex => h c d H' st'.ext (by
            obtain ⟨h1, h2⟩ := ex
            refine ⟨h1, ?_⟩
            rcases h2 with h2 | ⟨dd, fs, h3, h4, h5, h6⟩
            · exact .inl h2
            · exact .inr ⟨dd, fs, h3, h4, h5, h6.mono (Sub.less st'.sub)⟩)
        | bk ρ => rw [q] at h; exact h.elim
        | ct ρ => rw [q] at h; exact h.elim
        | bad => rw [q] at h; exact h.elim
    · exact h.elim
end
section
variable {X : Cx} {Tb : List Addr} {W : WX} {k : Nat} {f : Addr} {fd : FuncData} {ps : List Str} {m : List PyData → R PyData} {x : Str} {p pos : Pos} {e : Expr} {es : List Expr} {gl : DnL}
theorem fd_call (F : FnOk X.prog X.w X.K X.mg X.base (L2N.CX X.prog X.w) k f fd ps (spD X.K Tb m)) (hr : Room k X.A) (hg : Gl X x) (hm : X.mg x = some (.ref f)) (hk : PySem.W.keepIn X.K (.ref f) = true) (hb : Binds X.K fd ps []) (hx : ∀ σ, PassesAt (L2N.CX X.prog X.w) X σ (L2.WE W σ))
    (ha : PA X (e :: es) (tDs X.K Tb W gl)) (hdb : (x == ("__debug__" : Str)) = false := by decide) (he : starEach (e :: es) X.env = (false, eval e X.env) :: starEach es X.env := by rfl) (hpl : (backTo pos (starEach es X.env)).any (·.1) = false := by rfl) :
    PE X (.Call (.Name x p) (e :: es) [] pos) (tD X.K Tb W (dArg m gl)) := (pe_callS F hr hg hm hk hb hx ha hdb he hpl).by fun σ H Q ⟨H0, O0, O, ρ, st, h⟩ => ⟨H0, O0, O, ρ, st, by
  refine Post.then h fun ds vs H1 ex r k => ?_
  exact ⟨O, ds, (st.step ex).al, (st.step ex).tab, r, k⟩⟩
end
end PD

set_option Elab.async false
set_option linter.all false
set_option maxRecDepth 100000
set_option maxHeartbeats 1000000
namespace PySem.W
open PySem PySem.Calls PySem.SeqAt PyProof.Rows
section
variable {prog : Program} {w : World} {A : Around} {s : Shared}
/-- does a tuple have a first item -/
def hasFst : PyData → Bool
  | .tuple (_ :: _) => true
  | _ => false
theorem call_tuple_ltP {E : Value → Shared → Prop} {Q : Value → Shared → Prop} {l b : Addr} {items items2 : Array Value} {e r : Nat → Bool} (hl : s.heap.IsTuple l items) (hb : s.heap.IsTuple b items2)
    (he : ∀ j (h1 : j < items.size) (h2 : j < items2.size), EqAt A.in1 s items[j] items2[j] (e j)) (hr : ∀ j (h1 : j < items.size) (h2 : j < items2.size), e j = false → RcLt A.in1 s items[j] items2[j] (r j))
    (h : Q (.bool (firstLt e r (decide (items.size < items2.size)) (List.range (min items.size items2.size)))) s) : wpAny (model prog w) A (call (.builtin "tuple.__lt__") [.ref l, .ref b]) Q E s := by
  obtain ⟨⟨c1, d1, x1, l1⟩, ho, hc, n, hd⟩ := id hl
  obtain ⟨⟨c2, d2, x2, l2⟩, ho2, hc2, n2, hd2⟩ := id hb
  simp only at hc hd hc2 hd2
  subst hc hd hc2 hd2
  exact call_meets F.slot_tuple_lt ⟨_, ho, rfl⟩ F.entry_tuple_lt (F.args_tuple_lt_2 _ _) (tuple_ltAt l b items items2 n n2 d1 d2 l1 l2 e r) ⟨ho, ho2, he, hr, h⟩
theorem oneLt_tup {f : Bool} {xs ys : List PyData} {a b : Value} {as bs : List Addr} {Q : Bool → Shared → Prop} {E : Value → Shared → Prop} (ra : Reads s.heap a (.tuple xs) as) (rb : Reads s.heap b (.tuple ys) bs) (hal : alikeAll xs ys = true)
    (hu : A.units + min (PyData.tuple xs).depth (PyData.tuple ys).depth < cLine) (hq : Q (dataLt (.tuple xs) (.tuple ys)) s) : wpAny (model prog w) A (oneLt' f a b) Q E s := by
  cases f with
  | false => exact oneLt_alike (fun h => by cases h) ra rb (by simpa [alike] using hal) (fun h => by cases h) hu hq
  | true =>
    cases ra with
    | @tuple l o vs n _ as1 h1 h2 h3 h4 =>
      cases rb with
      | @tuple l' o' vs' n' _ bs1 k1 k2 k3 k4 =>
        have n1 : vs.size = xs.length := by simpa using SeqAt.ReadsAll.length _ _ _ h4
        have n2 : vs'.size = ys.length := by simpa using SeqAt.ReadsAll.length _ _ _ k4
        rw [dataLt_tuple, ← firstLt_toks xs ys hal, ← n1, ← n2] at hq
        rw [oneLt'_eq]
        simp only [if_true]
        refine wpAny_bind (wpAny_cRoomFor (SeqAt.room_here hu) ?_)
        refine wpAny_bind (wpAny_callSpecialIfBound?_slot (T := "tuple") ⟨_, h1, h2⟩ F.slot_tuple_lt (call_tuple_ltP (e := pairEq xs ys) (r := fun j => dataLt (xs.getD j .none) (ys.getD j .none)) ⟨_, h1, h2, _, h3⟩ ⟨_, k1, k2, _, k3⟩ (fun j j1 j2 => ?_) (fun j j1 j2 hj => ?_) ?_))
        · have := eqAt_alikeAll xs ys A.in1 s vs.toList vs'.toList _ _ h4 k4 hal (SeqAt.room_in hu) j (by simpa using j1) (by simpa using j2)
          simpa using this
        · have := rcLt_alikeAll xs ys A.in1 s vs.toList vs'.toList _ _ h4 k4 hal (SeqAt.room_in hu) j (by simpa using j1) (by simpa using j2) hj
          simpa using this
        · exact wpAny_truthy_bool hq
theorem mapM_firsts {E : Value → Shared → Prop} : ∀ {vs : List Value} {ds : List PyData} {Q : List (Option Value) → Shared → Prop}, EachIs (fun v d => ∃ as, Reads s.heap v d as) vs ds → (∀ d ∈ ds, ∃ xs, d = .tuple xs) →
    (∀ rs : List (Option Value), rs.map (·.isSome) = ds.map hasFst → Q rs s) → wpAny (model prog w) A (vs.mapM firstOfTuple') Q E s
  | _, _, Q, .nil, _, h => by rw [List.mapM_nil]; exact wpAny_pure (h [] rfl)
  | _, _, Q, .cons (b := d) ⟨as, r⟩ t, ht, h => by
    rw [List.mapM_cons]
    obtain ⟨xs, rfl⟩ := ht d (List.mem_cons_self ..)
    cases r with
    | @tuple a o vs n _ _ ho hc hd hr =>
      refine wpAny_bind ?_
      rw [kas_first_eq]
      refine wpAny_bind (wpAny_typeOf_ref ho ?_)
      rw [hc, if_neg (by decide)]
      refine wpAny_bind (wpAny_listItems (prog := prog) (w := w) ho hd (wpAny_pure ?_))
      refine (wpAny_bind (mapM_firsts t (fun d hd => ht d (List.mem_cons_of_mem _ hd)) fun rs e => wpAny_pure (h _ ?_)))
      rw [List.map_cons, List.map_cons, e]
      congr 1
      have hl := SeqAt.ReadsAll.length _ _ _ hr
      cases xs with
      | nil =>
        have : vs.size = 0 := by simpa using hl
        simp [hasFst, this]
      | cons x xs =>
        have : 0 < vs.size := by simp at hl; omega
        simp [hasFst, this]
/-- tuples, some of them empty -/
theorem SortsAt.tuples {vs : List Value} {ds : List PyData} (e : EachIs (fun v d => ∃ as, Reads s.heap v d as) vs ds) (hal : AllAlike ds) (ht : ∀ d ∈ ds, ∃ xs, d = .tuple xs) (hu : ∀ d, d ∈ ds → A.units + d.depth < cLine) : SortsAt prog w A s (dataKind s.heap ds) vs := by
  by_cases hne : ∀ d ∈ ds, hasFst d = true
  · refine SortsAt.data e hal (.inl fun d hd => ?_) hu
    obtain ⟨xs, rfl⟩ := ht d hd
    have q := hne _ hd
    cases xs with
    | nil => cases q
    | cons x r => exact ⟨x, r, rfl⟩
  · refine ⟨fun v hv => ?_, ?_⟩
    · obtain ⟨d, hd, as, r⟩ := e.left v hv
      exact ⟨_, dataKind_some hal hd r⟩
    · have lt : ∀ f : Bool, ∀ (E : Value → Shared → Prop) (x y : Value) (a b : (dataKind s.heap ds).α) {Q : Bool → Shared → Prop}, (dataKind s.heap ds).keyOf x = some a → (dataKind s.heap ds).keyOf y = some b → Q ((dataKind s.heap ds).blt a b) s → wpAny (model prog w) A (oneLt' f x y) Q E s := by
        intro f E x y a b Q ha hb hq
        obtain ⟨d, as, hd, ra, rfl⟩ := dataKind_inv ha
        obtain ⟨d', as', hd', rb, rfl⟩ := dataKind_inv hb
        have hdd := hal d hd d' hd'
        have hroom : A.units + min d.depth d'.depth < cLine := Nat.lt_of_le_of_lt (Nat.add_le_add_left (Nat.min_le_left _ _) _) (hu d hd)
        obtain ⟨xs, rfl⟩ := ht d hd
        obtain ⟨ys, rfl⟩ := ht d' hd'
        exact oneLt_tup ra rb (by simpa [alike] using hdd) hroom hq
      have some0 : ∀ rs : List (Option Value), rs.map (·.isSome) = ds.map hasFst → ¬ (rs.toArray.all (·.isSome)) = true := fun rs er q => by
        apply hne
        intro d hd
        have q' : ∀ r ∈ rs, r.isSome = true := by simpa using q
        have m : hasFst d ∈ ds.map hasFst := List.mem_map.mpr ⟨d, hd, rfl⟩
        rw [← er] at m
        obtain ⟨r, hr, er2⟩ := List.mem_map.mp m
        rw [← er2]
        exact q' r hr
      cases ds with
      | nil => exact absurd (fun d hd => absurd hd (by simp)) hne
      | cons d0 r0 =>
        cases h0 : hasFst d0 with
        | true =>
          refine ⟨general', fun E x y a b Q ha hb hq => lt false E x y a b ha hb hq, fun h2 E Q hq => ?_⟩
          rw [keyKind'_eq, List.mapM_toArray, map_eq_pure_bind]
          refine wpAny_bind (wpAny_bind (mapM_firsts e ht fun rs er => wpAny_pure ?_))
          rw [if_neg (some0 rs er), if_pos ?_]
          · exact wpAny_pure hq
          · cases rs with
            | nil => cases er
            | cons r rr =>
              have : r.isSome = true := (List.cons.inj er).1.trans h0
              simpa using this
        | false =>
          refine ⟨oneType', fun E x y a b Q ha hb hq => lt true E x y a b ha hb hq, fun h2 E Q hq => ?_⟩
          rw [keyKind'_eq, List.mapM_toArray, map_eq_pure_bind]
          refine wpAny_bind (wpAny_bind (mapM_firsts e ht fun rs er => wpAny_pure ?_))
          rw [if_neg (some0 rs er), if_neg ?_]
          · rw [oneTypeOnly'_eq, List.mapM_toArray, map_eq_pure_bind]
            have hT : ∀ v ∈ vs, Looks (model prog w) s.heap (typeOf v) (Value.type "tuple") := fun v hv => by
              obtain ⟨d, hd, as, r⟩ := e.left v hv
              obtain ⟨xs, rfl⟩ := ht d hd
              exact looks_reads r
            cases vs with
            | nil => exact absurd h2 (by simp)
            | cons v1 vr =>
              refine wpAny_bind (wpAny_bind (wpAny_bind (kas_mapM (r := Value.type "tuple") _ (fun v hv Q' hq => (hT v hv).here hq) (wpAny_pure ?_))))
              have hall : ((List.map (fun _ => Value.type "tuple") (v1 :: vr)).toArray.all fun x => x == Value.type "tuple") = true := by
                simp only [List.all_toArray, List.all_map, List.all_eq_true]
                intro _ _
                exact beq_self_eq_true _
              have hz : (List.map (fun _ => Value.type "tuple") (v1 :: vr)).toArray[0]? = some (Value.type "tuple") := by simp
              rw [hz]
              simp only [hall, if_true]
              exact wpAny_pure (wpAny_pure hq)
          · cases rs with
            | nil => simp
            | cons r rr =>
              have : r.isSome = false := (List.cons.inj er).1.trans h0
              simpa using this
end
end PySem.W
namespace PD
open PySem PySem.Spec PyProof.Rows L2
/-! ### sorted -/
/-! ### sorted of a tuple -/
section
variable {prog : Program} {w : World} {A : Around} {E : Value → Shared → Prop} {s : Shared}
theorem gather_tup {l : Addr} {vs : List Value} {Q : List Value → Shared → Prop} (hl : IsTup s.heap l vs.toArray)
    (h : Q vs { s with heap := (s.heap.push (seqObj "list" #[] 0)).update s.heap.objs.size (Obj.mapSeq (· ++ vs.toArray)) }) (hsz : vs.length ≤ sizeLine) :
    wpAny (model prog w) A (collect (.ref l)) Q E s := by
  obtain ⟨o, ho, hc, n, hd⟩ := id hl
  unfold collect
  refine wpAny_bind (wpAny_runValue (codeAny_builtin entry_proto_collect' ?_))
  show wpAny _ _ (do again (.builtin "list.__iadd__" ⟨[← newList [], .ref l], []⟩)) _ _ s
  refine wpAny_bind (wpAny_newList (wpAny_pure ⟨Code.quiet_builtin _ (by decide +kernel), codeAny_builtin entry_list_iadd' ?_⟩))
  show wpAny _ _ (Builtin.List.listExtendWith (.ref s.heap.objs.size) (.ref l) (.ref s.heap.objs.size)) _ _ { s with heap := s.heap.push (seqObj "list" #[] 0) }
  unfold Builtin.List.listExtendWith
  have ho' : (s.heap.push (seqObj "list" #[] 0)).get? l = some o := Heap.get?_push_of_some _ ho
  refine wpAny_bind (wpAny_typeOf (T := "tuple") ⟨o, ho', hc⟩ ?_)
  have ht : (Value.type "tuple" == Value.type "tuple") = true := by rfl
  rw [if_pos (by rw [ht]; simp)]
  refine wpAny_bind (listItems_at ho' hd ?_)
  refine wpAny_bind (listItems_at (xs := #[]) (n := 0) (Heap.get?_push_size _ rfl) rfl ?_)
  rw [if_neg (by simp)]
  refine wpAny_bind (listUpdate_at (xs := #[]) (n := 0) (Heap.get?_push_size _ rfl) rfl ?_ (Nat.zero_le _) (by show (#[] ++ vs.toArray).size ≤ sizeLine + 1; simp only [Array.size_append, List.size_toArray, List.length_nil]; omega))
  refine wpAny_pure ?_
  show wpAny (model prog w) A (do
      let o ← load s.heap.objs.size
      match o.data with
      | .seq xs _ => pure xs.toList
      | _ => unsupported "internal:collect") Q E { s with heap := (s.heap.push (seqObj "list" #[] 0)).update s.heap.objs.size (Obj.mapSeq (· ++ vs.toArray)) }
  refine wpAny_bind (wpAny_load (get?_update_seq (Heap.get?_push_size _ rfl) _) ?_)
  show wpAny _ _ (pure ((#[] : Array Value) ++ vs.toArray).toList) Q E _
  rw [show ((#[] : Array Value) ++ vs.toArray).toList = vs by simp]
  exact wpAny_pure h
theorem sorted_tup {κ : PyProof.Rows.KeyKind} {l : Addr} {vs : List Value} {Q : Value → Shared → Prop} (hl : IsTup s.heap l vs.toArray) (S : PySem.W.SortsAt prog w A.in1.in1 { s with heap := PySem.W.sortingHeap (PySem.W.copyHeap s.heap vs) (s.heap.objs.size + 1) vs } κ vs) (hL : vs.length ≤ sizeLine)
    (h : Q (.ref (s.heap.objs.size + 1)) { s with heap := sortedAll s.heap vs (PySem.W.sortVals κ false vs vs).toArray }) : wpAny (model prog w) A (call (.builtin "sorted") [.ref l]) Q E s := by
  refine call_function_entry_kw kind_sorted plain_sorted entry_sorted (args_sorted1 _) ?_
  unfold Builtin.«sorted»
  refine wpAny_bind (m := checkCount "sorted" 1 1 _) (wpAny_pure ?_)
  refine wpAny_bind (gather_tup hl ?_ hL)
  refine wpAny_bind (wpAny_newList ?_ hL)
  have hsz : ((s.heap.push (seqObj "list" #[] 0)).update s.heap.objs.size (Obj.mapSeq (· ++ vs.toArray))).objs.size = s.heap.objs.size + 1 := by
    rw [Heap.size_update]; exact Heap.size_push ..
  show wpAny _ _ _ _ _ { s with heap := PySem.W.copyHeap s.heap vs }
  rw [hsz]
  refine wpAny_bind (wpAny_holding (wpAny_call_entry_kw slot_list_sort ⟨_, PySem.W.copyHeap_at s.heap vs, rfl⟩ entry_list_sort ?body (args_list_sort _)))
  case body =>
    show wpAny (model prog w) A.in1.in1 (Builtin.«list.sort» ⟨[.ref (s.heap.objs.size + 1)], []⟩) _ _ _
    refine PySem.W.list_sort_vals (s := { s with heap := PySem.W.copyHeap s.heap vs }) (PySem.W.copyHeap_at s.heap vs) S hL ?_
    exact ⟨_, rfl, wpAny_pure ⟨_, rfl, h⟩⟩
end
def allTup (ds : List PyData) : Bool := ds.all fun d => match d with | .tuple _ => true | _ => false
def allNot (ds : List PyData) : Bool := ds.all fun d => match d with | .tuple _ => false | .none => false | _ => true
def allAlike (ds : List PyData) : Bool := ds.all fun d => ds.all fun e => PySem.W.alike d e
def okSort (ds : List PyData) : Bool := allAlike ds && (allTup ds || allNot ds) && ds.all fun d => decide (d.depth ≤ 60)
def sortD (ds : List PyData) : List PyData := ds.mergeSort (PySem.W.dataLe false id)
def bSorted : List PyData → R PyData
  | [.list xs] => if okSort xs = true then .ok (.list (sortD xs)) else .bad
  | [.tuple xs] => if okSort xs = true then .ok (.list (sortD xs)) else .bad
  | _ => .bad
mutual
theorem nod_of_alike : ∀ {d : PyData}, PySem.W.alike d d = true → nod d = true
  | .none, _ => rfl
  | .bool _, _ => rfl
  | .int _, _ => rfl
  | .str _, _ => rfl
  | .list xs, h => by
    rw [PySem.W.alike] at h
    exact nodAll_of_alike (xs := xs) h
  | .tuple xs, h => by
    rw [PySem.W.alike] at h
    exact nodAll_of_alike (xs := xs) h
  | .dict _, h => by simp [PySem.W.alike] at h
theorem nodAll_of_alike : ∀ {xs : List PyData}, PySem.W.alikeAll xs xs = true → nodAll xs = true
  | [], _ => rfl
  | x :: xs, h => by
    rw [PySem.W.alikeAll, Bool.and_eq_true] at h
    show (nod x && nodAll xs) = true
    rw [Bool.and_eq_true]
    exact ⟨nod_of_alike h.1, nodAll_of_alike h.2⟩
end
section
variable {X : Cx} {K : PySem.W.Frag}
theorem rpAll_reads {pins : List (Addr × Obj)} {σ : L2.St} {H : Hp} {s : Shared} {G : Hp} (I : Inv X pins σ H s) (sub : Sub G H) : ∀ {xs : List V} {ds : List PyData} {us : List Value}, RpAll X.K G xs ds → Vals xs us → (∀ d ∈ ds, nod d = true) → PySem.W.EachIs (fun v d => ∃ as, Reads s.heap v d as) us ds
  | _, _, _, .nil, .nil, _ => .nil
  | _, _, _, .cons r t, .cons q u, h => .cons (Dp.reads I _ _ _ ((r.mono sub).dp (h _ List.mem_cons_self)) q) (rpAll_reads I sub t u fun d hd => h d (List.mem_cons_of_mem _ hd))
theorem rpAll_each {G : Hp} : ∀ {xs : List V} {ds : List PyData} {us : List Value}, RpAll K G xs ds → Vals xs us → PySem.W.EachIs (fun u d => ∃ v, RelV v u ∧ Rp K G v d) us ds
  | _, _, _, .nil, .nil => .nil
  | _, _, _, .cons r t, .cons q u => .cons ⟨_, q, r⟩ (rpAll_each t u)
theorem each_rpAll {G : Hp} : ∀ {us : List Value} {ds : List PyData}, PySem.W.EachIs (fun u d => ∃ v, RelV v u ∧ Rp K G v d) us ds → ∃ xs, Vals xs us ∧ RpAll K G xs ds
  | _, _, .nil => ⟨[], .nil, .nil⟩
  | _, _, .cons ⟨v, q, r⟩ t => by
    obtain ⟨xs, h1, h2⟩ := each_rpAll t
    exact ⟨v :: xs, .cons q h1, .cons r h2⟩
def rSortD (K : PySem.W.Frag) : List V → Hp → VK → Prop := fun vs H Q => ∃ (G : Hp) (a : Addr) (xs : List V) (ds : List PyData), vs = [V.ref a] ∧ Sub G H ∧ (SqL K H a xs ∨ SqT K H a xs) ∧ RpAll K G xs ds ∧ okSort ds = true ∧
  ∀ p ys, H p = none → ys.length = xs.length → RpAll K G ys (sortD ds) → Q (.ref p) (upd H p (.lst ys))
theorem okSort_of {ds : List PyData} (h : okSort ds = true) : PySem.W.AllAlike ds ∧ ((∀ d ∈ ds, ∃ xs, d = .tuple xs) ∨ ∀ d ∈ ds, d ≠ .none ∧ ∀ xs, d ≠ .tuple xs) ∧ ∀ d ∈ ds, d.depth ≤ 60 := by
  unfold okSort at h
  rw [Bool.and_eq_true, Bool.and_eq_true, Bool.or_eq_true] at h
  obtain ⟨⟨h1, h2⟩, h3⟩ := h
  refine ⟨fun d hd e he => ?_, ?_, fun d hd => ?_⟩
  · unfold allAlike at h1
    rw [List.all_eq_true] at h1
    have := h1 d hd
    rw [List.all_eq_true] at this
    exact this e he
  · rcases h2 with h2 | h2
    · refine .inl fun d hd => ?_
      unfold allTup at h2
      rw [List.all_eq_true] at h2
      have := h2 d hd
      cases d <;> first | exact ⟨_, rfl⟩ | cases this
    · refine .inr fun d hd => ?_
      unfold allNot at h2
      rw [List.all_eq_true] at h2
      have := h2 d hd
      cases d <;> first | exact absurd this Bool.false_ne_true | exact ⟨by simp, by simp⟩
  · rw [List.all_eq_true] at h3
    exact of_decide_eq_true (h3 d hd)
theorem cr_sortD (hu : X.A.units + 64 < cLine) : CallR X (.builtin "sorted") (rSortD X.K) := by
  intro pins s σ H vs us Q I r h
  obtain ⟨G, a, xs, ds, rfl, sub, hs, ra, ok, q⟩ := h
  obtain ⟨al, kind, dep⟩ := okSort_of ok
  obtain ⟨its, rv, hl, hz⟩ : ∃ its : List Value, Vals xs its ∧ (s.heap.IsList a its.toArray ∨ IsTup s.heap a its.toArray) ∧ xs.length ≤ sizeLine := by
    rcases hs with hs | hs
    · obtain ⟨its, rv, hl, hz⟩ := I.list hs
      exact ⟨its, rv, .inl hl.isList, hz⟩
    · obtain ⟨its, rv, hl, hz⟩ := I.tuple hs
      exact ⟨its, rv, .inr hl, hz⟩
  rw [Vals.ref1 r]
  have er := rpAll_reads I sub ra rv fun d hd => nod_of_alike (al d hd d hd)
  have ev := rpAll_each ra rv
  have er' : PySem.W.EachIs (fun v d => ∃ as, Reads (PySem.W.sortingHeap (PySem.W.copyHeap s.heap its) (s.heap.objs.size + 1) its) v d as) its ds := er.mono fun _ _ ⟨as, r⟩ => ⟨as, PyProof.Rows.Reads.keeps (fun _ _ => PySem.W.sorting_copy_old) r⟩
  have hlen := rv.length
  have hu2 : ∀ d, d ∈ ds → X.A.in1.in1.units + d.depth < cLine := fun d hd => by
    have h1 := dep d hd
    show X.A.units + 1 + 1 + d.depth < cLine
    omega
  have S : PySem.W.SortsAt X.prog X.w X.A.in1.in1 { s with heap := PySem.W.sortingHeap (PySem.W.copyHeap s.heap its) (s.heap.objs.size + 1) its } (PySem.W.dataKind (PySem.W.sortingHeap (PySem.W.copyHeap s.heap its) (s.heap.objs.size + 1) its) ds) its := by
    rcases kind with k | k
    · exact PySem.W.SortsAt.tuples (s := { s with heap := PySem.W.sortingHeap (PySem.W.copyHeap s.heap its) (s.heap.objs.size + 1) its }) er' al k hu2
    · exact PySem.W.SortsAt.data (s := { s with heap := PySem.W.sortingHeap (PySem.W.copyHeap s.heap its) (s.heap.objs.size + 1) its }) er' al (.inr k) hu2
  refine (hl.elim (fun hl h => PySem.W.sorted_vals hl S (by rw [← hlen]; exact hz) h) (fun hl h => sorted_tup hl S (by rw [← hlen]; exact hz) h) : (_ → wpAny _ _ _ _ _ _)) ?_
  have eo := PySem.W.sortVals_data (h' := PySem.W.sortingHeap (PySem.W.copyHeap s.heap its) (s.heap.objs.size + 1) its) (enc := id) false ev (er'.mono fun _ _ h => h) (by rw [List.map_id]; exact al)
  rw [List.map_id] at eo
  obtain ⟨ys, hy1, hy2⟩ := each_rpAll eo
  obtain ⟨ep, he⟩ := PyProof.Rows.sortedAll_at s.heap its (PySem.W.sortVals (PySem.W.dataKind (PySem.W.sortingHeap (PySem.W.copyHeap s.heap its) (s.heap.objs.size + 1) its) ds) false its its).toArray
  have hyl : ys.length = xs.length := by
    rw [hy2.length, ra.length]
    exact List.length_mergeSort ds
  exact ⟨.ref _, upd H (s.heap.objs.size + 1) (.lst ys), I.laid (t' := s.toks) (fun _ _ => PyProof.Rows.sortedAll_old) (Nat.le_succ _) ⟨by rw [hyl]; exact hz, _, ep, hy1, he⟩, rfl, q _ ys (I.hok.fresh (Nat.le_succ _)) hyl hy2⟩
theorem ok_sorted : OkL K (rSortD K) bSorted := by
  intro O H Wx vs ds Q al r h
  unfold bSorted at h
  split at h
  · split at h
    · rename_i xs ok
      cases r with
      | cons r1 r2 =>
        cases r2
        cases r1 with
        | lst h1 z1 a1 =>
          refine ⟨hide O H, _, _, _, rfl, Sub.unhide, .inl (Sub.unhide.sqL h1), a1, ok, fun p ys hp hy ry => Post.newLst al h ?_ ry p hp⟩
          have : (sortD xs).length = xs.length := List.length_mergeSort xs
          rw [this]; exact z1
    · exact h.elim
  · split at h
    · rename_i xs ok
      cases r with
      | cons r1 r2 =>
        cases r2
        cases r1 with
        | tup h1 z1 a1 =>
          refine ⟨hide O H, _, _, _, rfl, Sub.unhide, .inr (Sub.unhide.sqT h1), a1, ok, fun p ys hp hy ry => Post.newLst al h ?_ ry p hp⟩
          have : (sortD xs).length = xs.length := List.length_mergeSort xs
          rw [this]; exact z1
    · exact h.elim
  · exact h.elim
end
end PD

set_option Elab.async false
set_option linter.all false
set_option maxRecDepth 100000
set_option maxHeartbeats 1000000
namespace PD
open PySem PySem.Spec PyProof.Rows L2 GenW

/-! ### the context of a generator expression's run -/
abbrev GX (X : Cx) (A : Around) (s : Shared) (H : Hp) (cenv : Env) (fp : List Addr) (pn : List (Addr × Obj)) : Cx :=
  { X with A := A.deeper cenv, s_0 := s, H_0 := H, env := cenv, outer := X.stack, stack := cenv :: X.stack, ex := fp, fn := fun _ => false, pn := pn, xe := fun _ _ => False }
abbrev genE (X : Cx) (scope : Scope) (C : Addr) (code : Value) : Env := genEnv scope (cloFrom X.env.cells scope.names []) C code builtinsNs X.env
theorem gen_start {X : Cx} {pins : List (Addr × Obj)} {σ : L2.St} {H : Hp} {s s5 : Shared} {scope : Scope} {own : List (Str × Nat)} {fp : List Addr} {A : Around} {code : Value} {m : Str → Option Value} {a : Addr} {o : Obj}
    (I : Inv X pins σ H s) (ok : BlkOk X.N X.env.scope scope own) (nc : ∀ y ∈ scope.names, y.2 ≠ .cell) (hN : X.N.Nodup) (hfp : ∀ b ∈ fp, FpOk X pins H b ∧ b < s.heap.objs.size) (hh : A.handled = none) (hf : A.frames = some X.stack)
    (h5 : s5.heap.Ns s.heap.objs.size m) (kp : ∀ b o, s.heap.get? b = some o → s5.heap.get? b = some o) (os : s5.os = s.os) (bare : AllBare s5.gens) (ha : s5.heap.get? a = some o) (la : s.heap.objs.size < a) (nd : ∀ v, o.data ≠ .cell v) :
    Inv (GX X A s H (genE X scope s.heap.objs.size code) fp [(a, o)]) [] (L2.wipe σ (own.map (·.2))) H s5 := by
  have hfree : ∀ y ∈ scope.names, y.2 = .free → ∃ c, X.env.cells.lookup y.1 = some c := fun y hy e => by
    rcases ok.free y hy e with k | k
    · exact I.ok.has _ (.inl k)
    · exact I.ok.has _ (.inr k)
  have cm : ∀ {y c}, (y, c) ∈ cloFrom X.env.cells scope.names [] → X.env.cells.lookup y = some c ∧ c < s.heap.objs.size := fun {y c} hm => by
    rcases cloFrom_mem hm with hm | ⟨h1, rfl⟩
    · cases hm
    · obtain ⟨c, hc⟩ := hfree _ h1 rfl
      rw [hc]
      obtain ⟨w, z⟩ := I.cell _ _ hc
      exact ⟨rfl, z.lt⟩
  have mem : ∀ {y c}, (cloFrom X.env.cells scope.names []).lookup y = some c → X.env.cells.lookup y = some c ∧ c < s.heap.objs.size := fun {y c} e => cm (PySem.mem_of_lookup e)
  have look : ∀ {y}, scope.names.lookup y = some .free → ∃ c, (cloFrom X.env.cells scope.names []).lookup y = some c := fun {y} hl =>
    mem_lookup (cloFrom_has (cells := X.env.cells) (acc := []) (PySem.mem_of_lookup hl))
  have noC : ∀ y, scope.names.lookup y ≠ some .cell := fun y e => nc _ (PySem.mem_of_lookup e) rfl
  have okB : (GX X A s H (genE X scope s.heap.objs.size code) fp [(a, o)]).Ok := by
    refine ⟨I.ok.mod, ok.kind, I.ok.glob, rfl, Nat.le_refl _, fun y z c e1 e2 => ?_, fun y hy => ?_, fun y c z e => (nomatch z), fun _ => hh, ?_, .inr ⟨rfl, rfl⟩, fun b hb => ⟨?_, fun y c e z => ?_⟩, I.bs, Nat.le_trans I.ok.bsz I.sz, fun b o e hb => ?_, fun b hb z => ?_, I.stack, I.stkFree⟩
    · exact I.ok.inj y z c (mem e1).1 (mem e2).1
    · rcases hy with hy | hy
      · exact absurd hy (noC y)
      · exact look hy
    · show Option.map _ A.frames = _
      rw [hf]; rfl
    · exact Nat.ne_of_lt (hfp b hb).2
    · exact (hfp b hb).1.2.2.2.2.1 y c (mem e).1 z
    · rcases (hfp b hb).1.2.2.2.1 with z | z
      · exact I.ok.noex b o e z
      · exact absurd (Nat.lt_of_lt_of_le (Heap.lt_size e) (Nat.le_trans I.ok.bsz z)) (Nat.lt_irrefl _)
    · rcases List.mem_cons.mp (I.stkSub b z) with z | z
      · exact (hfp b hb).1.2.1 z
      · exact (hfp b hb).1.2.2.1 z
  refine ⟨okB, os, bare, Un.kept kp, ⟨m, h5, fun i y av e1 e2 e3 => ?_⟩, fun y c e => ?_, I.hok.fresh (Nat.le_refl _), fun y c e => ?_, fun p hp => ?_, I.hok.kept kp, by rw [wipe_length]; exact I.len⟩
  · obtain ⟨e2, hne⟩ := wipe_some e2
    have hfr : scope.names.lookup y = some .free := by
      have no : ∀ k', scope.names.lookup y = some k' → ¬ (k' = .local ∨ k' = .cell) := fun k' e hh => by
        rcases ok.own _ (PySem.mem_of_lookup e) hh with e' | e'
        · obtain ⟨p, hp, hpy⟩ := List.mem_map.mp e'
          have e3 := ok.ix p hp
          have : p.1 = y := hpy
          rw [this] at e3
          exact hne (List.mem_map.mpr ⟨p, hp, nodup_ix hN e3 e1⟩)
        · exact e' (List.mem_of_getElem? e1)
      have e3 : Vis scope y := e3
      rcases e3 with e3 | e3 | e3
      · exact absurd (.inl rfl) (no _ e3)
      · exact absurd (.inr rfl) (no _ e3)
      · exact e3
    obtain ⟨m, hn, hl⟩ := I.loc
    have hvis : Vis X.env.scope y := (ok.free _ (PySem.mem_of_lookup hfr) rfl).elim (fun k => .inr (.inl k)) (fun k => .inr (.inr k))
    obtain ⟨w, r, q⟩ := hl i y av e1 e2 hvis
    refine ⟨w, r, .inr ⟨.inr hfr, ?_⟩⟩
    obtain ⟨c, h1⟩ := look hfr
    rcases q with ⟨k, _⟩ | ⟨_, c', e', z⟩
    · have k : X.env.scope.names.lookup y = some .local := k
      rcases ok.free _ (PySem.mem_of_lookup hfr) rfl with k' | k' <;> rw [show X.env.scope.names.lookup y = _ from k'] at k <;> cases k
    · have h2 := (mem h1).1
      rw [h2] at e'; cases e'
      exact ⟨c, h1, z.keeps kp⟩
  · obtain ⟨w, z⟩ := I.cell y c (mem e).1
    exact ⟨w, z.keeps kp⟩
  · exact I.freeC y c (mem e).1
  · have hp : p ∈ [(a, o)] ++ ([] : List (Addr × Obj)) := hp
    have : p = (a, o) := by simpa using hp
    subst this
    refine ⟨ha, I.hok.fresh (Nat.le_of_lt la), Nat.ne_of_gt la, fun z => ?_, nd⟩
    rcases List.mem_cons.mp (I.stkSub a z) with z | z
    · have h1 := I.lt
      rw [← z] at h1
      exact absurd (Nat.lt_trans la h1) (Nat.lt_irrefl _)
    · exact I.nofs (Nat.le_of_lt la) z
/-- the same heap -/
theorem inv_gens {X : Cx} {pins : List (Addr × Obj)} {σ : L2.St} {H : Hp} {s s' : Shared} (I : Inv X pins σ H s) (hp : s'.heap = s.heap) (os : s'.os = s.os) (b : AllBare s'.gens) : Inv X pins σ H s' := by
  obtain ⟨h', g', d', t', o'⟩ := s'
  cases hp; cases os
  exact { I with bare := b }

/-! ### its run, turn by turn -/
theorem thnG {α : Type} {t : Sem α} {Q Q' : α → Shared → Prop} {M : Model} {A : Around} {E : Value → Shared → Prop} {s : Shared} {n : Nat} (hn : n ≤ s.gens.size) (h : wpAny M A t Q (fun _ _ => False) s) (hQ : ∀ a s, n ≤ s.gens.size → Q a s → Q' a s) : wpAny M A t Q' E s :=
  wpAny_gsz hn (wpAny_mono h (fun a s' q hz => hQ a s' hz q) fun _ _ z => z.elim)
def GI (XG : Cx) (fp : List Addr) (tn : Nat → Heap → Prop) (σw : L2.St) (W : Nat → Nat → Hp → Prop) (i m : Nat) (s : Shared) : Prop := ∃ H', Inv XG [] σw H' s ∧ tn i s.heap ∧ (∀ b ∈ fp, H' b = none) ∧ W i m H'
def FB (XG : Cx) (Q : VK) (b : Bool) (s : Shared) : Prop := ∃ pins' σ' H', Inv XG pins' σ' H' s ∧ Q (.bl b) H'
def Lk (s s' : Shared) : Prop := s'.heap = s.heap ∧ s'.os = s.os ∧ AllBare s'.gens
def genP (XG : Cx) (Q : VK) (stop : Bool) : Nat → Shared → Shared → Prop := fun _ s₀ s₁ => FB XG Q (!stop) s₁ ∧ s₀.gens.size ≤ s₁.gens.size
def genY (XG : Cx) (fp : List Addr) (tn : Nat → Heap → Prop) (σw : L2.St) (W : Nat → Nat → Hp → Prop) (Q : VK) (stop : Bool) : Protocol := fun _ s₀ v s₁ kap =>
  ∃ c : Bool, v = .bool c ∧ s₀.gens.size ≤ s₁.gens.size ∧ if c = stop then FB XG Q stop s₁ else (∃ i m, GI XG fp tn σw W i m s₁) ∧ ∀ s'', Lk s₁ s'' → kap (.send .none) s''
/-- what a turn is to do -/
def GTurn (J : It) (g : TG) (tt : TT) (te : TE) (vs : List Nat) (σw : L2.St) (W : Nat → Nat → Hp → Prop) (Q : VK) (stop : Bool) : Prop := ∀ i m H, W i m H →
  (J.stop i H ∧ Q (.bl (!stop)) H) ∨ (J.go i H ∧ ∃ Nx : Hp → Prop, (∀ H', Nx H' → ∃ m', m' < m ∧ W (i + 1) m' H') ∧ ∀ x H', J.yld i H x H' → g x σw H' fun σ2 H2 => L2.wipe σ2 vs = σw ∧ tt σ2 H2 fun b H3 =>
    if b = true then te σ2 H3 fun y H4 => ∃ c, y = .bl c ∧ if c = stop then Q (.bl stop) H4 else Nx H4 else Nx H3)
section
variable {X : Cx} {A : Around} {s4 : Shared} {H3 : Hp} {cenv : Env} {fp : List Addr} {pn : List (Addr × Obj)} {tg iter elt : Expr} {ifs : List Expr} {scope : Scope} {pos : Pos} {it : Addr} {J : It} {tn : Nat → Heap → Prop} {g : TG} {tt : TT} {te : TE} {vs : List Nat} {σw : L2.St} {W : Nat → Nat → Hp → Prop} {Q : VK} {stop : Bool}
theorem gen_seg (hc : X.calm = true) (hco : cenv.scope.isCoroutine = false) (T : Turn X.prog X.w X.K tg J fp it tn) (pg : PG (GX X A s4 H3 cenv fp pn) tg g) (pt : PTs (GX X A s4 H3 cenv fp pn) ifs tt) (pe : PE (GX X A s4 H3 cenv fp pn) elt te)
    (hpn : ∀ b ∈ fp, ∀ p ∈ pn, p.1 ≠ b) (hw : ∀ i v, σw[i]? = some (some v) → i ∉ vs) (turn : GTurn J g tt te vs σw W Q stop) :
    ∀ (m n i : Nat) (s₀ s : Shared), m + 1 ≤ n → GI (GX X A s4 H3 cenv fp pn) fp tn σw W i m s → s₀.gens.size ≤ s.gens.size →
      Seg (model X.prog X.w) A (fun n s₀ r s₁ => r = .ok .next ∧ genP (GX X A s4 H3 cenv fp pn) Q stop n s₀ s₁) (genY (GX X A s4 H3 cenv fp pn) fp tn σw W Q stop) n s₀
        (.compLoop (.GeneratorExp elt [⟨tg, iter, ifs, 0⟩] scope pos) 0 (.ref it) .none cenv) ((model X.prog X.w).den (.compLoop (.GeneratorExp elt [⟨tg, iter, ifs, 0⟩] scope pos) 0 (.ref it) .none cenv)) [] s := by
  have stat : ∀ {pins' : List (Addr × Obj)} {σ' : L2.St} {H' : Hp} {s' : Shared}, Inv (GX X A s4 H3 cenv fp pn) [] σ' H' s' → (∀ b ∈ fp, H' b = none) → ∀ b ∈ fp, FpOk (GX X A s4 H3 cenv fp pn) [] H' b := fun {pins' σ' H' s'} I' hn b hb =>
    ⟨hn b hb, (I'.ok.exf b hb).1, I'.ok.exfs b hb, .inl hb, fun x c e => (I'.ok.exf b hb).2 x c e, fun p hp => hpn b hb p (by simpa using hp)⟩
  intro m
  induction m using Nat.strongRecOn with
  | _ m ih =>
  rintro n i s₀ s hn ⟨H5, I5, st5, n5, w5⟩ hz
  show Seg _ A _ _ _ s₀ _ ((compTurn (.GeneratorExp elt [⟨tg, iter, ifs, 0⟩] scope pos) 0 (.ref it) .none cenv).onRaise (leaving cenv)) [] s
  rw [compTurn_gen, Sem.onRaise_eq_wrap]
  refine seg_bind_wrap (wpAny_standAt ?_)
  rcases turn i m H5 w5 with ⟨hstop, qq⟩ | ⟨go, Nx, hNx, step⟩
  · have td := T.done (GX X A s4 H3 cenv fp pn) rfl rfl rfl hc i [] s _ H5 (fun _ _ => False) I5 (stat (pins' := []) I5 n5) st5 hstop
    refine seg_bind_wrap (thnG hz td fun r s6 hz6 ⟨hr, I6⟩ => ?_)
    subst hr
    exact seg_end (.ok .next) ⟨rfl, ⟨_, _, _, I6, qq⟩, hz6⟩
  · have ti := T.item (GX X A s4 H3 cenv fp pn) rfl rfl rfl hc i [] s _ H5 (fun _ _ => False) I5 (stat (pins' := []) I5 n5) st5 go
    refine seg_bind_wrap (thnG hz ti fun r s6 hz6 ⟨u, hr, h6⟩ => ?_)
    subst hr
    refine seg_bind_wrap (thnG hz6 h6 fun _ s7 hz7 ⟨x, H7, I7, r7, y7, st7, n7⟩ => ?_)
    have I7' := I7.pinned (stat (pins' := []) I7 n7) (T.obj _ _ st7)
    refine seg_bind_wrap (thnG hz7 (pg.run _ s7 _ H7 x u _ I7' r7 (step x H7 y7)) fun _ s8 hz8 ⟨σ8, H8, I8, hw8, q8⟩ => ?_)
    refine seg_bind_wrap (thnG hz8 (pt.run _ s8 σ8 H8 _ I8 q8) fun b s9 hz9 ⟨H9, I9, q9⟩ => ?_)
    -- the turn's end
    have fin : ∀ {s' : Shared} {H' : Hp}, Inv (GX X A s4 H3 cenv fp pn) ([] ++ pinsAt fp s7.heap) σ8 H' s' → Nx H' → ∃ m', m' < m ∧ GI (GX X A s4 H3 cenv fp pn) fp tn σw W (i + 1) m' s' := fun {s' H'} I' nx => by
      obtain ⟨m', hm, w'⟩ := hNx H' nx
      have pin' : ∀ b ∈ fp, ∀ o, s7.heap.get? b = some o → s'.heap.get? b = some o ∧ H' b = none := fun b hb o e =>
        let z := I'.pin (b, o) (List.mem_append_right _ (List.mem_append_right _ (mem_pinsAt hb e)))
        ⟨z.1, z.2.1⟩
      have hl : σw.length = σ8.length := by rw [← hw8, wipe_length]
      refine ⟨m', hm, H', (I'.unpinned (pins := [])).weak hl (fun j v e => ?_), T.keep _ _ _ st7 fun b hb o e => (pin' b hb o e).1, fun b hb => ?_, w'⟩
      · rw [← hw8] at e
        exact (wipe_some e).1
      · obtain ⟨o, e, _⟩ := T.obj _ _ st7 b hb
        exact (pin' b hb o e).2
    cases b with
    | false =>
      simp only [Bool.false_eq_true, if_false] at q9 ⊢
      obtain ⟨m', hm, gi⟩ := fin I9 q9
      exact seg_again rfl (ih m' hm n (i + 1) s₀ s9 (by omega) gi hz9)
    | true =>
      simp only [if_true] at q9 ⊢
      have hy : ∀ v, yieldOut cenv v = yieldValue v := fun v => by simp only [yieldOut, hco, Bool.false_eq_true, if_false]
      simp only [hy]
      rw [Sem.bind_eq_wrap', Sem.bind_eq_wrap', Sem.wrap_wrap, Sem.wrap_wrap]
      refine seg_wrap (thnG hz9 (pe.run _ s9 σ8 H9 _ I9 q9) fun z s10 hz10 ⟨yv, H10, I10, r10, c, hyc, qc⟩ => ?_)
      subst hyc
      obtain rfl : z = Value.bool c := r10
      obtain ⟨n', rfl⟩ : ∃ n', n = n' + 1 := ⟨n - 1, by omega⟩
      refine seg_at (seg_yield rfl rfl rfl ⟨c, rfl, hz10, ?_⟩)
      by_cases hcs : c = stop
      · rw [if_pos hcs] at qc ⊢
        exact ⟨_, _, _, I10, qc⟩
      · rw [if_neg hcs] at qc ⊢
        obtain ⟨m', hm, gi⟩ := fin I10 qc
        refine ⟨⟨_, _, gi⟩, fun s'' lk => ?_⟩
        obtain ⟨H', I', t', n', w'⟩ := gi
        exact seg_again rfl (ih m' hm _ (i + 1) s'' s'' (by omega) ⟨H', inv_gens I' lk.1 lk.2.1 lk.2.2, by rw [lk.1]; exact t', n', w'⟩ (Nat.le_refl _))
theorem gen_begin (hc : X.calm = true) (hco : cenv.scope.isCoroutine = false) (T : Turn X.prog X.w X.K tg J fp it tn) (pg : PG (GX X A s4 H3 cenv fp pn) tg g) (pt : PTs (GX X A s4 H3 cenv fp pn) ifs tt) (pe : PE (GX X A s4 H3 cenv fp pn) elt te)
    (hpn : ∀ b ∈ fp, ∀ p ∈ pn, p.1 ≠ b) (hw : ∀ i v, σw[i]? = some (some v) → i ∉ vs) (turn : GTurn J g tt te vs σw W Q stop) {m : Nat} {s : Shared} (h : GI (GX X A s4 H3 cenv fp pn) fp tn σw W 0 m s) :
    Seg (model X.prog X.w) A (fun n s₀ r s₁ => r = .ok .next ∧ genP (GX X A s4 H3 cenv fp pn) Q stop n s₀ s₁) (genY (GX X A s4 H3 cenv fp pn) fp tn σw W Q stop) (m + 1) s
      (.compStart (.GeneratorExp elt [⟨tg, iter, ifs, 0⟩] scope pos) 0 (.ref it) .none cenv) ((model X.prog X.w).den (.compStart (.GeneratorExp elt [⟨tg, iter, ifs, 0⟩] scope pos) 0 (.ref it) .none cenv)) [] s := by
  have loop := gen_seg (iter := iter) (scope := scope) (pos := pos) hc hco T pg pt pe hpn hw turn m (m + 1) 0 s s (Nat.le_refl _) h (Nat.le_refl _)
  obtain ⟨H', I', t', _⟩ := h
  show Seg _ A _ _ _ s _ ((compStart (.GeneratorExp elt [⟨tg, iter, ifs, 0⟩] scope pos) 0 (.ref it) .none cenv).onRaise (leaving cenv)) [] s
  unfold compStart
  rw [Sem.onRaise_eq_wrap]
  show Seg _ A _ _ _ s _ ((ask >>= _).wrap _ _ _ _) [] s
  refine seg_bind_wrap (wpAny_askSetting ?_)
  split
  · exact seg_again rfl loop
  · first
      | exact seg_bind_wrap (wpAny_rule (seg_bind_wrap (wpAny_standAt (seg_bind_wrap (T.self _ 0 s _ _ t' (seg_again rfl loop))))))
      | (refine seg_bind_wrap (wpAny_rule ?_); show Seg _ A _ _ _ s _ ((standAt iter.pos >>= _).wrap _ _ _ _) [] s; exact seg_bind_wrap (wpAny_standAt (seg_bind_wrap (T.self _ 0 s _ _ t' (seg_again rfl loop)))))
end

/-! ### the consumer -/
section
variable {X XG : Cx} {A : Around} {fp : List Addr} {tn : Nat → Heap → Prop} {σw : L2.St} {W : Nat → Nat → Hp → Prop} {Q : VK} {stop : Bool} {Rr : Result → Shared → Prop} {P : Program} {w : World}
theorem FB.gens {b : Bool} {s s' : Shared} (h : FB XG Q b s) (e : s'.heap = s.heap) (os : s'.os = s.os) (bb : AllBare s'.gens) : FB XG Q b s' := by
  obtain ⟨p, σ, H, I, q⟩ := h
  exact ⟨p, σ, H, inv_gens I e os bb, q⟩
theorem FB.bare {b : Bool} {s : Shared} (h : FB XG Q b s) : AllBare s.gens := by
  obtain ⟨p, σ, H, I, q⟩ := h
  exact I.bare
theorem FB.kept {b : Bool} {s : Shared} {h' : Heap} (h : FB XG Q b s) (k : ∀ b o, s.heap.get? b = some o → h'.get? b = some o) : FB XG Q b { s with heap := h' } := by
  obtain ⟨p, σ, H, I, q⟩ := h
  exact ⟨p, σ, H, I.un (t' := s.toks) (Un.kept k) (I.hok.kept k), q⟩
theorem GI.bare {i m : Nat} {s : Shared} (h : GI XG fp tn σw W i m s) : AllBare s.gens := by
  obtain ⟨H, I, q⟩ := h
  exact I.bare
theorem GI.gens {i m : Nat} {s s' : Shared} (h : GI XG fp tn σw W i m s) (e : s'.heap = s.heap) (os : s'.os = s.os) (bb : AllBare s'.gens) : GI XG fp tn σw W i m s' := by
  obtain ⟨H, I, t, n, q⟩ := h
  exact ⟨H, inv_gens I e os bb, by rw [e]; exact t, n, q⟩
/-- it stands before its next item -/
def Stands (P : Program) (w : World) (XG : Cx) (fp : List Addr) (tn : Nat → Heap → Prop) (σw : L2.St) (W : Nat → Nat → Hp → Prop) (Q : VK) (stop : Bool) (A : Around) (a : Addr) (g n : Nat) (s : Shared) : Prop :=
  (∃ i m, GI XG fp tn σw W i m s) ∧ ∃ gs, s.gens[g]? = some gs ∧ ∀ s'', Lk s s'' → gs.Goes (model P w) A (fun n s₀ r s₁ => r = .ok .next ∧ genP XG Q stop n s₀ s₁) (genY XG fp tn σw W Q stop) n (.send .none) s''
theorem stands_next {a : Addr} {g n : Nat} {s : Shared} {Qn : Option Value → Shared → Prop} {E : Value → Shared → Prop} (hh : A.handled = none) (hd : A.depth < recursionLimit) (hgen : ∀ s', (∃ pins' σ' H', Inv XG pins' σ' H' s') → s'.heap.IsGen a g) (h : Stands P w XG fp tn σw W Q stop A.in1 a g n s)
    (hdone : ∀ s', FB XG Q (!stop) s' → Qn none s') (hstop : ∀ s', FB XG Q stop s' → Qn (some (.bool stop)) s') (hgo : ∀ m s', n = m + 1 → Stands P w XG fp tn σw W Q stop A.in1 a g m s' → Qn (some (.bool (!stop))) s') :
    wpAny (model P w) A (pyNext (.ref a)) Qn E s := by
  obtain ⟨⟨i, m, gi⟩, gs, hgs, hgo'⟩ := h
  obtain ⟨H, I, st, nf, w⟩ := id gi
  have hgl : g < s.gens.size := (Array.getElem?_eq_some_iff.mp hgs).1
  refine wpAny_pyNext_genexpQ (P := genP XG Q stop) hh I.nolimit hd (hgen s ⟨_, _, _, I⟩) hgs (hgo' _ ⟨rfl, rfl, allBare_setGen I.bare rfl⟩) (fun v s₁ gs' hb hv => ?_) fun s₁ hp h' hk => ?_
  · obtain ⟨c, rfl, hsz, hc⟩ := hv
    have hsz : (s.setGen g .running).gens.size ≤ s₁.gens.size := hsz
    rw [setGen_size] at hsz
    have hg1 : g < s₁.gens.size := Nat.lt_of_lt_of_le hgl hsz
    by_cases e : c = stop
    · rw [if_pos e] at hc
      rw [e]
      exact hstop _ (hc.gens rfl rfl (allBare_setGen hc.bare hb))
    · rw [if_neg e] at hc
      obtain ⟨⟨i', m', gi'⟩, kap⟩ := hc
      have ec : c = !stop := by cases c <;> cases stop <;> simp_all
      rw [ec]
      cases n with
      | zero => exact (kap s₁ ⟨rfl, rfl, gi'.bare⟩).elim
      | succ n => exact hgo n _ rfl ⟨⟨i', m', gi'.gens rfl rfl (allBare_setGen gi'.bare hb)⟩, gs', setGen_at hg1, fun s'' lk => kap s'' ⟨lk.1, lk.2.1, lk.2.2⟩⟩
  · obtain ⟨fb, _⟩ := hp
    exact hdone _ (FB.kept (s := s₁.setGen g .finished) (fb.gens rfl rfl (allBare_setGen fb.bare rfl)) hk)
theorem any_loopG {a : Addr} {g : Nat} (hh : A.handled = none) (hd : A.depth < recursionLimit) (hgen : ∀ s', (∃ pins' σ' H', Inv XG pins' σ' H' s') → s'.heap.IsGen a g) (hR : ∀ b s', FB XG Q b s' → Rr (.ok (.ret (.bool b))) s') :
    ∀ (n : Nat) (s : Shared), Stands P w XG fp tn σw W Q true A.in1.in1 a g n s → codeAny (model P w) A (.builtin "any.loop" ⟨[.ref a], []⟩) Rr s := by
  intro n
  induction n using Nat.strongRecOn with
  | _ n ih =>
  intro s h
  refine codeAny_builtin F.entry_any_loop ?_
  rw [Around.under_plainId F.plain_any_loop _]
  show wpAny _ A.in1 (pyNext (.ref a) >>= _) _ _ s
  refine wpAny_bind (stands_next (A := A.in1) hh hd hgen h (fun s' fb => ?_) (fun s' fb => ?_) fun m s' hm hs' => ?_)
  · exact wpAny_bind (wpAny_rule (wpAny_pure (hR _ _ fb)))
  · refine wpAny_bind (wpAny_holding (wpAny_truthy_bool ?_))
    refine wpAny_bind (wpAny_letGo ?_)
    simp only [if_true]
    exact wpAny_bind (wpAny_rule (wpAny_pure (hR _ _ fb)))
  · refine wpAny_bind (wpAny_holding (wpAny_truthy_bool ?_))
    refine wpAny_bind (wpAny_letGo ?_)
    simp only [Bool.not_true, Bool.false_eq_true, if_false]
    exact wpAny_pure ⟨plainId_quiet F.plain_any_loop _, ih m (by omega) s' hs'⟩
theorem all_loopG {a : Addr} {g : Nat} (hh : A.handled = none) (hd : A.depth < recursionLimit) (hgen : ∀ s', (∃ pins' σ' H', Inv XG pins' σ' H' s') → s'.heap.IsGen a g) (hR : ∀ b s', FB XG Q b s' → Rr (.ok (.ret (.bool b))) s') :
    ∀ (n : Nat) (s : Shared), Stands P w XG fp tn σw W Q false A.in1.in1 a g n s → codeAny (model P w) A (.builtin "all.loop" ⟨[.ref a], []⟩) Rr s := by
  intro n
  induction n using Nat.strongRecOn with
  | _ n ih =>
  intro s h
  refine codeAny_builtin F.entry_all_loop ?_
  rw [Around.under_plainId F.plain_all_loop _]
  show wpAny _ A.in1 (pyNext (.ref a) >>= _) _ _ s
  refine wpAny_bind (stands_next (A := A.in1) hh hd hgen h (fun s' fb => ?_) (fun s' fb => ?_) fun m s' hm hs' => ?_)
  · exact wpAny_bind (wpAny_rule (wpAny_pure (hR _ _ fb)))
  · refine wpAny_bind (wpAny_holding (wpAny_truthy_bool ?_))
    refine wpAny_bind (wpAny_letGo ?_)
    simp only [Bool.false_eq_true, if_false]
    exact wpAny_bind (wpAny_rule (wpAny_pure (hR _ _ fb)))
  · refine wpAny_bind (wpAny_holding (wpAny_truthy_bool ?_))
    refine wpAny_bind (wpAny_letGo ?_)
    simp only [Bool.not_false, if_true]
    exact wpAny_pure ⟨plainId_quiet F.plain_all_loop _, ih m (by omega) s' hs'⟩
end

/-! ### the expression -/
/-- the table at P has grown; the rest stands -/
def TabbedC (P : Addr) (H H' : Hp) : Prop := TabC H' P ∧ ∀ b, b ≠ P → H b ≠ none → H' b = H b
theorem tabbed_hit {P : Addr} {H : Hp} (t : TabC H P) : TabbedC P H H := ⟨t, fun _ _ _ => rfl⟩
/-- one more code object, at c, in the table at P -/
theorem tabbed_new {P c : Addr} {H : Hp} {q : Str} {ps : Array Value} {pos : Pos} (hP : H P = some (.tbl ps)) (ht : TriplesOk ps.toList) (hk : ∀ (pos : Pos) (cv : Value), codeAmong pos ps.toList = some cv → ∃ c q, cv = .ref c ∧ H c = some (LamX.CodeO c q)) (n : H c = none) :
    TabbedC P H (upd (upd H P (.tbl (ps ++ #[rawInt pos.line, rawInt pos.col, .ref c]))) c (LamX.CodeO c q)) := by
  have nP : P ≠ c := ne_of_none hP n
  have eL : (ps ++ #[rawInt pos.line, rawInt pos.col, Value.ref c]).toList = ps.toList ++ [rawInt pos.line, rawInt pos.col, .ref c] := by simp
  refine ⟨⟨_, by rw [upd_ne nP, upd_same], by rw [eL]; exact PySem.TriplesOk_snoc _ _ _ _ ht, fun p cv h => ?_⟩, fun b h1 h2 => ?_⟩
  · rw [eL] at h
    rcases LamX.among_app _ ht h with z | z
    · obtain ⟨c0, q0, e1, e2⟩ := hk p cv z
      have m1 : c0 ≠ c := ne_of_none e2 n
      have m2 : c0 ≠ P := fun z => codeO_tbl (c := c0) (q := q0) ps (Option.some.inj (e2.symm.trans (by rw [z]; exact hP)))
      exact ⟨c0, q0, e1, by rw [upd_ne m1, upd_ne m2]; exact e2⟩
    · exact ⟨c, q, z, upd_same⟩
  · have m : b ≠ c := fun z => h2 (by rw [z]; exact n)
    rw [upd_ne m, upd_ne h1]
/-- any, all (stop: what ends the walk) of elt for tg in iter if ..; behind it the def's table P may have grown -/
def tAnyG (stop : Bool) (P : Addr) (wi : TI) (g : TG) (tt : TT) (te : TE) (vs : List Nat) : TE := fun σ H Q => wi σ H fun J H1 => TabC H1 P ∧ ∀ H2, TabbedC P H1 H2 → ∃ W : Nat → Nat → Hp → Prop, (∃ m, W 0 m H2) ∧ GTurn J g tt te vs (L2.wipe σ vs) W Q stop
section
variable {X : Cx} {pins : List (Addr × Obj)} {σ : L2.St} {H : Hp} {s : Shared} {c P : Addr} {tg iter elt : Expr} {ifs : List Expr} {scope : Scope} {own : List (Str × Nat)} {p pos gpos : Pos} {wi : TI} {g : TG} {tt : TT} {te : TE} {Q : VK} {stop : Bool} {k : Nat}
theorem gen_any {Q' : Value → Shared → Prop} (hr : Room (k + 3) X.A) (TB : GxR.TabB X.base X.mg c P) (hcode : X.env.code = .ref c) (hc : X.calm = true) (hN : X.N.Nodup) (ok : BlkOk X.N X.env.scope scope own) (nc : ∀ y ∈ scope.names, y.2 ≠ .cell)
    (dot : scope.names.lookup (".0" : Str) = some NameKind.local) (hco : scope.isCoroutine = false) (hi : PI X tg iter wi)
    (hg : ∀ (A : Around) (s : Shared) (H : Hp) (C : Addr) (code : Value) (fp : List Addr) (pn : List (Addr × Obj)), Room k (A.deeper (genE X scope C code)) → PG (GX X A s H (genE X scope C code) fp pn) tg g)
    (ht : ∀ (A : Around) (s : Shared) (H : Hp) (C : Addr) (code : Value) (fp : List Addr) (pn : List (Addr × Obj)), Room k (A.deeper (genE X scope C code)) → PTs (GX X A s H (genE X scope C code) fp pn) ifs tt)
    (he : ∀ (A : Around) (s : Shared) (H : Hp) (C : Addr) (code : Value) (fp : List Addr) (pn : List (Addr × Obj)), Room k (A.deeper (genE X scope C code)) → PE (GX X A s H (genE X scope C code) fp pn) elt te)
    (hs : ∀ v, genFold iter X.env v = pure v) (I : Inv X pins σ H s) (h : tAnyG stop P wi g tt te (own.map (·.2)) σ H Q)
    (hQ : ∀ (XG : Cx) (fp : List Addr) (tn : Nat → Heap → Prop) (W : Nat → Nat → Hp → Prop) (a : Addr) (gi n : Nat) (s5 : Shared), (∀ s', (∃ pins' σ' H', Inv XG pins' σ' H' s') → s'.heap.IsGen a gi) → s5.heap.IsGen a gi →
      (∀ b s', FB XG Q b s' → ∃ H', Inv X pins σ H' s' ∧ Q (.bl b) H') → Stands X.prog X.w XG fp tn (L2.wipe σ (own.map (·.2))) W Q stop X.A.in1.in1 a gi n s5 → Q' (.ref a) s5) :
    wpAny (model X.prog X.w) X.A (eval (.GeneratorExp elt [⟨tg, iter, ifs, 0⟩] scope gpos) X.env) Q' X.xe s := by
  have hfree : ∀ y ∈ scope.names, y.2 = .free → ∃ c, X.env.cells.lookup y.1 = some c := fun y hy e => by
    rcases ok.free y hy e with k | k
    · exact I.ok.has _ (.inl k)
    · exact I.ok.has _ (.inr k)
  refine wpAny_GeneratorExp_make hco (closure_ok hfree) nc dot ok.kind (by have := hr.dp; omega) ?_ hs
  refine thn (hi.run pins s σ H _ I h) fun xv s1 hx => thn hx fun itv s2 h2 => ?_
  obtain ⟨it, fp, tn, J, H1, e, I1, T, st2, f2, ⟨ps, hP, htr, hkn⟩, q⟩ := h2
  subst e
  refine ⟨I1.nolimit, ?_⟩
  have hPs : s2.heap.get? P = some { cls := .none, data := .fields ps } := I1.hok P _ hP
  have cd : PySem.W.CodeHd s2.heap c P := TB.code.keeps I1.bk
  have sz : ∀ b ∈ fp, b < s2.heap.objs.size := fun b hb => by
    obtain ⟨o, e, _⟩ := T.obj _ _ st2 b hb
    exact Heap.lt_size e
  have nP : ∀ b ∈ fp, b ≠ P := fun b hb e => by
    have := (f2 b hb).1
    rw [e, hP] at this; cases this
  have cont : ∀ (code : Value) (h3 : Heap) (tk : Nat) (H4 : Hp), Heap.ExtBut P s2.heap h3 → s2.heap.objs.size ≤ h3.objs.size → Inv X pins σ H4 { s2 with heap := h3, toks := tk } → TabbedC P H1 H4 → (∀ b ∈ fp, H4 b = none) →
      wpAny (model X.prog X.w) X.A (builtinsFor X.env.globals X.env.builtins) (fun bi s₄ =>
        ∀ h', h'.Ns s₄.heap.objs.size (fun y => if y = ".0" then some (.ref it) else none) → Heap.SameBut s₄.heap.objs.size (s₄.heap.push { cls := .type "frame", data := .dict #[] }) h' →
          Q' (.ref h'.objs.size) { s₄ with
            gens := s₄.gens.push (.fresh (.compStart (.GeneratorExp elt [⟨tg, iter, ifs, 0⟩] scope gpos) 0 (.ref it) .none (genEnv scope (cloFrom X.env.cells scope.names []) s₄.heap.objs.size code bi X.env))),
            toks := s₄.toks + 1 + 1 + 1,
            heap := h'.push { cls := .type "generator", data := .fields #[.int s₄.gens.size 0, .str "<genexpr>" (s₄.toks + 1), .str (X.env.qual ++ "<genexpr>") (s₄.toks + 1 + 1)] } }) X.xe { s2 with heap := h3, toks := tk } := by
    intro code h3 tk H4 hx hsz I4 hTb nH4
    obtain ⟨bm, ob, e1, e2, e3, e4, e5, e6, e7, e8⟩ := TB.bm
    have keep3 : ∀ b u, b ≠ P → s2.heap.get? b = some u → h3.get? b = some u := fun b u hb e => hx b u hb e
    refine wpAny_builtinsFor (m := X.mg) (by rw [I1.ok.glob]; exact (I1.mod.glob.keeps I1.bk).extBut hx TB.gP) e1 e2 (keep3 _ _ e4 (I1.bk _ _ e5)) e6 e7 e8 ?_
    intro h' hn' hs'
    generalize hs4 : ({ s2 with heap := h3, toks := tk } : Shared) = s4 at I4
    have e4h : s4.heap = h3 := by rw [← hs4]
    have e4g : s4.gens = s2.gens := by rw [← hs4]
    obtain ⟨W, ⟨m0, w0⟩, turn⟩ := q _ hTb
    have f4 : ∀ b ∈ fp, FpOk X pins H4 b ∧ b < s4.heap.objs.size := fun b hb => ⟨⟨nH4 b hb, (f2 b hb).2⟩, by rw [e4h]; exact Nat.lt_of_lt_of_le (sz b hb) hsz⟩
    have hszp : h'.objs.size = h3.objs.size + 1 := by rw [hs'.1, Heap.size_push]
    have keep' : ∀ b o, h3.get? b = some o → h'.get? b = some o := fun b o e => hs'.extBut b o (Nat.ne_of_lt (Heap.lt_size e)) (Heap.get?_push_of_some _ e)
    generalize hs5 : ({ s2 with
            gens := s2.gens.push (.fresh (.compStart (.GeneratorExp elt [⟨tg, iter, ifs, 0⟩] scope gpos) 0 (.ref it) .none (genEnv scope (cloFrom X.env.cells scope.names []) h3.objs.size code builtinsNs X.env))),
            toks := tk + 1 + 1 + 1,
            heap := h'.push { cls := .type "generator", data := .fields #[.int s2.gens.size 0, .str "<genexpr>" (tk + 1), .str (X.env.qual ++ "<genexpr>") (tk + 1 + 1)] } } : Shared) = s5
    have ha5 : s5.heap.get? h'.objs.size = some { cls := .type "generator", data := .fields #[.int s2.gens.size 0, .str "<genexpr>" (tk + 1), .str (X.env.qual ++ "<genexpr>") (tk + 1 + 1)] } := by
      rw [← hs5]; exact Heap.get?_push_size _ rfl
    have k5 : ∀ b o, s4.heap.get? b = some o → s5.heap.get? b = some o := fun b o e => by
      rw [e4h] at e
      rw [← hs5]
      exact Heap.get?_push_of_some _ (keep' b o e)
    have b5 : AllBare s5.gens := by
      rw [← hs5]
      exact AllBare.push I1.bare rfl
    have hgs5 : s5.gens[s2.gens.size]? = some (.fresh (.compStart (.GeneratorExp elt [⟨tg, iter, ifs, 0⟩] scope gpos) 0 (.ref it) .none (genE X scope h3.objs.size code))) := by
      rw [← hs5]; exact Array.getElem?_push_size ..
    have I5 := gen_start (s5 := s5) (A := X.A.in1.in1) (code := code) I4 ok nc hN f4 hr.hd I1.ok.frames (by rw [e4h, ← hs5]; exact hn'.push _) k5 (by rw [← hs5, ← hs4]) b5 ha5 (by rw [e4h]; omega) (fun v z => by cases z)
    rw [e4h] at I5
    have hRm : Room k (X.A.in1.in1.deeper (genE X scope h3.objs.size code)) := ⟨hr.hd, by have := hr.dp; show X.A.depth + 1 + 3 * k + 5 < _; omega, by have := hr.un; show X.A.units + 1 + 1 + 3 + 16 * k + 200 < _; omega⟩
    have g5 : GI (GX X X.A.in1.in1 s4 H4 (genE X scope h3.objs.size code) fp [(h'.objs.size, { cls := .type "generator", data := .fields #[.int s2.gens.size 0, .str "<genexpr>" (tk + 1), .str (X.env.qual ++ "<genexpr>") (tk + 1 + 1)] })]) fp tn (L2.wipe σ (own.map (·.2))) W 0 m0 s5 :=
      ⟨H4, I5, T.keep _ _ _ st2 fun b hb o e => k5 b o (by rw [e4h]; exact keep3 b o (nP b hb) e), nH4, w0⟩
    subst hs5
    subst hs4
    refine hQ _ fp tn W h'.objs.size s2.gens.size (m0 + 1) _ (fun s' hI => ?_) ⟨_, _, _, ha5, rfl, rfl, rfl⟩ (fun b s' hF => ?_) ⟨⟨0, m0, g5⟩, _, hgs5, fun s'' lk => ⟨rfl, ?_⟩⟩
    · obtain ⟨_, _, _, I'⟩ := hI
      exact ⟨_, _, _, (I'.pin _ (List.mem_append_left _ List.mem_cons_self)).1, rfl, rfl, rfl⟩
    · obtain ⟨pins', σ', H', I', q'⟩ := hF
      exact ⟨H', I4.call' (ch := fp) I'.os I'.base I'.hok I'.bare fun b hb => ⟨(f4 b hb).1.2.2.2.1, (f4 b hb).1.2.1, (f4 b hb).1.2.2.2.2.1, (f4 b hb).1.2.2.2.2.2⟩, q'⟩
    · refine gen_begin hc hco T (hg _ _ _ _ _ _ _ hRm) (ht _ _ _ _ _ _ _ hRm) (he _ _ _ _ _ _ _ hRm) (fun b hb p hp => ?_) (fun i v e => (wipe_some e).2) turn (g5.gens lk.1 lk.2.1 lk.2.2)
      cases List.mem_singleton.mp hp
      exact Nat.ne_of_gt (by show b < h'.objs.size; rw [hszp]; exact Nat.lt_succ_of_lt (Nat.lt_of_lt_of_le (sz b hb) hsz))
  cases hf : codeAmong gpos ps.toList with
  | none =>
    refine wpAny_genexprCodeX hcode (cd.code hPs htr) (cd.tab hPs) hf fun c' h' tk hx hge hlt hco' hrc htab' _ => ?_
    have nC : H1 c' = none := I1.hok.fresh hge
    obtain ⟨c2, oc, vs, t, e2, hoc, hd, hv⟩ := hrc
    cases e2
    have I4 := LamX.inv_table (t' := tk) I1 hP (fun b o hb e => hx b o hb e) htab'.2 hge ⟨oc, vs, t, hoc, hd, hv⟩
    refine cont _ h' tk _ hx (Nat.le_trans hge (Nat.le_of_lt hlt)) I4 (tabbed_new hP htr hkn nC) fun b hb => ?_
    have lb := sz b hb
    rw [upd_ne (Nat.ne_of_lt (Nat.lt_of_lt_of_le lb hge)), upd_ne (nP b hb)]
    exact (f2 b hb).1
  | some cv =>
    refine wpAny_genexprCode_hit hcode (cd.code hPs htr) hf ?_
    exact cont cv s2.heap s2.toks H1 (Heap.ExtBut.refl _ _) (Nat.le_refl _) I1 (tabbed_hit ⟨ps, hP, htr, hkn⟩) fun b hb => (f2 b hb).1
theorem pe_anyG (hr : Room (k + 3) X.A) (hgl : Gl X "any") (hm : X.mg "any" = none) (TB : GxR.TabB X.base X.mg c P) (hcode : X.env.code = .ref c) (hc : X.calm = true) (hN : X.N.Nodup) (ok : BlkOk X.N X.env.scope scope own) (nc : ∀ y ∈ scope.names, y.2 ≠ .cell)
    (dot : scope.names.lookup (".0" : Str) = some NameKind.local) (hco : scope.isCoroutine = false) (hi : PI X tg iter wi)
    (hg : ∀ (A : Around) (s : Shared) (H : Hp) (C : Addr) (code : Value) (fp : List Addr) (pn : List (Addr × Obj)), Room k (A.deeper (genE X scope C code)) → PG (GX X A s H (genE X scope C code) fp pn) tg g)
    (ht : ∀ (A : Around) (s : Shared) (H : Hp) (C : Addr) (code : Value) (fp : List Addr) (pn : List (Addr × Obj)), Room k (A.deeper (genE X scope C code)) → PTs (GX X A s H (genE X scope C code) fp pn) ifs tt)
    (he : ∀ (A : Around) (s : Shared) (H : Hp) (C : Addr) (code : Value) (fp : List Addr) (pn : List (Addr × Obj)), Room k (A.deeper (genE X scope C code)) → PE (GX X A s H (genE X scope C code) fp pn) elt te)
    (hs : ∀ v, genFold iter X.env v = pure v)
    (hst : starEach [.GeneratorExp elt [⟨tg, iter, ifs, 0⟩] scope gpos] X.env = (false, eval (.GeneratorExp elt [⟨tg, iter, ifs, 0⟩] scope gpos) X.env) :: starEach [] X.env := by rfl) :
    PE X (.Call (.Name "any" p) [.GeneratorExp elt [⟨tg, iter, ifs, 0⟩] scope gpos] [] pos) (tAnyG true P wi g tt te (own.map (·.2))) := by
  refine ⟨fun pins s σ H Q I h => ?_⟩
  refine wpAny_Call_Name_kw (ld_blt I hgl hm boot_any ?_)
  refine PyProof.Rows.callWith_builtin1 ?_ hst (by rfl)
  rw [hst]
  show wpAny _ _ (spliced ((false, eval (.GeneratorExp elt [⟨tg, iter, ifs, 0⟩] scope gpos) X.env) :: backTo pos (starEach [] X.env))) _ _ s
  refine Calls.spliced_cons (gen_any hr TB hcode hc hN ok nc dot hco hi hg ht he hs I h fun XG fp tn W a gi n s5 hgen hg5 back st => ?_)
  refine Calls.spliced_nil ?_
  refine call_function_tree F.kind_any F.plain_any F.entry_any (F.args_any1 _) ?_
  unfold Builtin.«any»
  refine wpAny_bind (m := oneArg "any" _) (wpAny_pure ?_)
  refine wpAny_bind (wpAny_pyIter_gen hg5 ?_)
  refine wpAny_pure ⟨plainId_quiet F.plain_any_loop _, any_loopG (A := X.A) hr.hd (by have := hr.dp; omega) hgen (fun b s' hF => ?_) n s5 st⟩
  obtain ⟨H', I', q⟩ := back b s' hF
  exact ⟨.bl b, H', I', rfl, q⟩
theorem pe_allG (hr : Room (k + 3) X.A) (hgl : Gl X "all") (hm : X.mg "all" = none) (hb : bootBuiltins "all" = some (.builtin "all")) (TB : GxR.TabB X.base X.mg c P) (hcode : X.env.code = .ref c) (hc : X.calm = true) (hN : X.N.Nodup) (ok : BlkOk X.N X.env.scope scope own) (nc : ∀ y ∈ scope.names, y.2 ≠ .cell)
    (dot : scope.names.lookup (".0" : Str) = some NameKind.local) (hco : scope.isCoroutine = false) (hi : PI X tg iter wi)
    (hg : ∀ (A : Around) (s : Shared) (H : Hp) (C : Addr) (code : Value) (fp : List Addr) (pn : List (Addr × Obj)), Room k (A.deeper (genE X scope C code)) → PG (GX X A s H (genE X scope C code) fp pn) tg g)
    (ht : ∀ (A : Around) (s : Shared) (H : Hp) (C : Addr) (code : Value) (fp : List Addr) (pn : List (Addr × Obj)), Room k (A.deeper (genE X scope C code)) → PTs (GX X A s H (genE X scope C code) fp pn) ifs tt)
    (he : ∀ (A : Around) (s : Shared) (H : Hp) (C : Addr) (code : Value) (fp : List Addr) (pn : List (Addr × Obj)), Room k (A.deeper (genE X scope C code)) → PE (GX X A s H (genE X scope C code) fp pn) elt te)
    (hs : ∀ v, genFold iter X.env v = pure v)
    (hst : starEach [.GeneratorExp elt [⟨tg, iter, ifs, 0⟩] scope gpos] X.env = (false, eval (.GeneratorExp elt [⟨tg, iter, ifs, 0⟩] scope gpos) X.env) :: starEach [] X.env := by rfl) :
    PE X (.Call (.Name "all" p) [.GeneratorExp elt [⟨tg, iter, ifs, 0⟩] scope gpos] [] pos) (tAnyG false P wi g tt te (own.map (·.2))) := by
  refine ⟨fun pins s σ H Q I h => ?_⟩
  refine wpAny_Call_Name_kw (ld_blt I hgl hm hb ?_)
  refine PyProof.Rows.callWith_builtin1 ?_ hst (by rfl)
  rw [hst]
  show wpAny _ _ (spliced ((false, eval (.GeneratorExp elt [⟨tg, iter, ifs, 0⟩] scope gpos) X.env) :: backTo pos (starEach [] X.env))) _ _ s
  refine Calls.spliced_cons (gen_any hr TB hcode hc hN ok nc dot hco hi hg ht he hs I h fun XG fp tn W a gi n s5 hgen hg5 back st => ?_)
  refine Calls.spliced_nil ?_
  refine call_function_tree F.kind_all F.plain_all F.entry_all (F.args_all1 _) ?_
  unfold Builtin.«all»
  refine wpAny_bind (m := oneArg "all" _) (wpAny_pure ?_)
  refine wpAny_bind (wpAny_pyIter_gen hg5 ?_)
  refine wpAny_pure ⟨plainId_quiet F.plain_all_loop _, all_loopG (A := X.A) hr.hd (by have := hr.dp; omega) hgen (fun b s' hF => ?_) n s5 st⟩
  obtain ⟨H', I', q⟩ := back b s' hF
  exact ⟨.bl b, H', I', rfl, q⟩
end
end PD

set_option Elab.async false
set_option linter.all false
set_option maxRecDepth 100000
set_option maxHeartbeats 1000000
namespace PD
open PySem PySem.Spec PyProof.Rows L2

def anyGo (stop : Bool) (t : Tg) (ft : DnB) (fe : Dn) (ρ : Rho) : List PyData → R Bool
  | [] => .ok (!stop)
  | d :: ds => match t.set d ρ with
    | some ρ1 => nx (ft ρ1) fun b => if b = true then nx (fe ρ1) fun y => match y with
        | .bool c => if c = stop then .ok stop else anyGo stop t ft fe ρ ds
        | _ => .bad
      else anyGo stop t ft fe ρ ds
    | none => .bad
def dAnyG (stop : Bool) (fi : DnL) (t : Tg) (ft : DnB) (fe : Dn) (vs : List Nat) : Dn := fun ρ => fi ρ >>= fun ds => nx (anyGo stop t ft fe (wipeR ρ vs) ds) fun b => .ok (.bool b)
theorem Ext.tabbed {P : Addr} {H H' : Hp} (t : TabC H P) (h : TabbedC P H H') : Ext H H' where
  keep := fun b o e n => by
    have hb : b ≠ P := fun z => by
      obtain ⟨ps, q, _⟩ := t
      rw [z, q] at e
      exact n ps (Option.some.inj e).symm
    rw [h.2 b hb (by rw [e]; simp)]; exact e
  tab := fun b q => by
    by_cases hb : b = P
    · rw [hb]; exact h.1
    · refine q.mono (fun ps e => by rw [h.2 b hb (by rw [e]; simp)]; exact e) fun c n e => ?_
      have hc : c ≠ P := fun z => by
        obtain ⟨ps, g, _⟩ := t
        rw [z, g] at e
        exact codeO_tbl ps (Option.some.inj e).symm
      rw [h.2 c hc (by rw [e]; simp)]; exact e
  al := fun b e => by
    by_cases hb : b = P
    · obtain ⟨ps, q, _⟩ := h.1
      rw [hb, q]; simp
    · rw [h.2 b hb e]; exact e
section
variable {X : Cx} {Tb : List Addr} {W : WX}
theorem any_walk {K : PySem.W.Frag} {stop : Bool} {P : Addr} {t : Tg} {ft : DnB} {fe : Dn} {fi : DnL} {vs : List Nat} {σ : L2.St} {H : Hp} {Q : VK} (hP : P ∈ Tb) (hv : ∀ i ∈ t.ixs, i ∈ vs) (h : tD K Tb W (dAnyG stop fi t ft fe vs) σ H Q) :
    tAnyG stop P (tI K Tb W fi) (tG K Tb t) (tDT K Tb W0 ft) (tD K Tb W0 fe) vs σ H Q := by
  obtain ⟨H0, O0, O, ρ, st, h⟩ := h
  refine ⟨H0, O0, O, ρ, st, Post.then h fun ds J H1 e it k => ?_⟩
  cases q : anyGo stop t ft fe (wipeR ρ vs) ds with
  | exc x => rw [q] at k; exact k.elim
  | bad => rw [q] at k; exact k.elim
  | ok res =>
    rw [q] at k
    have st1 := st.step e
    refine ⟨st1.tab P hP, fun H2 tb => ?_⟩
    have e12 : Ext H1 H2 := Ext.tabbed (st1.tab P hP) tb
    have stw := (st1.step e12).wiped vs
    refine ⟨fun i m H' => i ≤ ds.length ∧ m = ds.length - i ∧ St0 K Tb H0 O0 O H' (L2.wipe σ vs) (wipeR ρ vs) ∧ Ext H1 H' ∧ anyGo stop t ft fe (wipeR ρ vs) (ds.drop i) = .ok res,
      ⟨ds.length, Nat.zero_le _, by simp, stw, e12, q⟩, ?_⟩
    rintro i m H' ⟨hi, rfl, s1, e1, go⟩
    have nO : ∀ b ∈ O, hide O H1 b = none := fun b hb => hide_in hb
    have eG : Ext (hide O H1) H' := Ext.unhide.trans e1
    by_cases hlt : i < ds.length
    · refine .inr ⟨it.go i H' eG hlt, fun H2 => i + 1 ≤ ds.length ∧ St0 K Tb H0 O0 O H2 (L2.wipe σ vs) (wipeR ρ vs) ∧ Ext H1 H2 ∧ anyGo stop t ft fe (wipeR ρ vs) (ds.drop (i + 1)) = .ok res,
        fun H2 q => ⟨ds.length - (i + 1), by omega, q.1, rfl, q.2⟩, fun x H2 y => ?_⟩
      obtain ⟨e2, d, hd, rx⟩ := it.yld i H' O x H2 eG nO s1.al hlt y
      have hdr : ds.drop i = d :: ds.drop (i + 1) := by
        obtain ⟨hl, hd'⟩ := List.getElem?_eq_some_iff.mp hd
        rw [List.drop_eq_getElem_cons hl, hd']
      rw [hdr] at go
      unfold anyGo at go
      cases et : t.set d (wipeR ρ vs) with
      | none => rw [et] at go; cases go
      | some ρ1 =>
        rw [et] at go
        obtain ⟨b, eb, go⟩ := nx_ok go
        have s2 := s1.step e2
        refine ⟨H0, O0, O, wipeR ρ vs, ρ1, d, s2, rx, et, fun σ' st' ag => ⟨(ag.wipe hv).trans wipe_wipe, H0, O0, O, ρ1, st', ?_⟩⟩
        rw [eb]
        intro b' H3 e3 r3
        cases (show b' = b from r3)
        have s3 := st'.step e3
        cases b with
        | false => exact ⟨hlt, s2.step e3, (e1.trans e2).trans e3, go⟩
        | true =>
          obtain ⟨yd, ey1, go⟩ := nx_ok go
          refine ⟨H0, O0, O, ρ1, s3, ?_⟩
          rw [ey1]
          intro y H4 e4 r4
          have e14 := ((e1.trans e2).trans e3).trans e4
          cases yd with
          | bool c =>
            have r4 : Rp K (hide O H4) y (.bool c) := r4
            cases r4
            refine ⟨c, rfl, ?_⟩
            have go : (if c = stop then R.ok stop else anyGo stop t ft fe (wipeR ρ vs) (ds.drop (i + 1))) = .ok res := go
            by_cases hc : c = stop
            · rw [if_pos hc] at go ⊢
              cases go
              exact k (.bl stop) H4 e14 (.bl _)
            · rw [if_neg hc] at go ⊢
              exact ⟨hlt, (s2.step e3).step e4, e14, go⟩
          | none => cases go
          | int _ => cases go
          | str _ => cases go
          | list _ => cases go
          | tuple _ => cases go
          | dict _ => cases go
    · have ei : i = ds.length := by omega
      subst ei
      refine .inl ⟨it.stop H' eG, ?_⟩
      rw [List.drop_length] at go
      cases go
      exact k (.bl _) H' e1 (.bl _)
variable {c P : Addr} {tg iter elt : Expr} {ifs : List Expr} {scope : Scope} {own : List (Str × Nat)} {p pos gpos : Pos} {stop : Bool} {k : Nat} {t : Tg} {ft : DnB} {fe : Dn} {fi : DnL}
/-- the blocks' contexts -/
abbrev GXs (X : Cx) (scope : Scope) (k : Nat) (Pr : Cx → Prop) : Prop := ∀ (A : Around) (s : Shared) (H : Hp) (C : Addr) (code : Value) (fp : List Addr) (pn : List (Addr × Obj)), Room k (A.deeper (genE X scope C code)) → Pr (GX X A s H (genE X scope C code) fp pn)
/-- any(e for t in i if c), all(..) -/
theorem fd_any (hr : Room (k + 3) X.A) (hP : P ∈ Tb) (TB : GxR.TabB X.base X.mg c P) (hcode : X.env.code = .ref c) (hc : X.calm = true) (hN : X.N.Nodup) (ok : BlkOk X.N X.env.scope scope own) (hi : PI X tg iter (tI X.K Tb W fi))
    (hg : GXs X scope k fun Y => PG Y tg (tG Y.K Tb t)) (ht : GXs X scope k fun Y => PTs Y ifs (tDT Y.K Tb W0 ft)) (he : GXs X scope k fun Y => PE Y elt (tD Y.K Tb W0 fe))
    (hgl : Gl X "any") (hm : X.mg "any" = none)
    (nc : ∀ y ∈ scope.names, y.2 ≠ .cell := by decide) (dot : scope.names.lookup (".0" : Str) = some NameKind.local := by decide) (hco : scope.isCoroutine = false := by rfl) (hv : ∀ i ∈ t.ixs, i ∈ own.map (·.2) := by decide) (hs : ∀ v, genFold iter X.env v = pure v := by intro _; rfl)
    (hst : starEach [.GeneratorExp elt [⟨tg, iter, ifs, 0⟩] scope gpos] X.env = (false, eval (.GeneratorExp elt [⟨tg, iter, ifs, 0⟩] scope gpos) X.env) :: starEach [] X.env := by rfl) :
    PE X (.Call (.Name "any" p) [.GeneratorExp elt [⟨tg, iter, ifs, 0⟩] scope gpos] [] pos) (tD X.K Tb W (dAnyG true fi t ft fe (own.map (·.2)))) :=
  (pe_anyG hr hgl hm TB hcode hc hN ok nc dot hco hi hg ht he hs hst).by fun σ H Q h => any_walk hP hv h
theorem fd_all (hr : Room (k + 3) X.A) (hP : P ∈ Tb) (TB : GxR.TabB X.base X.mg c P) (hcode : X.env.code = .ref c) (hc : X.calm = true) (hN : X.N.Nodup) (ok : BlkOk X.N X.env.scope scope own) (hi : PI X tg iter (tI X.K Tb W fi))
    (hg : GXs X scope k fun Y => PG Y tg (tG Y.K Tb t)) (ht : GXs X scope k fun Y => PTs Y ifs (tDT Y.K Tb W0 ft)) (he : GXs X scope k fun Y => PE Y elt (tD Y.K Tb W0 fe))
    (hgl : Gl X "all") (hm : X.mg "all" = none) (hb : bootBuiltins "all" = some (.builtin "all") := by rfl)
    (nc : ∀ y ∈ scope.names, y.2 ≠ .cell := by decide) (dot : scope.names.lookup (".0" : Str) = some NameKind.local := by decide) (hco : scope.isCoroutine = false := by rfl) (hv : ∀ i ∈ t.ixs, i ∈ own.map (·.2) := by decide) (hs : ∀ v, genFold iter X.env v = pure v := by intro _; rfl)
    (hst : starEach [.GeneratorExp elt [⟨tg, iter, ifs, 0⟩] scope gpos] X.env = (false, eval (.GeneratorExp elt [⟨tg, iter, ifs, 0⟩] scope gpos) X.env) :: starEach [] X.env := by rfl) :
    PE X (.Call (.Name "all" p) [.GeneratorExp elt [⟨tg, iter, ifs, 0⟩] scope gpos] [] pos) (tD X.K Tb W (dAnyG false fi t ft fe (own.map (·.2)))) :=
  (pe_allG hr hgl hm hb TB hcode hc hN ok nc dot hco hi hg ht he hs hst).by fun σ H Q h => any_walk hP hv h
end

/-! ### a def whose code object is known -/
structure FunC (K : PySem.W.Frag) (x qual : Str) (st : Stmt) (f : Addr) (fd : FuncData) (c : Addr) : Prop where
  ex : ∃ (oc : Value) (od : Option Addr) (kV doc pm : Value) (an : Option Addr) (ct : Value) (osl : Array (Option Value)),
    fd = PySem.W.fnOf x qual (defArgs st) (defBody st) (defScope st) .none kV doc pm an (.ref c) ct ∧ K.lookup f = some ⟨oc, od, .func fd, osl⟩ ∧ PySem.W.codeIn K (.ref c) qual = true
  kp : PySem.W.keepIn K (.ref f) = true
theorem FunC.fun {K : PySem.W.Frag} {x qual : Str} {st : Stmt} {f : Addr} {fd : FuncData} {c : Addr} (F : FunC K x qual st f fd c) : Fun K x qual st f fd := by
  obtain ⟨⟨oc, od, kV, doc, pm, an, ct, osl, e1, e2, e3⟩, kp⟩ := F
  exact ⟨⟨oc, od, kV, doc, pm, an, _, ct, osl, e1, e2, e3⟩, kp⟩
section
variable {P : Program} {w : World} {K : PySem.W.Frag} {mg : Str → Option Value} {base : Heap} {Tb : List Addr}
theorem fn_okC {x qual : Str} {st : Stmt} {f c : Addr} {fd : FuncData} {N ps : List Str} {k : Nat} {g : Sn} (F : FunC K x qual st f fd c) (S : FnScope N ps (defScope st))
    (hb : ∀ (A : Around) (outer : List Env) (s : Shared) (H : Hp) (E : XK), Room k (A.deeper (envOfC qual (defScope st) s.heap.objs.size f (.ref c))) →
      PSs (cxOf (L2N.CX P w) P w K mg base N qual (defScope st) f (.ref c) A outer s H E) (defBody st) (tS K Tb (WE E) g)) :
    FnOk P w K mg base (L2N.CX P w) (k + 1) f fd ps (spD K Tb (runD N.length ps.length g)) := by
  obtain ⟨⟨oc, od, kV, doc, pm, an, ct, osl, rfl, lk, hcd⟩, kp⟩ := F
  refine fn_of lk hcd S (fun vs H Q E h => ?_) fun A outer s H vs Q E hr h => ⟨_, hb A outer s H E hr, ?_⟩
  · obtain ⟨O, ds, al, tb, r, h⟩ := h
    unfold runD at h
    split at h
    · rename_i e
      rw [r.length]; exact e
    · exact h.elim
  · obtain ⟨O, ds, al, tb, r, h⟩ := h
    unfold runD at h
    split at h
    · rename_i e
      have st := St0.init (N.length - ds.length) al tb r
      refine ⟨H, O, O, startR N.length ds, ?_, ?_⟩
      · unfold L2.start startR
        rw [r.length]
        exact st
      · cases q : g (startR N.length ds) with
        | nx ρ => rw [q] at h; exact fun O' σ' H' st' => h .non H' st'.ext .non
        | rt d => rw [q] at h; exact fun v H' e' r' => h v H' e' r'
        | exc x ρ => rw [q] at h; exact fun O' σ' H' c d st' ex => h c d H' st'.ext (by
            obtain ⟨h1, h2⟩ := ex
            refine ⟨h1, ?_⟩
            rcases h2 with h2 | ⟨dd, fs, h3, h4, h5, h6⟩
            · exact .inl h2
            · exact .inr ⟨dd, fs, h3, h4, h5, h6.mono (Sub.less st'.sub)⟩)
        | bk ρ => rw [q] at h; exact h.elim
        | ct ρ => rw [q] at h; exact h.elim
        | bad => rw [q] at h; exact h.elim
    · exact h.elim
end
end PD

set_option Elab.async false
set_option linter.all false
set_option maxRecDepth 100000
set_option maxHeartbeats 1000000
namespace PD
open PySem PySem.Spec PyProof.Rows L2

/-! ### methods of own lists -/
def gPopAt (i : Nat) (f : Dn) : Sn := fun ρ => ownAt ρ i fun ds => oR (f ρ) ρ fun d => match d with
  | .int k => match seqIndex? k ds.length with
    | some j => if -(2 ^ 63) ≤ k ∧ k < 2 ^ 63 ∧ j < ds.length then .nx (ρ.set i (some (.own (ds.eraseIdx j)))) else .bad
    | none => .bad
  | _ => .bad
def gPop (i : Nat) : Sn := fun ρ => ownAt ρ i fun ds => if ds = [] then .bad else .nx (ρ.set i (some (.own ds.dropLast)))
def gRev (i : Nat) : Sn := fun ρ => ownAt ρ i fun ds => .nx (ρ.set i (some (.own ds.reverse)))
theorem RpAll.dropLast {K : PySem.W.Frag} {G : Hp} {vs : List V} {ds : List PyData} (h : RpAll K G vs ds) : RpAll K G vs.dropLast ds.dropLast := by
  rw [List.dropLast_eq_take, List.dropLast_eq_take, h.length]
  exact h.take _
theorem RpAll.last {K : PySem.W.Frag} {G : Hp} {vs : List V} {ds : List PyData} (h : RpAll K G vs ds) (n : ds ≠ []) : ∃ y d, vs[vs.length - 1]? = some y ∧ ds[ds.length - 1]? = some d ∧ Rp K G y d := by
  have hl : 0 < ds.length := List.length_pos_iff.mpr n
  obtain ⟨y, h1, h2⟩ := h.get' (i := ds.length - 1) (d := ds[ds.length - 1]) (List.getElem?_eq_getElem _)
  exact ⟨y, _, by rw [h.length]; exact h1, List.getElem?_eq_getElem _, h2⟩
section
variable {X : Cx} {Tb : List Addr} {W : WX} {e : Expr} {es : List Expr} {f : Dn} {gl : DnL} {pos p : Pos} {x : Str}
theorem fs_popAt {i : Nat} {apos npos cpos : Pos} (ho : X.N[i]? = some x) (hv : Vis X.env.scope x) (hd : (x == ("__debug__" : Str)) = false) (hcd : (x == ("__classdict__" : Str)) = false) (ha : PE X e (tD X.K Tb W f))
    (hse : starEach [e] X.env = (false, eval e X.env) :: starEach [] X.env) (hbase : attributeBase (.Name x npos) "pop" X.env (eval (.Name x npos) X.env) = eval (.Name x npos) X.env)
    (hfew : ((backTo cpos (starEach [e] X.env)).all (fun x => !x.1) && (backToKw cpos (keywordEach [] X.env)).all (fun x => x.1.isSome)
      && decide (([e] : List Expr).length + ([] : List Keyword).length + (if ([] : List Keyword).isEmpty then 0 else 1) < 30)) = true)
    (hline : (apos.endLine == cpos.line) = true) (hplain : (backTo cpos (starEach [] X.env)).any (·.1) = false)
    (hs : swapsWith (.Call (.Attribute (.Name x npos) "pop" apos) [e] [] cpos) none pos.line X.env = pure false) :
    PS X (.Expr (.Call (.Attribute (.Name x npos) "pop" apos) [e] [] cpos) pos) (tS X.K Tb W (gPopAt i f)) :=
  (ps_expr (pe_bm PySem.F.plainAttrs_list PySem.F.slot_list_pop PySem.F.type_list_pop mt_popAt (pe_var ho hv hd hcd) (pa_cons ha pa_nil hse) hbase hfew hline hse hplain) hs).by fun D σ H ⟨H0, O0, O, ρ, st, h⟩ => by
    obtain ⟨ds, p, vs, e1, e2, hp, z, r, h⟩ := own_at st h
    refine ⟨.ref p, e2, .inl ⟨rfl, vs, .of hp⟩, H0, O0, O, ρ, st, oR_post st h fun d v H1 ex rv k => ?_⟩
    split at k
    · rename_i kk
      cases rv
      split at k
      · rename_i j hj
        split at k
        · rename_i hl
          obtain ⟨y, hy, _⟩ := r.get' (List.getElem?_eq_getElem hl.2.2)
          refine ⟨p, vs, kk, j, y, rfl, rfl, ex.keep p _ hp (fun _ q => by cases q), hl.1, hl.2.1, by rw [r.length]; exact hj, hy, k O σ _ ((st.step ex).ownSet e1 e2 ?_ ?_)⟩
          · exact Nat.le_trans (List.length_eraseIdx_le _ _) z
          · exact (r.mono (Sub.hide ex.keep)).erase j
        · exact k.elim
      · exact k.elim
    · exact k.elim
theorem fs_pop {i : Nat} {apos npos cpos : Pos} (ho : X.N[i]? = some x) (hv : Vis X.env.scope x) (hd : (x == ("__debug__" : Str)) = false) (hcd : (x == ("__classdict__" : Str)) = false)
    (hbase : attributeBase (.Name x npos) "pop" X.env (eval (.Name x npos) X.env) = eval (.Name x npos) X.env) (hline : (apos.endLine == cpos.line) = true)
    (hs : swapsWith (.Call (.Attribute (.Name x npos) "pop" apos) [] [] cpos) none pos.line X.env = pure false) :
    PS X (.Expr (.Call (.Attribute (.Name x npos) "pop" apos) [] [] cpos) pos) (tS X.K Tb W (gPop i)) :=
  (ps_expr (pe_bm0 PySem.F.plainAttrs_list PySem.F.slot_list_pop PySem.F.type_list_pop mt_pop (pe_var ho hv hd hcd) hbase hline) hs).by fun D σ H ⟨H0, O0, O, ρ, st, h⟩ => by
    obtain ⟨ds, p, vs, e1, e2, hp, z, r, h⟩ := own_at st h
    split at h
    · exact h.elim
    · rename_i n
      obtain ⟨y, d, hy, _, _⟩ := r.last n
      refine ⟨.ref p, e2, .inl ⟨rfl, vs, .of hp⟩, p, vs, y, rfl, rfl, hp, hy, h O σ _ (st.ownSet e1 e2 ?_ r.dropLast)⟩
      rw [List.length_dropLast]; omega
theorem fs_rev {i : Nat} {apos npos cpos : Pos} (ho : X.N[i]? = some x) (hv : Vis X.env.scope x) (hd : (x == ("__debug__" : Str)) = false) (hcd : (x == ("__classdict__" : Str)) = false)
    (hbase : attributeBase (.Name x npos) "reverse" X.env (eval (.Name x npos) X.env) = eval (.Name x npos) X.env) (hline : (apos.endLine == cpos.line) = true)
    (hs : swapsWith (.Call (.Attribute (.Name x npos) "reverse" apos) [] [] cpos) none pos.line X.env = pure false) :
    PS X (.Expr (.Call (.Attribute (.Name x npos) "reverse" apos) [] [] cpos) pos) (tS X.K Tb W (gRev i)) :=
  (ps_expr (pe_bm0 PySem.F.plainAttrs_list PySem.F.slot_list_reverse PySem.F.type_list_reverse mt_reverse (pe_var ho hv hd hcd) hbase hline) hs).by fun D σ H ⟨H0, O0, O, ρ, st, h⟩ => by
    obtain ⟨ds, p, vs, e1, e2, hp, z, r, h⟩ := own_at st h
    refine ⟨.ref p, e2, .inl ⟨rfl, vs, .of hp⟩, p, vs, rfl, rfl, hp, h O σ _ (st.ownSet e1 e2 ?_ r.reverse)⟩
    rw [List.length_reverse]; exact z
end

/-! ### list(range(..)), tuple(range(..)) -/
def lstRg (lo hi : Int) : List PyData := (List.range (hi - lo).toNat).map fun i => .int (lo + (i : Nat))
def rgOk (a b : Int) : Bool := decide (-(2 ^ 62) ≤ a ∧ a < 2 ^ 62 ∧ -(2 ^ 62) ≤ b ∧ b < 2 ^ 62 ∧ (b - a).toNat ≤ 2 ^ 24)
def bLstR1 : PyData → R PyData
  | .int n => if rgOk 0 n = true then .ok (.list (lstRg 0 n)) else .bad
  | _ => .bad
def bLstR2 : PyData → PyData → R PyData
  | .int a, .int b => if rgOk a b = true then .ok (.list (lstRg a b)) else .bad
  | _, _ => .bad
theorem rgOk_ok {a b : Int} (h : rgOk a b = true) : RgOk a b := by
  have h := of_decide_eq_true (p := -(2 ^ 62) ≤ a ∧ a < 2 ^ 62 ∧ -(2 ^ 62) ≤ b ∧ b < 2 ^ 62 ∧ (b - a).toNat ≤ 2 ^ 24) h
  exact h
theorem rp_rg {K : PySem.W.Frag} {G : Hp} (a b : Int) : RpAll K G (rgV a b) (lstRg a b) := by
  unfold rgV lstRg
  induction List.range (b - a).toNat with
  | nil => exact .nil
  | cons i r ih => exact .cons (.int _) ih
theorem lstRg_len (a b : Int) (h : rgOk a b = true) : (lstRg a b).length ≤ sizeLine := by
  unfold lstRg
  rw [List.length_map, List.length_range, sizeLine_eq]
  have := of_decide_eq_true h
  omega
section
variable {X : Cx} {Tb : List Addr} {W : WX} {a b : Expr} {f g : Dn} {pos p p2 pos2 : Pos}
theorem fd_lstR1 (hc : X.calm = true) (hl : Gl X "list") (ml : X.mg "list" = none) (hr : Gl X "range") (mr : X.mg "range" = none) (ha : PE X a (tD X.K Tb W f))
    (n1 : starEach [a] X.env = (false, eval a X.env) :: starEach [] X.env := by rfl) (n2 : starEach [.Call (.Name "range" p2) [a] [] pos2] X.env = (false, eval (.Call (.Name "range" p2) [a] [] pos2) X.env) :: starEach [] X.env := by rfl) :
    PE X (.Call (.Name "list" p) [.Call (.Name "range" p2) [a] [] pos2] [] pos) (tD X.K Tb W (dOne bLstR1 f)) :=
  (pe_listRg hc hl ml (prg_1 hr mr ha n1) n2).by fun σ H Q ⟨H0, O0, O, ρ, st, h⟩ => ⟨H0, O0, O, ρ, st, by
    refine Post.then h fun d v H1 ex rv k => ?_
    unfold bLstR1 at k
    split at k
    · rename_i n
      cases rv
      split at k
      · rename_i z
        refine ⟨n, rfl, rgOk_ok z, fun q hq => ?_⟩
        have al := (st.step ex).al
        refine k _ _ (Ext.new hq) (.lst (.of ?_) (lstRg_len _ _ z) (rp_rg _ _))
        rw [hide_out (fun m => al q m hq)]
        exact upd_same
      · exact k.elim
    · exact k.elim⟩
theorem fn_lstR1 (hc : X.calm = true) (hl : Gl X "list") (ml : X.mg "list" = none) (hr : Gl X "range") (mr : X.mg "range" = none) (ha : PE X a (tD X.K Tb W f))
    (n1 : starEach [a] X.env = (false, eval a X.env) :: starEach [] X.env := by rfl) (n2 : starEach [.Call (.Name "range" p2) [a] [] pos2] X.env = (false, eval (.Call (.Name "range" p2) [a] [] pos2) X.env) :: starEach [] X.env := by rfl) :
    PE X (.Call (.Name "list" p) [.Call (.Name "range" p2) [a] [] pos2] [] pos) (tN X.K Tb W (dOne bLstR1 f)) :=
  (pe_listRg hc hl ml (prg_1 hr mr ha n1) n2).by fun σ H Q ⟨H0, O0, O, ρ, st, h⟩ => ⟨H0, O0, O, ρ, st, by
    refine tN_of (x := f ρ) (u := bLstR1) h (fun a e q => by unfold bLstR1 at q; split at q <;> (try split at q) <;> cases q) fun d v H1 ex rv ds' e k => ?_
    unfold bLstR1 at e
    split at e
    · rename_i n
      cases rv
      split at e
      · rename_i z
        cases e
        exact ⟨n, rfl, rgOk_ok z, fun q hq => k q _ _ (Ext.new hq) hq upd_same (lstRg_len _ _ z) (rp_rg _ _)⟩
      · cases e
    · cases e⟩
theorem fd_lstR2 (hc : X.calm = true) (hl : Gl X "list") (ml : X.mg "list" = none) (hr : Gl X "range") (mr : X.mg "range" = none) (ha : PE X a (tD X.K Tb W f)) (hb : PE X b (tD X.K Tb W g))
    (n1 : starEach [a, b] X.env = (false, eval a X.env) :: starEach [b] X.env := by rfl) (n3 : starEach [b] X.env = (false, eval b X.env) :: starEach [] X.env := by rfl) (n4 : (backTo pos2 (starEach [b] X.env)).any (·.1) = false := by rfl)
    (n2 : starEach [.Call (.Name "range" p2) [a, b] [] pos2] X.env = (false, eval (.Call (.Name "range" p2) [a, b] [] pos2) X.env) :: starEach [] X.env := by rfl) :
    PE X (.Call (.Name "list" p) [.Call (.Name "range" p2) [a, b] [] pos2] [] pos) (tD X.K Tb W (dTwo bLstR2 f g)) :=
  (pe_listRg hc hl ml (prg_2 hr mr ha hb n1 n3 n4) n2).by fun σ H Q ⟨H0, O0, O, ρ, st, h⟩ => ⟨H0, O0, O, ρ, st, by
    refine Post.then h fun d v H1 ex rv k => ⟨H0, O0, O, ρ, st.step ex, ?_⟩
    refine Post.then k fun d2 v2 H2 ex2 rv2 k => ?_
    have rw' := rv.mono (Sub.hide ex2.keep)
    clear rv
    unfold bLstR2 at k
    split at k
    · cases rw'; cases rv2
      split at k
      · rename_i z
        refine ⟨_, _, rfl, rfl, rgOk_ok z, fun q hq => ?_⟩
        have al := ((st.step ex).step ex2).al
        refine k _ _ (Ext.new hq) (.lst (.of ?_) (lstRg_len _ _ z) (rp_rg _ _))
        rw [hide_out (fun m => al q m hq)]
        exact upd_same
      · exact k.elim
    · exact k.elim⟩
end

/-! ### x += e, ints -/
def oAddI : PyData → PyData → R PyData
  | .int a, .int b => .ok (.int (a + b))
  | _, _ => .bad
section
variable {X : Cx} {Tb : List Addr} {W : WX} {e : Expr} {f : Dn} {pos p : Pos} {x : Str}
def gAug (i : Nat) (f : Dn) : Sn := fun ρ => oR (dVar i ρ) ρ fun a => oR (f ρ) ρ fun d => oR (oAddI a d) ρ fun d => .nx (ρ.set i (some (.d d)))
end
end PD

set_option Elab.async false
set_option linter.all false
set_option maxRecDepth 100000
set_option maxHeartbeats 1000000
namespace PD
open PySem PySem.Spec PyProof.Rows L2

/-- the module hides none of the names that Python gives -/
structure Bi (mg : Str → Option Value) : Prop where
  len : mg "len" = none
  int : mg "int" = none
  bool : mg "bool" = none
  abs : mg "abs" = none
  tuple : mg "tuple" = none
  list : mg "list" = none
  sum : mg "sum" = none
  max : mg "max" = none
  min : mg "min" = none
  any : mg "any" = none
  all : mg "all" = none
  range : mg "range" = none
  isinstance : mg "isinstance" = none
  sorted : mg "sorted" = none
  enumerate : mg "enumerate" = none
  zip : mg "zip" = none
  set : mg "set" = none
section
variable {X : Cx} {Tb : List Addr} {W : WX} {a b e : Expr} {es : List Expr} {f g : Dn} {gl : DnL} {pos p : Pos} {k : Nat}
theorem boot_max : bootBuiltins "max" = some (.builtin "max") := by decide +kernel
theorem boot_min : bootBuiltins "min" = some (.builtin "min") := by decide +kernel
theorem boot_sum : bootBuiltins "sum" = some (.builtin "sum") := by decide +kernel
theorem boot_abs : bootBuiltins "abs" = some (.builtin "abs") := by decide +kernel
theorem boot_sorted : bootBuiltins "sorted" = some (.builtin "sorted") := by decide +kernel
theorem boot_any : bootBuiltins "any" = some (.builtin "any") := by decide +kernel
theorem boot_all : bootBuiltins "all" = some (.builtin "all") := by decide +kernel
theorem _root_.L2.Room.u64 {k : Nat} {A : Around} (r : Room k A) : A.units + 64 < cLine := by have := r.un; omega
theorem _root_.L2.Room.u65 {k : Nat} {A : Around} (r : Room k A) : A.units + 65 < cLine := by have := r.un; omega
theorem e_eq (hr : Room k X.A) (ha : PE X a (tD X.K Tb W f)) (hb : PE X b (tD X.K Tb W g)) (hm : behindInMarks .Eq b = false := by rfl) : PE X (.Compare a [.Eq] [b] pos) (tD X.K Tb W (dTwo oEq f g)) := fd_cmp (op_eqD hr.u64) ok_eq ha hb hm
theorem e_ne (hr : Room k X.A) (ha : PE X a (tD X.K Tb W f)) (hb : PE X b (tD X.K Tb W g)) (hm : behindInMarks .NotEq b = false := by rfl) : PE X (.Compare a [.NotEq] [b] pos) (tD X.K Tb W (dTwo oNe f g)) := fd_cmp (op_neD hr.u64) ok_ne ha hb hm
theorem e_lt (ha : PE X a (tD X.K Tb W f)) (hb : PE X b (tD X.K Tb W g)) (hm : behindInMarks .Lt b = false := by rfl) : PE X (.Compare a [.Lt] [b] pos) (tD X.K Tb W (dTwo oLt f g)) := fd_cmp op_lt ok_lt ha hb hm
theorem e_le (ha : PE X a (tD X.K Tb W f)) (hb : PE X b (tD X.K Tb W g)) (hm : behindInMarks .LtE b = false := by rfl) : PE X (.Compare a [.LtE] [b] pos) (tD X.K Tb W (dTwo oLe f g)) := fd_cmp op_le ok_le ha hb hm
theorem e_gt (ha : PE X a (tD X.K Tb W f)) (hb : PE X b (tD X.K Tb W g)) (hm : behindInMarks .Gt b = false := by rfl) : PE X (.Compare a [.Gt] [b] pos) (tD X.K Tb W (dTwo oGt f g)) := fd_cmp op_gt ok_gt ha hb hm
theorem e_ge (ha : PE X a (tD X.K Tb W f)) (hb : PE X b (tD X.K Tb W g)) (hm : behindInMarks .GtE b = false := by rfl) : PE X (.Compare a [.GtE] [b] pos) (tD X.K Tb W (dTwo oGe f g)) := fd_cmp op_ge ok_ge ha hb hm
theorem e_in (hr : Room k X.A) (ha : PE X a (tD X.K Tb W f)) (hb : PE X b (tD X.K Tb W g)) (hm : behindInMarks .In b = false := by rfl) : PE X (.Compare a [.In] [b] pos) (tD X.K Tb W (dTwo oIn f g)) := fd_cmp (PD.op_inS hr.u65) ok_in ha hb hm
theorem e_notin (hr : Room k X.A) (ha : PE X a (tD X.K Tb W f)) (hb : PE X b (tD X.K Tb W g)) (hm : behindInMarks .NotIn b = false := by rfl) : PE X (.Compare a [.NotIn] [b] pos) (tD X.K Tb W (dTwo oNotIn f g)) := fd_cmp (PD.op_notInS hr.u65) ok_notIn ha hb hm
theorem t_eq (hr : Room k X.A) (ha : PE X a (tD X.K Tb W f)) (hb : PE X b (tD X.K Tb W g)) (hm : behindInMarks .Eq b = false := by rfl) : PT X (.Compare a [.Eq] [b] pos) (tDT X.K Tb W (dAsB (dTwo oEq f g))) := ft_cmp (op_eqD hr.u64) ok_eq ha hb hm
theorem t_ne (hr : Room k X.A) (ha : PE X a (tD X.K Tb W f)) (hb : PE X b (tD X.K Tb W g)) (hm : behindInMarks .NotEq b = false := by rfl) : PT X (.Compare a [.NotEq] [b] pos) (tDT X.K Tb W (dAsB (dTwo oNe f g))) := ft_cmp (op_neD hr.u64) ok_ne ha hb hm
theorem t_lt (ha : PE X a (tD X.K Tb W f)) (hb : PE X b (tD X.K Tb W g)) (hm : behindInMarks .Lt b = false := by rfl) : PT X (.Compare a [.Lt] [b] pos) (tDT X.K Tb W (dAsB (dTwo oLt f g))) := ft_cmp op_lt ok_lt ha hb hm
theorem t_le (ha : PE X a (tD X.K Tb W f)) (hb : PE X b (tD X.K Tb W g)) (hm : behindInMarks .LtE b = false := by rfl) : PT X (.Compare a [.LtE] [b] pos) (tDT X.K Tb W (dAsB (dTwo oLe f g))) := ft_cmp op_le ok_le ha hb hm
theorem t_gt (ha : PE X a (tD X.K Tb W f)) (hb : PE X b (tD X.K Tb W g)) (hm : behindInMarks .Gt b = false := by rfl) : PT X (.Compare a [.Gt] [b] pos) (tDT X.K Tb W (dAsB (dTwo oGt f g))) := ft_cmp op_gt ok_gt ha hb hm
theorem t_ge (ha : PE X a (tD X.K Tb W f)) (hb : PE X b (tD X.K Tb W g)) (hm : behindInMarks .GtE b = false := by rfl) : PT X (.Compare a [.GtE] [b] pos) (tDT X.K Tb W (dAsB (dTwo oGe f g))) := ft_cmp op_ge ok_ge ha hb hm
theorem t_in (hr : Room k X.A) (ha : PE X a (tD X.K Tb W f)) (hb : PE X b (tD X.K Tb W g)) (hm : behindInMarks .In b = false := by rfl) : PT X (.Compare a [.In] [b] pos) (tDT X.K Tb W (dAsB (dTwo oIn f g))) := ft_cmp (PD.op_inS hr.u65) ok_in ha hb hm
theorem t_notin (hr : Room k X.A) (ha : PE X a (tD X.K Tb W f)) (hb : PE X b (tD X.K Tb W g)) (hm : behindInMarks .NotIn b = false := by rfl) : PT X (.Compare a [.NotIn] [b] pos) (tDT X.K Tb W (dAsB (dTwo oNotIn f g))) := ft_cmp (PD.op_notInS hr.u65) ok_notIn ha hb hm
theorem e_ix (ha : PE X a (tD X.K Tb W f)) (hb : PE X b (tD X.K Tb W g)) (hs : PlainIx b := by intro _ _; rfl) : PE X (.Subscript a b pos) (tD X.K Tb W (dTwo oIx f g)) := fd_ix ha hb hs
theorem e_len (B : Bi X.mg) (ha : PA X (e :: es) (tDs X.K Tb W gl)) (hg : Gl X "len" := by rfl) (he : starEach (e :: es) X.env = (false, eval e X.env) :: starEach es X.env := by rfl) (hpl : (backTo pos (starEach es X.env)).any (·.1) = false := by rfl) :
    PE X (.Call (.Name "len" p) (e :: es) [] pos) (tD X.K Tb W (dArg bLen gl)) := fd_callB call_len_seq ok_len hg B.len PySem.boot_len ha (by decide) (by decide) he hpl
theorem e_int (B : Bi X.mg) (ha : PA X (e :: es) (tDs X.K Tb W gl)) (hg : Gl X "int" := by rfl) (he : starEach (e :: es) X.env = (false, eval e X.env) :: starEach es X.env := by rfl) (hpl : (backTo pos (starEach es X.env)).any (·.1) = false := by rfl) :
    PE X (.Call (.Name "int" p) (e :: es) [] pos) (tD X.K Tb W (dArg bInt gl)) := fd_callTy call_int1 ok_int hg B.int boot_int ha (by decide) (by decide) he hpl
theorem e_abs (B : Bi X.mg) (ha : PA X (e :: es) (tDs X.K Tb W gl)) (hg : Gl X "abs" := by rfl) (he : starEach (e :: es) X.env = (false, eval e X.env) :: starEach es X.env := by rfl) (hpl : (backTo pos (starEach es X.env)).any (·.1) = false := by rfl) :
    PE X (.Call (.Name "abs" p) (e :: es) [] pos) (tD X.K Tb W (dArg bAbs gl)) := fd_callB call_abs ok_abs hg B.abs boot_abs ha (by decide) (by decide) he hpl
theorem e_tuple (B : Bi X.mg) (ha : PA X (e :: es) (tDs X.K Tb W gl)) (hg : Gl X "tuple" := by rfl) (he : starEach (e :: es) X.env = (false, eval e X.env) :: starEach es X.env := by rfl) (hpl : (backTo pos (starEach es X.env)).any (·.1) = false := by rfl) :
    PE X (.Call (.Name "tuple" p) (e :: es) [] pos) (tD X.K Tb W (dArg bTuple gl)) := fd_callTy call_tuple_of ok_tuple hg B.tuple boot_tuple ha (by decide) (by decide) he hpl
theorem e_list (B : Bi X.mg) (ha : PA X (e :: es) (tDs X.K Tb W gl)) (hg : Gl X "list" := by rfl) (he : starEach (e :: es) X.env = (false, eval e X.env) :: starEach es X.env := by rfl) (hpl : (backTo pos (starEach es X.env)).any (·.1) = false := by rfl) :
    PE X (.Call (.Name "list" p) (e :: es) [] pos) (tD X.K Tb W (dArg bList gl)) := fd_callTy call_list_of ok_list hg B.list boot_list ha (by decide) (by decide) he hpl
theorem e_sum (B : Bi X.mg) (ha : PA X (e :: es) (tDs X.K Tb W gl)) (hc : X.calm = true := by rfl) (hg : Gl X "sum" := by rfl) (he : starEach (e :: es) X.env = (false, eval e X.env) :: starEach es X.env := by rfl) (hpl : (backTo pos (starEach es X.env)).any (·.1) = false := by rfl) :
    PE X (.Call (.Name "sum" p) (e :: es) [] pos) (tD X.K Tb W (dArg bSum gl)) := fd_callB (cr_sum hc) ok_sum hg B.sum boot_sum ha (by decide) (by decide) he hpl
theorem e_max (B : Bi X.mg) (ha : PA X (e :: es) (tDs X.K Tb W gl)) (hc : X.calm = true := by rfl) (hg : Gl X "max" := by rfl) (he : starEach (e :: es) X.env = (false, eval e X.env) :: starEach es X.env := by rfl) (hpl : (backTo pos (starEach es X.env)).any (·.1) = false := by rfl) :
    PE X (.Call (.Name "max" p) (e :: es) [] pos) (tD X.K Tb W (dArg bMax gl)) := fd_callB (cr_max hc) ok_max hg B.max boot_max ha (by decide) (by decide) he hpl
theorem e_min (B : Bi X.mg) (ha : PA X (e :: es) (tDs X.K Tb W gl)) (hc : X.calm = true := by rfl) (hg : Gl X "min" := by rfl) (he : starEach (e :: es) X.env = (false, eval e X.env) :: starEach es X.env := by rfl) (hpl : (backTo pos (starEach es X.env)).any (·.1) = false := by rfl) :
    PE X (.Call (.Name "min" p) (e :: es) [] pos) (tD X.K Tb W (dArg bMin gl)) := fd_callB (cr_min hc) ok_min hg B.min boot_min ha (by decide) (by decide) he hpl
theorem e_max2 (B : Bi X.mg) (ha : PA X (e :: es) (tDs X.K Tb W gl)) (hc : X.calm = true := by rfl) (hg : Gl X "max" := by rfl) (he : starEach (e :: es) X.env = (false, eval e X.env) :: starEach es X.env := by rfl) (hpl : (backTo pos (starEach es X.env)).any (·.1) = false := by rfl) :
    PE X (.Call (.Name "max" p) (e :: es) [] pos) (tD X.K Tb W (dArg bMax2 gl)) := fd_callB (call_max2 hc) ok_max2 hg B.max boot_max ha (by decide) (by decide) he hpl
theorem e_min2 (B : Bi X.mg) (ha : PA X (e :: es) (tDs X.K Tb W gl)) (hc : X.calm = true := by rfl) (hg : Gl X "min" := by rfl) (he : starEach (e :: es) X.env = (false, eval e X.env) :: starEach es X.env := by rfl) (hpl : (backTo pos (starEach es X.env)).any (·.1) = false := by rfl) :
    PE X (.Call (.Name "min" p) (e :: es) [] pos) (tD X.K Tb W (dArg bMin2 gl)) := fd_callB (call_min2 hc) ok_min2 hg B.min boot_min ha (by decide) (by decide) he hpl
theorem e_any (B : Bi X.mg) (ha : PA X (e :: es) (tDs X.K Tb W gl)) (hc : X.calm = true := by rfl) (hg : Gl X "any" := by rfl) (he : starEach (e :: es) X.env = (false, eval e X.env) :: starEach es X.env := by rfl) (hpl : (backTo pos (starEach es X.env)).any (·.1) = false := by rfl) :
    PE X (.Call (.Name "any" p) (e :: es) [] pos) (tD X.K Tb W (dArg bAny gl)) := fd_callB (cr_any hc) ok_any hg B.any boot_any ha (by decide) (by decide) he hpl
theorem e_all (B : Bi X.mg) (ha : PA X (e :: es) (tDs X.K Tb W gl)) (hc : X.calm = true := by rfl) (hg : Gl X "all" := by rfl) (he : starEach (e :: es) X.env = (false, eval e X.env) :: starEach es X.env := by rfl) (hpl : (backTo pos (starEach es X.env)).any (·.1) = false := by rfl) :
    PE X (.Call (.Name "all" p) (e :: es) [] pos) (tD X.K Tb W (dArg bAll gl)) := fd_callB (cr_all hc) ok_all hg B.all boot_all ha (by decide) (by decide) he hpl
theorem e_sorted (B : Bi X.mg) (hr : Room k X.A) (ha : PA X (e :: es) (tDs X.K Tb W gl)) (hg : Gl X "sorted" := by rfl) (he : starEach (e :: es) X.env = (false, eval e X.env) :: starEach es X.env := by rfl) (hpl : (backTo pos (starEach es X.env)).any (·.1) = false := by rfl) :
    PE X (.Call (.Name "sorted" p) (e :: es) [] pos) (tD X.K Tb W (dArg bSorted gl)) := fd_callB (cr_sortD hr.u64) ok_sorted hg B.sorted boot_sorted ha (by decide) (by decide) he hpl
theorem e_isInt (B : Bi X.mg) {py : Pos} (ha : PE X a (tD X.K Tb W f)) (hg : Gl X "isinstance" := by rfl) (hgy : Gl X "int" := by rfl) (he : starEach [a, .Name "int" py] X.env = (false, eval a X.env) :: starEach [.Name "int" py] X.env := by rfl) (he2 : starEach [.Name "int" py] X.env = (false, eval (.Name "int" py) X.env) :: starEach [] X.env := by rfl) (hpl : (backTo pos (starEach [.Name "int" py] X.env)).any (·.1) = false := by rfl) :
    PE X (.Call (.Name "isinstance" p) [a, .Name "int" py] [] pos) (tD X.K Tb W (dOne (oIsi "int") f)) := fd_isi ha hg B.isinstance hgy B.int boot_int (by decide) (by decide) he he2 hpl
theorem e_isBool (B : Bi X.mg) {py : Pos} (ha : PE X a (tD X.K Tb W f)) (hg : Gl X "isinstance" := by rfl) (hgy : Gl X "bool" := by rfl) (he : starEach [a, .Name "bool" py] X.env = (false, eval a X.env) :: starEach [.Name "bool" py] X.env := by rfl) (he2 : starEach [.Name "bool" py] X.env = (false, eval (.Name "bool" py) X.env) :: starEach [] X.env := by rfl) (hpl : (backTo pos (starEach [.Name "bool" py] X.env)).any (·.1) = false := by rfl) :
    PE X (.Call (.Name "isinstance" p) [a, .Name "bool" py] [] pos) (tD X.K Tb W (dOne (oIsi "bool") f)) := fd_isi ha hg B.isinstance hgy B.bool boot_bool (by decide) (by decide) he he2 hpl
theorem e_isTuple (B : Bi X.mg) {py : Pos} (ha : PE X a (tD X.K Tb W f)) (hg : Gl X "isinstance" := by rfl) (hgy : Gl X "tuple" := by rfl) (he : starEach [a, .Name "tuple" py] X.env = (false, eval a X.env) :: starEach [.Name "tuple" py] X.env := by rfl) (he2 : starEach [.Name "tuple" py] X.env = (false, eval (.Name "tuple" py) X.env) :: starEach [] X.env := by rfl) (hpl : (backTo pos (starEach [.Name "tuple" py] X.env)).any (·.1) = false := by rfl) :
    PE X (.Call (.Name "isinstance" p) [a, .Name "tuple" py] [] pos) (tD X.K Tb W (dOne (oIsi "tuple") f)) := fd_isi ha hg B.isinstance hgy B.tuple boot_tuple (by decide) (by decide) he he2 hpl
end

/-! ### defs by name -/
def FnD (P : Program) (w : World) (K : PySem.W.Frag) (mg : Str → Option Value) (base : Heap) (Tb : List Addr) (x : Str) (k : Nat) (m : List PyData → R PyData) : Prop :=
  ∃ (f : Addr) (fd : FuncData) (ps : List Str), FnOk P w K mg base (L2N.CX P w) k f fd ps (spD K Tb m) ∧ mg x = some (.ref f) ∧ PySem.W.keepIn K (.ref f) = true ∧ Binds K fd ps []
section
variable {X : Cx} {Tb : List Addr} {W : WX} {k j : Nat} {m : List PyData → R PyData} {x : Str} {p pos : Pos} {e : Expr} {es : List Expr} {gl : DnL}
theorem e_call (F : FnD X.prog X.w X.K X.mg X.base Tb x k m) (hx : ∀ σ, PassesAt (L2N.CX X.prog X.w) X σ (L2.WE W σ)) (hr : Room j X.A) (ha : PA X (e :: es) (tDs X.K Tb W gl)) (hj : k ≤ j := by decide) (hg : Gl X x := by rfl)
    (hdb : (x == ("__debug__" : Str)) = false := by decide) (he : starEach (e :: es) X.env = (false, eval e X.env) :: starEach es X.env := by rfl) (hpl : (backTo pos (starEach es X.env)).any (·.1) = false := by rfl) :
    PE X (.Call (.Name x p) (e :: es) [] pos) (tD X.K Tb W (dArg m gl)) := by
  obtain ⟨f, fd, ps, h, g, kp, b⟩ := F
  exact fd_call h (hr.mono hj) hg g kp b hx ha hdb he hpl
end
end PD

set_option Elab.async false
set_option linter.all false
set_option maxRecDepth 100000
set_option maxHeartbeats 1000000
namespace PD
open PySem PySem.Spec PyProof.Rows L2
theorem funC_mk {K : PySem.W.Frag} {x qual : Str} {st : Stmt} {f c : Addr} {oc : Value} {od an : Option Addr} {osl : Array (Option Value)} {kV doc pm ct : Value} (l : K.lookup f = some ⟨oc, od, .func (PySem.W.fnOf x qual (defArgs st) (defBody st) (defScope st) .none kV doc pm an (.ref c) ct), osl⟩)
    (h : PySem.W.codeIn K (.ref c) qual = true) (k : PySem.W.keepIn K (.ref f) = true) : FunC K x qual st f (PySem.W.fnOf x qual (defArgs st) (defBody st) (defScope st) .none kV doc pm an (.ref c) ct) c := ⟨⟨oc, od, kV, doc, pm, an, ct, osl, rfl, l, h⟩, k⟩
theorem cx_no {l : PySem.W.OpenLaw} : ∀ (w : World) (H : Hp) (s : Shared) (e : Value) (s' : Shared), L2N.CX l.prog w [] H s (fun _ _ _ => False) e s' → False := fun _ _ _ _ _ h => by
  obtain ⟨_, _, _, _, _, _, _, _, _, _, _, _, z⟩ := h
  exact z
theorem hide0 (H : Hp) : hide [] H = H := by funext b; unfold hide; rw [if_neg (by simp)]
theorem rp_ints {K : PySem.W.Frag} {G : Hp} : ∀ ns : List Int, RpAll K G (ns.map V.int) (ns.map PyData.int)
  | [] => .nil
  | n :: r => .cons (.int n) (rp_ints r)
theorem spD_law0 {K : PySem.W.Frag} {m : List PyData → R PyData} (hm : ∀ ns : List Int, ns.length ≤ 63 → m [.list (ns.map .int)] = .ok (.bool true)) {H : Hp} {a : Addr} {ns : List Int} (hl : ns.length ≤ 63) (hS : SqL K H a (ns.map V.int)) :
    spD K [] m [.ref a] H (fun v _ => v = .bl true) fun _ _ _ => False := by
  refine ⟨[], [.list (ns.map .int)], fun b m => by simp at m, fun P m => by simp at m, .cons (.lst (by rw [hide0]; exact hS) ?_ (rp_ints ns)) .nil, ?_⟩
  · rw [List.length_map, sizeLine_eq]; omega
  · rw [hm ns hl]
    intro v H' e r
    have r : Rp K (hide [] H') v (.bool true) := r
    cases r
    rfl
theorem spD_law {K : PySem.W.Frag} {Tb : List Addr} {m : List PyData → R PyData} (hm : ∀ ns : List Int, ns.length ≤ 63 → m [.list (ns.map .int)] = .ok (.bool true)) {H : Hp} {a : Addr} {ns : List Int} (hT : ∀ P ∈ Tb, TabC H P) (hl : ns.length ≤ 63) (hS : SqL K H a (ns.map V.int)) :
    spD K Tb m [.ref a] H (fun v _ => v = .bl true) fun _ _ _ => False := by
  refine ⟨[], [.list (ns.map .int)], fun b m => by simp at m, hT, .cons (.lst (by rw [hide0]; exact hS) ?_ (rp_ints ns)) .nil, ?_⟩
  · rw [List.length_map, sizeLine_eq]; omega
  · rw [hm ns hl]
    intro v H' e r
    have r : Rp K (hide [] H') v (.bool true) := r
    cases r
    rfl
end PD

set_option Elab.async false
set_option linter.all false
set_option maxRecDepth 100000
set_option maxHeartbeats 1000000
namespace PD
open PySem PySem.Spec PyProof.Rows L2
theorem tabB_of {base : Heap} {mg : Str → Option Value} {c P : Addr} (t : LamX.TabB base mg c P) : GxR.TabB base mg c P := ⟨t.code, t.bm, t.gP⟩
theorem tabIn_of {K : PySem.W.Frag} {x : Str} {f c P : Addr} {oc e : Value} {od dd : Option Addr} {fd : FuncData} {sl sl' : Array (Option Value)} {vs : Array Value} (a : PySem.W.nsIn K mainGlobals x = some (some (.ref f))) (l : K.lookup f = some ⟨oc, od, .func fd, sl⟩) (hc : fd.code = .ref c)
    (lc : K.lookup c = some ⟨e, dd, .fields vs, sl'⟩) (hv : vs[11]? = some (.ref P)) : PySem.W.tabIn K x = some (c, P) := by
  unfold PySem.W.tabIn
  rw [a]
  simp only [l, hc, lc, hv]
/-- what the top has left of each def's code object: its table is empty -/
def Tabs (q : Program) (K : PySem.W.Frag) (h : Heap) : Prop :=
  ∀ (x : Str) (d : DefRec) (c P : Addr), (recsOf q).find? (fun e => e.name == x) = some d → PySem.W.tabIn K x = some (c, P) → PySem.W.CodeHd h c P ∧ h.get? P = some (PySem.W.tabObj #[])
theorem walk_tabs {l : PySem.W.OpenLaw} {n k : Nat} {q : Program} {loose : List Str} {XP : (Str → Option Value) → Heap → Prop} {YP : World → Heap → Prop} {d : DefRec} {K : Params → PySem.W.Frag} {CX : World → CXT} {x : Str}
    (hn : l.most = some n) (hn2 : n ≤ sizeLine) (hdf : d.params.defaults = [])
    (hr : Room k callerA) (hY : ∀ (w : World) (h : Heap), YP w h → (K w.params).In h)
    (F : ∀ (w : World) (mg : Str → Option Value) (fa : Addr) (h : Heap), Tabs q (K w.params) h → (K w.params).In h → h.Ns mainGlobals mg → mg d.name = some (.ref fa) → LamX.LawAtS l w (K w.params) (CX w) k n x mg fa h)
    (hCX : ∀ (w : World) (H : Hp) (s : Shared) (e : Value) (s' : Shared), CX w [] H s (fun _ _ _ => False) e s' → False) :
    PySem.W.WalkO q loose XP YP l.row.toRowW d [] (fun f vs => PySem.call f vs) := by
  refine Att.attach_callB hn hdf ?_
  intro w s₀ s₁ mg mb fa o pm cd doc a vs ns G Y _ _ _ hmg hobj hints hlen hbits hg
  have KX := hY w _ Y
  have tabs : Tabs q (K w.params) s₁.heap := fun x d c P h1 h2 => PySem.W.tab_of G.T KX h1 h2
  obtain ⟨fd, cs, sp, hT, nT, C, hb, hsp, hF⟩ := F w mg fa _ tabs KX G.T.g hmg
  refine LamX.law_callTs KX G.T.g G.T.b G.T.builtins G.T.nolimit hg hT nT C G.T.bmain hobj hints (Nat.le_trans hlen hn2) hr hF hb (fun H hH hS => ?_) fun H e s' => ?_
  · exact hsp H a ns hlen hbits hH hS
  · exact hCX w H s₁ e s'
end PD

set_option Elab.async false
set_option linter.all false
set_option maxRecDepth 100000
set_option maxHeartbeats 1000000
namespace PD
open PySem PySem.Spec PyProof.Rows L2

/-! ### dicts whose keys are tuples of ints, every value True -/
section
variable {X : Cx} {pins : List (Addr × Obj)} {σ : L2.St} {H : Hp} {s : Shared}
theorem itemsAre_of {P : Program} {w : World} : ∀ {k : List Int} {its : List Value}, Vals (k.map V.int) its → ItemsAre (intKind P w) k its
  | [], _, h => by cases h; exact .nil
  | i :: k, _, h => by
    cases h with
    | cons r t =>
      obtain ⟨u, rfl⟩ := r
      exact .cons (by show Value.isInt i (.int i u) = true; simp [Value.isInt]) (itemsAre_of t)
theorem key_is (I : Inv X pins σ H s) {b : Addr} {k : List Int} (h : SqT X.K H b (k.map V.int)) : (ikt X.prog X.w).is s.heap k b := by
  obtain ⟨its, rv, ⟨o, e, c, n, d⟩, _⟩ := I.tuple h
  exact ⟨o, its.toArray, n, e, c, d, itemsAre_of rv⟩
abbrev kvT (xs : List (List Int × Addr)) : List (List Int × Addr × Value) := xs.map fun x => (x.1, x.2, .bool true)
theorem dct_at (I : Inv X pins σ H s) {a : Addr} {ep : Nat} {xs : List (List Int × Addr)} (h : H a = some (dctO a ep xs)) (hk : ∀ x ∈ xs, SqT X.K H x.2 (x.1.map V.int)) : (a == sysModules) = false ∧ xs.length ≤ sizeLine ∧ s.heap.DictOfH (ikt X.prog X.w) a (kvT xs) := by
  obtain ⟨⟨h1, h2, h3, o, es, e1, e2, e3, e4⟩, _, _⟩ := I.hok a _ h
  refine ⟨h1, h2, o, es, ep, e1, e2, e3, ?_, fun x hx => ?_, ?_⟩
  · rw [e4 X.prog X.w, List.map_map]; rfl
  · obtain ⟨y, hy, rfl⟩ := List.mem_map.mp hx
    exact key_is I (hk y hy)
  · rw [List.map_map]; exact h3
theorem dct_ok {P : Program} {w : World} {H' : Hp} {h : Heap} {a : Addr} {xs : List (List Int × Addr)} (h1 : (a == sysModules) = false) (h2 : xs.length ≤ sizeLine) (d : h.DictOfH (ikt P w) a (kvT xs)) : ∃ ep, ObjOk P w H' h a (dctO a ep xs) := by
  obtain ⟨o, es, ep, e1, e2, e3, e4, _, e6⟩ := d
  rw [List.map_map] at e6 e4
  refine ⟨ep, ⟨h1, h2, e6, o, es, e1, e2, e3, fun P' w' => e4⟩, ⟨o, e1⟩, fun k1 k2 p st => ?_⟩
  obtain ⟨h1, h2, h3, o, es, e1, e2, e3, e4⟩ := p
  exact ⟨h1, h2, h3, o, es, st o e1, e2, e3, e4⟩
theorem dct_new {P : Program} {w : World} {H' : Hp} (h : Heap) (hb : sysModules < h.objs.size) : ObjOk P w H' (h.push { cls := .type "dict", data := .dict #[] }) h.objs.size (dctO h.objs.size 0 []) := by
  have e : (h.push { cls := .type "dict", data := .dict #[] }).get? h.objs.size = some { cls := .type "dict", data := .dict #[] } := Heap.get?_push_size _ rfl
  refine ⟨⟨beq_eq_false_iff_ne.mpr (Nat.ne_of_gt hb), Nat.zero_le _, List.nodup_nil, _, #[], e, ⟨rfl, rfl, rfl⟩, rfl, fun _ _ => rfl⟩, ⟨_, e⟩, fun k1 k2 p st => ?_⟩
  obtain ⟨h1, h2, h3, o, es, e1, e2, e3, e4⟩ := p
  exact ⟨h1, h2, h3, o, es, st o e1, e2, e3, e4⟩
theorem dct_any {P : Program} {w : World} {H H' : Hp} {h : Heap} {a : Addr} {ep : Nat} {xs : List (List Int × Addr)} (o : ObjOk P w H h a (dctO a ep xs)) : ObjOk P w H' h a (dctO a ep xs) := o
def putT (xs : List (List Int × Addr)) (k : List Int) (b : Addr) : List (List Int × Addr) := if k ∈ xs.map (·.1) then xs else xs ++ [(k, b)]
theorem atKey_kvT (xs : List (List Int × Addr)) (k : List Int) : (atKey (kvT xs) k).isSome = decide (k ∈ xs.map (·.1)) := by
  unfold atKey
  induction xs with
  | nil => rfl
  | cons x r ih =>
    rw [show kvT (x :: r) = (x.1, x.2, .bool true) :: kvT r from rfl, List.find?_cons]
    by_cases e : x.1 = k
    · subst e; simp
    · have e' : ¬ k = x.1 := fun z => e z.symm
      simp only [e, decide_false, List.map_cons, List.mem_cons, e', false_or]
      exact ih
theorem stored_kvT (xs : List (List Int × Addr)) (k : List Int) (b : Addr) : storedH (kvT xs) k b (.bool true) = kvT (putT xs k b) := by
  unfold storedH putT
  by_cases h : k ∈ xs.map (·.1)
  · rw [if_pos (by rw [atKey_kvT]; exact decide_eq_true h), if_pos h]
    unfold kvT
    rw [List.map_map]
    refine List.map_congr_left fun x _ => ?_
    show putAt k (.bool true) (x.1, x.2, .bool true) = _
    unfold putAt
    split <;> rfl
  · rw [if_neg (by rw [atKey_kvT]; simpa using h), if_neg h]
    unfold kvT
    rw [List.map_append]; rfl
theorem putT_len (xs : List (List Int × Addr)) (k : List Int) (b : Addr) : (putT xs k b).length ≤ xs.length + 1 := by
  unfold putT; split <;> simp
theorem putT_mem {xs : List (List Int × Addr)} {k : List Int} {b : Addr} {x : List Int × Addr} (h : x ∈ putT xs k b) : x ∈ xs ∨ x = (k, b) := by
  unfold putT at h
  split at h
  · exact .inl h
  · rcases List.mem_append.mp h with h | h
    · exact .inl h
    · exact .inr (List.mem_singleton.mp h)
/-- d[k] = True -/
theorem store_dct {E : Value → Shared → Prop} {D b : Addr} {ep : Nat} {xs : List (List Int × Addr)} {k : List Int} {Q : Unit → Shared → Prop} (hu : X.A.units < cLine) (I : Inv X pins σ H s) (hD : H D = some (dctO D ep xs)) (hk : ∀ x ∈ xs, SqT X.K H x.2 (x.1.map V.int)) (hz : xs.length < sizeLine)
    (hb : SqT X.K H b (k.map V.int)) (h : ∀ ep' s', Inv X pins σ (upd H D (dctO D ep' (putT xs k b))) s' → Q () s') : wpAny (model X.prog X.w) X.A (dictSet D (.ref b) (.bool true)) Q E s := by
  obtain ⟨h1, h2, d⟩ := dct_at I hD hk
  refine wpAny_dictSet_heap (hsz := by rw [List.length_map]; exact h2) hu (key_is I hb) d fun h' d' hs => ?_
  rw [stored_kvT] at d'
  have he : ∃ q, h'.get? D = some q := let ⟨q, _, _, hq, _⟩ := d'; ⟨q, hq⟩
  obtain ⟨ep', ok⟩ := dct_ok (P := X.prog) (w := X.w) (H' := H) h1 (by have := putT_len xs k b; omega) d'
  exact h ep' _ (I.write (x := D) (e := D) (by rw [hD]; trivial) (.inl rfl) (fun b q hb z => (hs.2 b hb).trans z) he (dct_any ok))
/-- k in d -/
def rInT (K : PySem.W.Frag) (neg : Bool) : R2 := fun x y H Q => ∃ a b k ep xs, x = .ref b ∧ y = .ref a ∧ SqT K H b (k.map V.int) ∧ H a = some (dctO a ep xs) ∧ (∀ x ∈ xs, SqT K H x.2 (x.1.map V.int)) ∧ Q (.bl (if neg then !decide (k ∈ xs.map (·.1)) else decide (k ∈ xs.map (·.1)))) H
theorem op_inT (hu : X.A.units + 65 < cLine) : OpR X (compareOp .In) (rInT X.K false) := by
  intro pins s σ H x y v u Q I rx ry h
  obtain ⟨a, b, k, ep, xs, rfl, rfl, hb, ha, hk, q⟩ := h
  cases rx; cases ry
  obtain ⟨h1, h2, d⟩ := dct_at I ha hk
  refine wpAny_in_heap (show X.A.units + 1 < cLine by omega) (key_is I hb) h1 d ?_
  rw [atKey_kvT]
  exact ⟨.bl _, H, I.tok _, rfl, q⟩
theorem op_notInT (hu : X.A.units + 65 < cLine) : OpR X (compareOp .NotIn) (rInT X.K true) := by
  intro pins s σ H x y v u Q I rx ry h
  obtain ⟨a, b, k, ep, xs, rfl, rfl, hb, ha, hk, q⟩ := h
  cases rx; cases ry
  obtain ⟨h1, h2, d⟩ := dct_at I ha hk
  refine wpAny_notIn_heap (show X.A.units + 1 < cLine by omega) (key_is I hb) h1 d ?_
  rw [atKey_kvT]
  exact ⟨.bl _, H, I.tok _, rfl, q⟩
end

/-! ### the same of data -/
def asTu : PyData → Option (List Int)
  | .tuple l => asInts l
  | _ => none
def keysOf (kvs : List (PyData × PyData)) : List (Option (List Int)) := kvs.map fun p => asTu p.1
def oInT (d e : PyData) : R PyData := match e with
  | .dict kvs => (match asTu d with | some k => .ok (.bool (decide (some k ∈ keysOf kvs))) | none => .bad)
  | _ => .bad
def oNotInT (d e : PyData) : R PyData := match e with
  | .dict kvs => (match asTu d with | some k => .ok (.bool (!decide (some k ∈ keysOf kvs))) | none => .bad)
  | _ => .bad
theorem asInts_eq : ∀ {l : List PyData} {k : List Int}, asInts l = some k → l = k.map .int
  | [], _, h => by cases h; rfl
  | .int i :: r, k, h => by
    unfold asInts at h
    cases e : asInts r with
    | none => rw [e] at h; cases h
    | some k' => rw [e] at h; cases h; rw [List.map_cons, asInts_eq e]
  | .none :: _, _, h => by cases h
  | .bool _ :: _, _, h => by cases h
  | .str _ :: _, _, h => by cases h
  | .list _ :: _, _, h => by cases h
  | .tuple _ :: _, _, h => by cases h
  | .dict _ :: _, _, h => by cases h
theorem asInts_ints : ∀ l : List Int, asInts (l.map .int) = some l
  | [] => rfl
  | x :: r => by rw [List.map_cons, asInts, asInts_ints r]; rfl
theorem keysOf_dct (xs : List (List Int × Addr)) : keysOf (xs.map dctE) = xs.map fun x => some x.1 := by
  unfold keysOf
  rw [List.map_map]
  exact List.map_congr_left fun x _ => asInts_ints x.1
theorem rp_ints_inv {K : PySem.W.Frag} {G : Hp} : ∀ {k : List Int} {vs : List V}, RpAll K G vs (k.map .int) → vs = k.map V.int
  | [], _, h => by cases h; rfl
  | i :: k, _, h => by
    cases h with
    | cons r t => cases r; rw [List.map_cons, rp_ints_inv t]
theorem asTu_rp {K : PySem.W.Frag} {G : Hp} {v : V} {d : PyData} {k : List Int} (r : Rp K G v d) (h : asTu d = some k) : ∃ b, v = .ref b ∧ SqT K G b (k.map V.int) := by
  unfold asTu at h
  split at h
  · cases r with
    | tup a z b =>
      have e := asInts_eq h
      subst e
      rw [rp_ints_inv b] at a
      exact ⟨_, rfl, a⟩
  · cases h
theorem mem_some {α : Type} [DecidableEq α] (l : List (List Int × α)) (k : List Int) : decide (some k ∈ l.map fun x => some x.1) = decide (k ∈ l.map (·.1)) := by
  have : (some k ∈ l.map fun x => some x.1) ↔ k ∈ l.map (·.1) := by simp
  by_cases h : k ∈ l.map (·.1)
  · rw [decide_eq_true h, decide_eq_true (this.mpr h)]
  · rw [decide_eq_false h, decide_eq_false fun z => h (this.mp z)]
section
variable {K : PySem.W.Frag}
theorem ok_inT : Ok2 K (rInT K false) oInT := by
  intro O H Wx x y d e Q al hx hy h
  unfold oInT at h
  split at h
  · split at h
    · rename_i k hk
      obtain ⟨b, rfl, hb⟩ := asTu_rp hx hk
      cases hy with
      | dct a c =>
        rw [keysOf_dct, mem_some] at h
        exact ⟨_, b, k, _, _, rfl, rfl, Sub.unhide.sqT hb, (hide_some a).2, fun x hx => Sub.unhide.sqT (c x hx), Post.here h (.bl _)⟩
    · exact h.elim
  · exact h.elim
theorem ok_notInT : Ok2 K (rInT K true) oNotInT := by
  intro O H Wx x y d e Q al hx hy h
  unfold oNotInT at h
  split at h
  · split at h
    · rename_i k hk
      obtain ⟨b, rfl, hb⟩ := asTu_rp hx hk
      cases hy with
      | dct a c =>
        rw [keysOf_dct, mem_some] at h
        exact ⟨_, b, k, _, _, rfl, rfl, Sub.unhide.sqT hb, (hide_some a).2, fun x hx => Sub.unhide.sqT (c x hx), Post.here h (.bl _)⟩
    · exact h.elim
  · exact h.elim
end
section
variable {X : Cx} {Tb : List Addr} {W : WX} {a b : Expr} {f g : Dn} {pos : Pos} {k : Nat}
theorem e_inT (hr : Room k X.A) (ha : PE X a (tD X.K Tb W f)) (hb : PE X b (tD X.K Tb W g)) (hm : behindInMarks .In b = false := by rfl) : PE X (.Compare a [.In] [b] pos) (tD X.K Tb W (dTwo oInT f g)) := fd_cmp (op_inT hr.u65) ok_inT ha hb hm
theorem e_notinT (hr : Room k X.A) (ha : PE X a (tD X.K Tb W f)) (hb : PE X b (tD X.K Tb W g)) (hm : behindInMarks .NotIn b = false := by rfl) : PE X (.Compare a [.NotIn] [b] pos) (tD X.K Tb W (dTwo oNotInT f g)) := fd_cmp (op_notInT hr.u65) ok_notInT ha hb hm
theorem t_inT (hr : Room k X.A) (ha : PE X a (tD X.K Tb W f)) (hb : PE X b (tD X.K Tb W g)) (hm : behindInMarks .In b = false := by rfl) : PT X (.Compare a [.In] [b] pos) (tDT X.K Tb W (dAsB (dTwo oInT f g))) := ft_cmp (op_inT hr.u65) ok_inT ha hb hm
theorem t_notinT (hr : Room k X.A) (ha : PE X a (tD X.K Tb W f)) (hb : PE X b (tD X.K Tb W g)) (hm : behindInMarks .NotIn b = false := by rfl) : PT X (.Compare a [.NotIn] [b] pos) (tDT X.K Tb W (dAsB (dTwo oNotInT f g))) := ft_cmp (op_notInT hr.u65) ok_notInT ha hb hm
end
end PD

set_option Elab.async false
set_option linter.all false
set_option maxRecDepth 100000
set_option maxHeartbeats 1000000
namespace PD
open PySem PySem.Spec PyProof.Rows L2

/-! ### {key: True for target in iter if ..}, keys tuples of ints

What the block of such a comprehension needs is told in four steps: its frame (`inBlk`, `atBlk`), what a turn starts from (`AtTurn`), how a turn hands over to the next one, how the def around gets its state back. -/
section
variable (X : Cx) (s : Shared) (scope : Scope)
/-- the block's own environment -/
abbrev envBlk : Env := compEnvC scope (cellsFrom (s.heap.objs.size + 1) scope.names (cloFrom X.env.cells scope.names [])) s.heap.objs.size X.env
/-- the block's context -/
abbrev inBlk (H : Hp) (fp : List Addr) : Cx := X.blk s H scope (envBlk X s scope) fp
/-- the state with the block's frame and cells laid down -/
abbrev atBlk : Shared := { s with heap := pushCells (s.heap.push { cls := .type "dict", data := .dict #[] }) scope.names }
end
section
variable {X : Cx} {pins : List (Addr × Obj)} {σ : L2.St} {vs : List Nat} {s0 : Shared} {H0 : Hp} {scope : Scope} {fp : List Addr} {tn : Nat → Heap → Prop} {J : It} {tg : Expr} {it : Addr}

/-- a turn is about to start -/
structure AtTurn (X : Cx) (s0 : Shared) (H0 : Hp) (scope : Scope) (fp : List Addr) (tn : Nat → Heap → Prop) (τ : L2.St) (i : Nat) (H : Hp) (s : Shared) : Prop where
  inv : Inv (inBlk X s0 scope H0 fp) [] τ H s
  own : tn i s.heap
  hid : ∀ b ∈ fp, H b = none

theorem AtTurn.free {τ : L2.St} {i : Nat} {H : Hp} {s : Shared} (a : AtTurn X s0 H0 scope fp tn τ i H s) {b : Addr} (hb : b ∈ fp) : FpOk (inBlk X s0 scope H0 fp) [] H b := by
  have w := a.inv.ok.exf b hb
  refine ⟨a.hid b hb, w.1, a.inv.ok.exfs b hb, Or.inl hb, fun x c e => w.2 x c e, ?_⟩
  intro p hp
  simp [Cx.blk] at hp

theorem AtTurn.next {τ σ1 : L2.St} {i : Nat} {H1 : Hp} {s1 s2 : Shared} (T : Turn X.prog X.w X.K tg J fp it tn) (e : L2.wipe σ1 vs = L2.wipe σ vs) (t1 : tn i s1.heap)
    (I : Inv (inBlk X s0 scope H0 fp) ([] ++ pinsAt fp s1.heap) σ1 H1 s2) : AtTurn X s0 H0 scope fp tn (L2.wipe σ vs) i H1 s2 := by
  have same : ∀ b ∈ fp, ∀ o, s1.heap.get? b = some o → s2.heap.get? b = some o ∧ H1 b = none := by
    intro b hb o hbo
    have mem : (b, o) ∈ (inBlk X s0 scope H0 fp).pn ++ ([] ++ pinsAt fp s1.heap) := by
      rw [List.nil_append]
      exact List.mem_append_right _ (mem_pinsAt hb hbo)
    exact ⟨(I.pin _ mem).1, (I.pin _ mem).2.1⟩
  have wide : (L2.wipe σ vs).length = σ1.length := e ▸ wipe_length ..
  constructor
  · refine I.unpinned.weak wide ?_
    intro j v hj
    exact (wipe_some (e ▸ hj)).1
  · exact T.keep _ _ _ t1 fun b hb o hbo => (same b hb o hbo).1
  · intro b hb
    obtain ⟨o, hbo, -⟩ := T.obj _ _ t1 b hb
    exact (same b hb o hbo).2

/-- the def around the block, behind it -/
theorem AtTurn.leave {τ : L2.St} {H1 : Hp} {s1 : Shared} (I0 : Inv X pins σ H0 s0) (f0 : ∀ b ∈ fp, FpOk X pins H0 b) (I1 : Inv (inBlk X s0 scope H0 fp) [] τ H1 s1) :
    Inv X pins σ H1 s1 ∧ FpOk X pins H1 s0.heap.objs.size ∧ ∃ m, s1.heap.Ns s0.heap.objs.size m := by
  have fr : H1 s0.heap.objs.size = none := I1.free
  obtain ⟨m, hm, -⟩ := I1.loc
  refine ⟨I0.call' (ch := fp) I1.os I1.base I1.hok I1.bare ?_, I0.fpOk (Nat.le_refl _) fr, m, hm⟩
  intro b hb
  obtain ⟨-, b1, -, b3, b4, b5⟩ := f0 b hb
  exact ⟨b3, b1, b4, b5⟩

/-- what the rule asks of a turn -/
def keyTurn (K : PySem.W.Frag) (σ : L2.St) (vs : List Nat) (g : TG) (tt : TT) (tk : TE) (D : Addr) (Nx : Hp → Prop) (x : V) (H : Hp) : Prop :=
  g x (L2.wipe σ vs) H fun σ2 H2 => L2.wipe σ2 vs = L2.wipe σ vs ∧ tt σ2 H2 fun b H3 =>
    if b = true then tk σ2 H3 fun y H4 => ∃ ep xs p k, y = .ref p ∧ H4 D = some (dctO D ep xs) ∧ (∀ x ∈ xs, SqT K H4 x.2 (x.1.map V.int)) ∧ xs.length < sizeLine ∧ SqT K H4 p (k.map V.int) ∧ ∀ ep', Nx (upd H4 D (dctO D ep' (putT xs k p))) else Nx H3

def tDcT (K : PySem.W.Frag) (wi : TI) (g : TG) (tt : TT) (tk : TE) (vs : List Nat) : TE := fun σ H Q => wi σ H fun J H1 => ∀ D, H1 D = none → ∃ W : Nat → Nat → Hp → Prop, (∃ m, W 0 m (upd H1 D (dctO D 0 []))) ∧ ∀ i m H, W i m H →
  (J.stop i H ∧ Q (.ref D) H) ∨ (J.go i H ∧ ∃ Nx : Hp → Prop, (∀ H', Nx H' → ∃ m', m' < m ∧ W (i + 1) m' H') ∧ ∀ x H', J.yld i H x H' → keyTurn K σ vs g tt tk D Nx x H')

/-- all turns, from the first one on -/
theorem keyLoop {kx iter : Expr} {ifs : List Expr} {pos : Pos} {g : TG} {tt : TT} {tk : TE} {tpos : Pos} {tj : Nat} {D : Addr} {Q : VK} {R : Result → Shared → Prop} {W : Nat → Nat → Hp → Prop} {m0 : Nat}
    (hu : X.A.units < cLine) (hc : X.calm = true) (T : Turn X.prog X.w X.K tg J fp it tn)
    (pg : PG (inBlk X s0 scope H0 fp) tg g) (pt : PTs (inBlk X s0 scope H0 fp) ifs tt) (pk : PE (inBlk X s0 scope H0 fp) kx tk)
    (turn : ∀ i m H, W i m H → (J.stop i H ∧ Q (.ref D) H) ∨ (J.go i H ∧ ∃ Nx : Hp → Prop, (∀ H', Nx H' → ∃ m', m' < m ∧ W (i + 1) m' H') ∧ ∀ x H', J.yld i H x H' → keyTurn X.K σ vs g tt tk D Nx x H'))
    (over : ∀ H s, Inv (inBlk X s0 scope H0 fp) [] (L2.wipe σ vs) H s → Q (.ref D) H → R (.ok .next) s)
    {s : Shared} {H : Hp} (w0 : W 0 m0 H) (a0 : AtTurn X s0 H0 scope fp tn (L2.wipe σ vs) 0 H s) :
    codeAny (model X.prog X.w) X.A (.compLoop (.DictComp kx (.Constant (.bool true) tj tpos) [⟨tg, iter, ifs, 0⟩] scope pos) 0 (.ref it) (.ref D) (envBlk X s0 scope)) R s := by
  refine compLoop_anyD (fun m s => ∃ i H, AtTurn X s0 H0 scope fp tn (L2.wipe σ vs) i H s ∧ W i m H) ?_ m0 ⟨0, H, a0, w0⟩
  intro m s1 ⟨i, H1, a1, w1⟩
  cases turn i m H1 w1 with
  | inl z =>
    refine thnF (T.done (inBlk X s0 scope H0 fp) rfl rfl rfl hc i [] s1 _ H1 (fun _ _ => False) a1.inv (fun b => a1.free) a1.own z.1) ?_
    rintro r s2 ⟨rfl, I2⟩
    exact over H1 s2 I2 z.2
  | inr z =>
    obtain ⟨go, Nx, less, each⟩ := z
    refine thnF (T.item (inBlk X s0 scope H0 fp) rfl rfl rfl hc i [] s1 _ H1 (fun _ _ => False) a1.inv (fun b => a1.free) a1.own go) ?_
    rintro r s2 ⟨u, rfl, hu2⟩
    refine thnF hu2 ?_
    rintro _ s3 ⟨x, H3, I3, rx, hx, t3, n3⟩
    have a3 : AtTurn X s0 H0 scope fp tn (L2.wipe σ vs) (i + 1) H3 s3 := ⟨I3, t3, n3⟩
    have done : ∀ {σ4 : L2.St} {s5 : Shared} {H5 : Hp}, L2.wipe σ4 vs = L2.wipe σ vs → Inv (inBlk X s0 scope H0 fp) ([] ++ pinsAt fp s3.heap) σ4 H5 s5 → Nx H5 →
        ∃ m', m' < m ∧ ∃ i H, AtTurn X s0 H0 scope fp tn (L2.wipe σ vs) i H s5 ∧ W i m' H := by
      intro σ4 s5 H5 e I5 nx
      obtain ⟨m', lt, w⟩ := less H5 nx
      exact ⟨m', lt, i + 1, H5, AtTurn.next (τ := σ) T e t3 I5, w⟩
    refine thnF (pg.run _ s3 _ H3 x u _ (I3.pinned (fun b => a3.free) (T.obj _ _ t3)) rx (each x H3 hx)) ?_
    rintro _ s4 ⟨σ4, H4, I4, e4, q4⟩
    refine thnF (pt.run _ s4 σ4 H4 _ I4 q4) ?_
    rintro b s5 ⟨H5, I5, q5⟩
    rcases b with _ | _
    · exact done e4 I5 q5
    · refine thnF (pk.run _ s5 σ4 H5 _ I5 q5) ?_
      rintro kv s6 ⟨_, H6, I6, rk, ep, xs, p, k, rfl, hD, hks, hsz, hp, nx⟩
      cases rk
      exact Constant_bool (store_dct (X := inBlk X s0 scope H0 fp) hu I6 hD hks hsz hp fun ep7 s7 I7 => done e4 I7 (nx ep7))

end
section
variable {X : Cx} {kx tg iter : Expr} {ifs : List Expr} {scope : Scope} {own : List (Str × Nat)} {pos : Pos} {wi : TI} {g : TG} {tt : TT} {tk : TE} {tpos : Pos} {tj : Nat}

/-- the parts of such a comprehension, read -/
structure KeyParts (X : Cx) (kx tg iter : Expr) (ifs : List Expr) (scope : Scope) (own : List (Str × Nat)) (wi : TI) (g : TG) (tt : TT) (tk : TE) : Prop where
  line : X.A.units < cLine
  calm : X.calm = true
  nd : X.N.Nodup
  walk : PI X tg iter wi
  blk : BlkOk X.N X.env.scope scope own
  tgt : ∀ (s : Shared) (H : Hp) (fp : List Addr), PG (inBlk X s scope H fp) tg g
  test : ∀ (s : Shared) (H : Hp) (fp : List Addr), PTs (inBlk X s scope H fp) ifs tt
  key : ∀ (s : Shared) (H : Hp) (fp : List Addr), PE (inBlk X s scope H fp) kx tk
  plain : ∀ x, foldedSetIterable iter X.env x = pure x

theorem KeyParts.run (P : KeyParts X kx tg iter ifs scope own wi g tt tk) {pins : List (Addr × Obj)} {s : Shared} {σ : L2.St} {H : Hp} {Q : VK} {pos' : Pos} {use : Option (Value → Sem Unit)} {Qf : Value → Shared → Prop}
    (I : Inv X pins σ H s) (h : tDcT X.K wi g tt tk (own.map (·.2)) σ H Q)
    (hQ : ∀ D C s' m H', Inv X pins σ H' s' → Q (.ref D) H' → s'.heap.Ns C m → FpOk X pins H' C → compPost (model X.prog X.w) X.A X.xe use Qf (.ref D) C (.ok .next) s') :
    wpAny (model X.prog X.w) X.A (comprehension (.DictComp kx (.Constant (.bool true) tj tpos) [⟨tg, iter, ifs, 0⟩] scope pos) scope X.env pos' newDict false (eval iter X.env) use) Qf X.xe s := by
  have cells : ∀ y ∈ scope.names, y.2 = .free → ∃ c, X.env.cells.lookup y.1 = some c := by
    intro y hy e
    cases P.blk.free y hy e with
    | inl z => exact I.ok.has _ (.inl z)
    | inr z => exact I.ok.has _ (.inr z)
  have locs : ∀ y ∈ scope.names, y.2 = .local → scope.names.lookup y.1 = some .local := fun y hy e => (P.blk.uniq y hy).trans (congrArg some e)
  refine wpAny_comprehension_free (use := use) rfl P.plain (closure_ok cells) P.blk.kind locs ?_
  refine thn (P.walk.run pins s σ H _ I h) ?_
  intro x s1 h1
  refine thn h1 ?_
  rintro _ s2 ⟨it, fp, tn, J, H2, rfl, I2, T, t2, f2, h2⟩
  -- the dict
  refine wpAny_newObj_type ?_
  obtain ⟨W, ⟨m0, w0⟩, turn⟩ := h2 s2.heap.objs.size (I2.hok.fresh (Nat.le_refl _))
  have I3 : Inv X pins σ (upd H2 s2.heap.objs.size (dctO s2.heap.objs.size 0 [])) { s2 with heap := s2.heap.push { cls := .type "dict", data := .dict #[] } } :=
    I2.laid (t' := s2.toks) (fun b o e => Heap.get?_push_of_some _ e) (Nat.le_refl _)
      (dct_new s2.heap I2.big)
  have f3 : ∀ b ∈ fp, FpOk X pins (upd H2 s2.heap.objs.size (dctO s2.heap.objs.size 0 [])) b ∧ b < (s2.heap.push { cls := .type "dict", data := .dict #[] }).objs.size := by
    intro b hb
    obtain ⟨o, hbo, -⟩ := T.obj _ _ t2 b hb
    have lt : b < s2.heap.objs.size := Heap.lt_size hbo
    refine ⟨⟨(upd_ne (Nat.ne_of_lt lt)).trans (f2 b hb).1, (f2 b hb).2⟩, ?_⟩
    rw [Heap.size_push]
    exact Nat.lt_succ_of_lt lt
  have t3 : tn 0 (s2.heap.push { cls := .type "dict", data := .dict #[] }) := T.keep _ _ _ t2 fun b _ o e => Heap.get?_push_of_some _ e
  -- the block
  refine newEnv_comp ?_
  have t4 := T.keep _ _ (pushCells (((s2.heap.push { cls := .type "dict", data := .dict #[] })).push { cls := .type "dict", data := .dict #[] }) scope.names) t3 fun b _ o e => pushCells_keeps _ _ _ _ (Heap.get?_push_of_some _ e)
  have loop := keyLoop (σ := σ) (vs := own.map (·.2)) (pos := pos) (tpos := tpos) (tj := tj) (R := compPost (model X.prog X.w) X.A X.xe use Qf (.ref s2.heap.objs.size) (s2.heap.push { cls := .type "dict", data := .dict #[] }).objs.size) (iter := iter)
    P.line P.calm T (P.tgt _ _ fp) (P.test _ _ fp) (P.key _ _ fp) turn
    (fun H5 s5 I5 q => by
      obtain ⟨I6, f6, m, hm⟩ := AtTurn.leave I3 (fun b hb => (f3 b hb).1) I5
      exact hQ _ _ s5 m H5 I6 q hm f6)
    w0 ⟨block_start I3 P.blk P.nd f3, t4, fun b hb => (f3 b hb).1.1⟩
  exact codeAny_compStart_dict loop (T.self X.A 0 _ _ _ t4 loop)

theorem KeyParts.of (hu : X.A.units < cLine) (hc : X.calm = true) (hN : X.N.Nodup) (hi : PI X tg iter wi) (ok : BlkOk X.N X.env.scope scope own)
    (hg : ∀ (s : Shared) (H : Hp) (C : Addr) (cl : List (Str × Addr)) (fp : List Addr), PG (X.blk s H scope (compEnvC scope cl C X.env) fp) tg g) (ht : ∀ (s : Shared) (H : Hp) (C : Addr) (cl : List (Str × Addr)) (fp : List Addr), PTs (X.blk s H scope (compEnvC scope cl C X.env) fp) ifs tt)
    (hk : ∀ (s : Shared) (H : Hp) (C : Addr) (cl : List (Str × Addr)) (fp : List Addr), PE (X.blk s H scope (compEnvC scope cl C X.env) fp) kx tk)
    (hs : ∀ x, foldedSetIterable iter X.env x = pure x) : KeyParts X kx tg iter ifs scope own wi g tt tk :=
  ⟨hu, hc, hN, hi, ok, fun s H fp => hg s H _ _ fp, fun s H fp => ht s H _ _ fp, fun s H fp => hk s H _ _ fp, hs⟩

/-- the block's frame is dropped -/
theorem FpOk_drop {pins : List (Addr × Obj)} {σ : L2.St} {H : Hp} {s : Shared} {C : Addr} (f : FpOk X pins H C) (I : Inv X pins σ H s) {h' : Heap} (k : ∀ b o, b ≠ C → s.heap.get? b = some o → h'.get? b = some o) : Inv X pins σ H { s with heap := h' } :=
  I.turned (t' := s.toks) k f.1 f.2.1 f.2.2.2.1 f.2.2.2.2.1 f.2.2.2.2.2

theorem pe_dcT (hu : X.A.units < cLine) (hc : X.calm = true) (hN : X.N.Nodup) (hi : PI X tg iter wi) (ok : BlkOk X.N X.env.scope scope own)
    (hg : ∀ (s : Shared) (H : Hp) (C : Addr) (cl : List (Str × Addr)) (fp : List Addr), PG (X.blk s H scope (compEnvC scope cl C X.env) fp) tg g) (ht : ∀ (s : Shared) (H : Hp) (C : Addr) (cl : List (Str × Addr)) (fp : List Addr), PTs (X.blk s H scope (compEnvC scope cl C X.env) fp) ifs tt)
    (hk : ∀ (s : Shared) (H : Hp) (C : Addr) (cl : List (Str × Addr)) (fp : List Addr), PE (X.blk s H scope (compEnvC scope cl C X.env) fp) kx tk)
    (hs : ∀ x, foldedSetIterable iter X.env x = pure x := by intro _; rfl) :
    PE X (.DictComp kx (.Constant (.bool true) tj tpos) [⟨tg, iter, ifs, 0⟩] scope pos) (tDcT X.K wi g tt tk (own.map (·.2))) := by
  constructor
  intro pins s σ H Q I h
  rw [arm_eval_DictComp]
  refine (KeyParts.of hu hc hN hi ok hg ht hk hs).run I h ?_
  intro D C s' m H' I' q hm f
  refine ⟨m, hm, fun h2 sb => ⟨.ref D, H', FpOk_drop f I' ?_, rfl, q⟩⟩
  intro b o hb e
  rw [← e]
  exact sb.2 b hb

theorem ps_setDcT {i : Nat} {y : Str} {py spos : Pos} (hu : X.A.units < cLine) (hc : X.calm = true) (hN : X.N.Nodup) (hy : X.N[i]? = some y) (hyl : X.env.scope.names.lookup y = some .local)
    (hsw : swapsWith (.DictComp kx (.Constant (.bool true) tj tpos) [⟨tg, iter, ifs, 0⟩] scope pos) (some (.Name y py)) spos.line X.env = pure true) (hi : PI X tg iter wi) (ok : BlkOk X.N X.env.scope scope own)
    (hg : ∀ (s : Shared) (H : Hp) (C : Addr) (cl : List (Str × Addr)) (fp : List Addr), PG (X.blk s H scope (compEnvC scope cl C X.env) fp) tg g) (ht : ∀ (s : Shared) (H : Hp) (C : Addr) (cl : List (Str × Addr)) (fp : List Addr), PTs (X.blk s H scope (compEnvC scope cl C X.env) fp) ifs tt)
    (hk : ∀ (s : Shared) (H : Hp) (C : Addr) (cl : List (Str × Addr)) (fp : List Addr), PE (X.blk s H scope (compEnvC scope cl C X.env) fp) kx tk)
    (hs : ∀ x, foldedSetIterable iter X.env x = pure x := by intro _; rfl) :
    PS X (.Assign [.Name y py] (.DictComp kx (.Constant (.bool true) tj tpos) [⟨tg, iter, ifs, 0⟩] scope pos) spos) (tAsg (tDcT X.K wi g tt tk (own.map (·.2))) (gName i)) := by
  constructor
  intro pins s σ H D I h
  rw [exec_Assign_Name_used _ _ _ _ hsw]
  refine wpAny_bind (wpAny_standAt (wpAny_bind (wpAny_bind ?_)))
  have P := KeyParts.of hu hc hN hi ok hg ht hk hs
  refine thn (P.run (pos := pos) (tpos := tpos) (tj := tj) (pos' := firstIterPos [⟨tg, iter, ifs, 0⟩] pos) (use := some (assign (.Name y py) X.env)) (Q := fun x H1 => gName i x σ H1 D.nx) (Qf := fun _ s' => SP X pins D .next s') I h ?_) fun _ _ z => wpAny_pure (wpAny_pure z)
  intro L C s' m H' I' q hm f
  refine wpAny_assign_Name (store_ok2 (v := V.ref L) I' hN hy (.inl hyl) rfl ?_ (.inr hyl))
  rintro s2 I2 ⟨a, sb, ha⟩
  have ne : C ≠ a := by
    cases ha with
    | inl z => exact z ▸ f.2.1
    | inr z => exact Ne.symm (f.2.2.2.2.1 y a z)
  refine ⟨m, hm.sameBut sb ne, fun h3 sb3 => ⟨_, H', FpOk_drop f I2 ?_, q⟩⟩
  intro b o hb e
  rw [← e]
  exact sb3.2 b hb
end
end PD

set_option Elab.async false
set_option linter.all false
set_option maxRecDepth 100000
set_option maxHeartbeats 1000000
namespace PD
open PySem PySem.Spec PyProof.Rows L2

def dcGo (t : Tg) (ft : DnB) (fk : Dn) (ρ : Rho) : List PyData → List (List Int) → R (List (List Int))
  | [], acc => .ok acc
  | d :: ds, acc => match t.set d ρ with
    | some ρ1 => nx (ft ρ1) fun b => if b = true then nx (fk ρ1) fun y => (match asTu y with
        | some k => dcGo t ft fk ρ ds (if k ∈ acc then acc else acc ++ [k])
        | none => .bad) else dcGo t ft fk ρ ds acc
    | none => .bad
def keyD (k : List Int) : PyData × PyData := (.tuple (k.map .int), .bool true)
def dDc (fi : DnL) (t : Tg) (ft : DnB) (fk : Dn) (vs : List Nat) : Dn := fun ρ => fi ρ >>= fun ds => nx (dcGo t ft fk (wipeR ρ vs) ds []) fun ks => .ok (.dict (ks.map keyD))
theorem putT_keys (xs : List (List Int × Addr)) (k : List Int) (b : Addr) : (putT xs k b).map (·.1) = if k ∈ xs.map (·.1) then xs.map (·.1) else xs.map (·.1) ++ [k] := by
  unfold putT
  split
  · rfl
  · rw [List.map_append]; rfl
section
variable {K : PySem.W.Frag} {Tb : List Addr} {H0 H H1 : Hp} {O0 O : List Addr} {ρ : Rho} {σ : L2.St} {D p : Addr}
/-- an object of the ext kind that no heap of code objects alone makes true -/
def codeHeap (n : Nat) (q : Str) : Heap := { objs := Array.replicate n { cls := .none, data := .fields #[.none, .str q 0] } }
theorem codeHeap_get {n : Nat} {q : Str} {a : Addr} {o : Obj} (h : (codeHeap n q).get? a = some o) : o.data = .fields #[.none, .str q 0] := by
  unfold codeHeap Heap.get? at h
  dsimp only at h
  rw [Array.getElem?_replicate] at h
  by_cases z : a < n
  · rw [if_pos z] at h
    cases h
    rfl
  · rw [if_neg z] at h
    cases h
theorem plain_ext {φ : Heap → Prop} (h : ∀ n q, ¬ φ (codeHeap n q)) : Plain (HO.ext φ) := ⟨fun c q e => by
  unfold LamX.CodeO at e
  injection e with e
  have z := congrFun e (codeHeap (c + 1) q)
  refine h (c + 1) q (z.symm ▸ ⟨{ cls := .none, data := .fields #[.none, .str q 0] }, #[.none, .str q 0], 0, ?_, rfl, rfl⟩)
  unfold Heap.get? codeHeap
  simp, fun _ e => by cases e⟩
theorem plain_dct (a : Addr) (ep : Nat) (xs : List (List Int × Addr)) : Plain (dctO a ep xs) := plain_ext fun n q ⟨_, _, _, o, es, h1, _, h3, _⟩ => by
  rw [codeHeap_get h1] at h3
  cases h3
/-- the hidden object at D, which no slot owns, is changed; any object but a table -/
theorem St0.hidO {o o' : HO} (st : St0 K Tb H0 O0 O H σ ρ) (m : D ∈ O) (m0 : D ∉ O0) (hD : H D = some o) (po : Plain o) (pn : Plain o') (hs : ∀ (i : Nat) (s : Sl), s.Hold → ρ[i]? = some (some s) → σ[i]? ≠ some (some (.ref D))) (hxd : ∀ fs, o ≠ .xd fs := by intro _ z; cases z) : St0 K Tb H0 O0 O (upd H D o') σ ρ where
  ext := st.ext.updN (st.new D m m0) fun c q z => po.1 c q (Option.some.inj (hD.symm.trans z))
  sub := st.sub
  new := st.new
  al := fun b h => by
    by_cases hb : b = D
    · rw [hb, upd_same]; simp
    · rw [upd_ne hb]; exact st.al b h
  tab := fun P mp => by
    have hb : P ≠ D := tabG_ne (st.tab P mp) fun ps q => by rw [hD] at q; exact po.2 ps (Option.some.inj q)
    exact (st.tab P mp).mono (fun ps h => by rw [upd_ne hb]; exact h) fun c q h => by
      rw [upd_ne fun z => po.1 c q (Option.some.inj (hD.symm.trans (by rw [← z]; exact h)))]
      exact h
  pln := fun b mb nb => by
    by_cases hb : b = D
    · exact ⟨_, by rw [hb]; exact upd_same, pn⟩
    · obtain ⟨x, h, q⟩ := st.pln b mb nb
      exact ⟨x, by rw [upd_ne hb]; exact h, q⟩
  len := st.len
  slot := fun i x h => by
    obtain ⟨v, h1, h2⟩ := st.slot i x h
    refine ⟨v, h1, h2.mv (by rw [hide_upd m]; exact fun _ _ h _ => h) (fun hx p ev mp _ => ⟨mp, fun o hp _ => ?_⟩) fun dd fs h => ?_⟩
    · have hne : p ≠ D := fun e => hs i x hx h (by rw [h1, ev, e])
      rw [upd_ne hne]; exact hp
    · rw [upd_ne (fun e => by rw [e, hD] at h; exact hxd fs (Option.some.inj h))]; exact h
  inj := st.inj
end
section
variable {X : Cx} {Tb : List Addr} {W : WX}
theorem dc_walk {K : PySem.W.Frag} {t : Tg} {ft : DnB} {fk : Dn} {fi : DnL} {vs : List Nat} {σ : L2.St} {H : Hp} {Q : VK} (hv : ∀ i ∈ t.ixs, i ∈ vs) (h : tD K Tb W (dDc fi t ft fk vs) σ H Q) :
    tDcT K (tI K Tb W fi) (tG K Tb t) (tDT K Tb W0 ft) (tD K Tb W0 fk) vs σ H Q := by
  obtain ⟨H0, O0, O, ρ, st, h⟩ := h
  refine ⟨H0, O0, O, ρ, st, Post.then h fun ds J H1 e it k => ?_⟩
  cases q : dcGo t ft fk (wipeR ρ vs) ds [] with
  | exc x => rw [q] at k; exact k.elim
  | bad => rw [q] at k; exact k.elim
  | ok ks =>
    rw [q] at k
    have st1 := st.step e
    intro D nD
    have aD : D ∉ O := st1.fresh nD
    have stw := (st1.wiped vs).more (o := dctO D 0 []) nD (plain_dct D 0 [])
    have aD0 : D ∉ O0 := fun m => aD (st1.sub D m)
    have own : ∀ (i : Nat) (s : Sl), s.Hold → (wipeR ρ vs)[i]? = some (some s) → (L2.wipe σ vs)[i]? ≠ some (some (.ref D)) := fun i s hs h1 h2 => aD ((st1.wiped vs).hold hs h1 h2).1
    have nO : ∀ b ∈ D :: O, hide O H1 b = none := fun b hb => by
      rcases List.mem_cons.mp hb with rfl | hb
      · exact hide_none nD
      · exact hide_in hb
    refine ⟨fun i m H' => i ≤ ds.length ∧ m = ds.length - i ∧ ∃ ep xs, St0 K Tb H0 O0 (D :: O) H' (L2.wipe σ vs) (wipeR ρ vs) ∧ Ext H1 H' ∧ H' D = some (dctO D ep xs) ∧ (∀ x ∈ xs, SqT K (hide (D :: O) H') x.2 (x.1.map V.int)) ∧ xs.length ≤ i ∧ dcGo t ft fk (wipeR ρ vs) (ds.drop i) (xs.map (·.1)) = .ok ks,
      ⟨ds.length, Nat.zero_le _, by simp, 0, [], stw, Ext.new nD, upd_same, by simp, Nat.le_refl _, q⟩, ?_⟩
    rintro i m H' ⟨hi, rfl, ep, xs, s1, e1, hD, hk, la, go⟩
    have eG : Ext (hide O H1) H' := Ext.unhide.trans e1
    by_cases hlt : i < ds.length
    · refine .inr ⟨it.go i H' eG hlt, fun H2 => i + 1 ≤ ds.length ∧ ∃ ep xs, St0 K Tb H0 O0 (D :: O) H2 (L2.wipe σ vs) (wipeR ρ vs) ∧ Ext H1 H2 ∧ H2 D = some (dctO D ep xs) ∧ (∀ x ∈ xs, SqT K (hide (D :: O) H2) x.2 (x.1.map V.int)) ∧ xs.length ≤ i + 1 ∧ dcGo t ft fk (wipeR ρ vs) (ds.drop (i + 1)) (xs.map (·.1)) = .ok ks,
        fun H2 q => ⟨ds.length - (i + 1), by omega, q.1, rfl, q.2⟩, fun x H2 y => ?_⟩
      obtain ⟨e2, d, hd, rx⟩ := it.yld i H' (D :: O) x H2 eG nO s1.al hlt y
      have hdr : ds.drop i = d :: ds.drop (i + 1) := by
        obtain ⟨hl, hd'⟩ := List.getElem?_eq_some_iff.mp hd
        rw [List.drop_eq_getElem_cons hl, hd']
      rw [hdr] at go
      unfold dcGo at go
      cases et : t.set d (wipeR ρ vs) with
      | none => rw [et] at go; cases go
      | some ρ1 =>
        rw [et] at go
        obtain ⟨b, eb, go⟩ := nx_ok go
        have s2 := s1.step e2
        refine ⟨H0, O0, D :: O, wipeR ρ vs, ρ1, d, s2, rx, et, fun σ' st' ag => ⟨(ag.wipe hv).trans wipe_wipe, H0, O0, D :: O, ρ1, st', ?_⟩⟩
        rw [eb]
        intro b' H3 e3 r3
        cases (show b' = b from r3)
        have s3 := st'.step e3
        cases b with
        | false =>
          exact ⟨hlt, ep, xs, s2.step e3, (e1.trans e2).trans e3, (e2.trans e3).keep D _ hD (fun _ q => by cases q), fun x hx => (Sub.hide (e2.trans e3).keep).sqT (hk x hx), Nat.le_succ_of_le la, go⟩
        | true =>
          obtain ⟨yd, ey1, go⟩ := nx_ok go
          refine ⟨H0, O0, D :: O, ρ1, s3, ?_⟩
          rw [ey1]
          intro y H4 e4 r4
          cases ek : asTu yd with
          | none =>
            have go : (match asTu yd with | some k => dcGo t ft fk (wipeR ρ vs) (ds.drop (i + 1)) (if k ∈ xs.map Prod.fst then xs.map Prod.fst else xs.map Prod.fst ++ [k]) | none => R.bad) = .ok ks := go
            rw [ek] at go; cases go
          | some key =>
            have go : (match asTu yd with | some k => dcGo t ft fk (wipeR ρ vs) (ds.drop (i + 1)) (if k ∈ xs.map Prod.fst then xs.map Prod.fst else xs.map Prod.fst ++ [k]) | none => R.bad) = .ok ks := go
            rw [ek] at go
            obtain ⟨p, rfl, hp⟩ := asTu_rp r4 ek
            have e24 := (e2.trans e3).trans e4
            have hD4 := e24.keep D _ hD (fun _ q => by cases q)
            have s4 := (s2.step e3).step e4
            have hk4 : ∀ x ∈ xs, SqT K (hide (D :: O) H4) x.2 (x.1.map V.int) := fun x hx => (Sub.hide e24.keep).sqT (hk x hx)
            have zl : xs.length < sizeLine := by have := it.len; omega
            refine ⟨ep, xs, p, key, rfl, hD4, fun x hx => Sub.unhide.sqT (hk4 x hx), zl, Sub.unhide.sqT hp, fun ep' => ⟨hlt, ep', putT xs key p, s4.hidO List.mem_cons_self aD0 hD4 (plain_dct D _ _) (plain_dct D _ _) own, (e1.trans e24).updN nD (fun c q z => (plain_dct D _ _).1 c q (Option.some.inj (hD4.symm.trans z))), upd_same, fun x hx => ?_, by have := putT_len xs key p; omega, ?_⟩⟩
            · rw [hide_upd List.mem_cons_self]
              rcases putT_mem hx with hx | rfl
              · exact hk4 x hx
              · exact hp
            · rw [putT_keys]; exact go
    · have ei : i = ds.length := by omega
      subst ei
      refine .inl ⟨it.stop H' eG, ?_⟩
      rw [List.drop_length] at go
      cases go
      have e5 : (xs.map (·.1)).map keyD = xs.map dctE := by rw [List.map_map]; rfl
      refine k _ H' e1 ?_
      show Rp K (hide O H') (.ref D) (.dict ((xs.map (·.1)).map keyD))
      rw [e5]
      exact .dct (by rw [hide_out aD]; exact hD) fun x hx => (Sub.less fun b hb => List.mem_cons_of_mem _ hb).sqT (hk x hx)
/-- {key: True for t in i if c} -/
theorem fd_dc {kx tg iter : Expr} {ifs : List Expr} {scope : Scope} {own : List (Str × Nat)} {pos tpos : Pos} {tj k : Nat} {fi : DnL} {t : Tg} {ft : DnB} {fk : Dn} (hr : Room k X.A) (hc : X.calm = true) (hN : X.N.Nodup) (hi : PI X tg iter (tI X.K Tb W fi)) (ok : BlkOk X.N X.env.scope scope own)
    (hg : ∀ (s : Shared) (H : Hp) (C : Addr) (cl : List (Str × Addr)) (fp : List Addr), PG (X.blk s H scope (compEnvC scope cl C X.env) fp) tg (tG X.K Tb t))
    (ht : ∀ (s : Shared) (H : Hp) (C : Addr) (cl : List (Str × Addr)) (fp : List Addr), PTs (X.blk s H scope (compEnvC scope cl C X.env) fp) ifs (tDT X.K Tb W0 ft))
    (hk : ∀ (s : Shared) (H : Hp) (C : Addr) (cl : List (Str × Addr)) (fp : List Addr), PE (X.blk s H scope (compEnvC scope cl C X.env) fp) kx (tD X.K Tb W0 fk))
    (hv : ∀ i ∈ t.ixs, i ∈ own.map (·.2) := by decide) (hs : ∀ x, foldedSetIterable iter X.env x = pure x := by intro _; rfl) : PE X (.DictComp kx (.Constant (.bool true) tj tpos) [⟨tg, iter, ifs, 0⟩] scope pos) (tD X.K Tb W (dDc fi t ft fk (own.map (·.2)))) :=
  (pe_dcT (Nat.lt_of_le_of_lt (Nat.le_add_right _ _) hr.u64) hc hN hi ok hg ht hk hs).by fun σ H Q h => dc_walk hv h
/-- name = {key: True for ..} on one line -/
theorem fs_setDc {i : Nat} {y : Str} {py : Pos} {kx tg iter : Expr} {ifs : List Expr} {scope : Scope} {own : List (Str × Nat)} {pos spos tpos : Pos} {tj k : Nat} {fi : DnL} {t : Tg} {ft : DnB} {fk : Dn} (hr : Room k X.A) (hc : X.calm = true) (hN : X.N.Nodup) (hy : X.N[i]? = some y) (hyl : X.env.scope.names.lookup y = some .local)
    (hsw : swapsWith (.DictComp kx (.Constant (.bool true) tj tpos) [⟨tg, iter, ifs, 0⟩] scope pos) (some (.Name y py)) spos.line X.env = pure true) (hi : PI X tg iter (tI X.K Tb W fi)) (ok : BlkOk X.N X.env.scope scope own)
    (hg : ∀ (s : Shared) (H : Hp) (C : Addr) (cl : List (Str × Addr)) (fp : List Addr), PG (X.blk s H scope (compEnvC scope cl C X.env) fp) tg (tG X.K Tb t))
    (ht : ∀ (s : Shared) (H : Hp) (C : Addr) (cl : List (Str × Addr)) (fp : List Addr), PTs (X.blk s H scope (compEnvC scope cl C X.env) fp) ifs (tDT X.K Tb W0 ft))
    (hk : ∀ (s : Shared) (H : Hp) (C : Addr) (cl : List (Str × Addr)) (fp : List Addr), PE (X.blk s H scope (compEnvC scope cl C X.env) fp) kx (tD X.K Tb W0 fk))
    (hv : ∀ i ∈ t.ixs, i ∈ own.map (·.2) := by decide) (hs : ∀ x, foldedSetIterable iter X.env x = pure x := by intro _; rfl) :
    PS X (.Assign [.Name y py] (.DictComp kx (.Constant (.bool true) tj tpos) [⟨tg, iter, ifs, 0⟩] scope pos) spos) (tS X.K Tb W (gSet (dDc fi t ft fk (own.map (·.2))) (.nm i))) :=
  (ps_setDcT (Nat.lt_of_le_of_lt (Nat.le_add_right _ _) hr.u64) hc hN hy hyl hsw hi ok hg ht hk hs).by fun D σ H ⟨H0, O0, O, ρ, st, h⟩ => by
    refine dc_walk (W := W) (Q := fun x H1 => gName i x σ H1 D.nx) hv ⟨H0, O0, O, ρ, st, oR_post st h fun d v H1 e r k => ?_⟩
    have k : PostS X.K Tb W H0 O0 (oO (Tg.set (.nm i) d ρ)) D := k
    rw [show Tg.set (.nm i) d ρ = some (ρ.set i (some (.d d))) by rw [Tg.set]] at k
    exact k O _ H1 ((st.step e).set r)
variable {a : Expr} {f : Dn} {pos : Pos}
theorem ft_isN {j pos'} (ha : PE X a (tD X.K Tb W f)) : PT X (.Compare a [.Is] [.Constant .none j pos'] pos) (tDT X.K Tb W (dAsB (dOne (fun d => .ok (.bool (isNone d))) f))) := (pt_cmp (pc_isN ha) rfl).by fun σ H Q h => by
  obtain ⟨H0, O0, O, ρ, st, h⟩ := h
  refine ⟨H0, O0, O, ρ, st, Post.then (f := fun d => R.ok (isNone d)) (Rl' := RlB) (Q' := Q) ?_ fun d v H1 e r k => ?_⟩
  · have e : (f ρ >>= fun d => R.ok (isNone d)) = dAsB (dOne (fun d => .ok (.bool (isNone d))) f) ρ := by
      show _ = ((f ρ >>= fun d => R.ok (PyData.bool (isNone d))) >>= asB)
      cases f ρ <;> rfl
    rw [e]; exact h
  · have : decide (v = .non) = isNone d := by cases r <;> simp [isNone]
    rw [this]
    exact ⟨_, rfl, k _ H1 (Ext.refl _) rfl⟩
theorem ft_notN {j pos'} (ha : PE X a (tD X.K Tb W f)) : PT X (.Compare a [.IsNot] [.Constant .none j pos'] pos) (tDT X.K Tb W (dAsB (dOne (fun d => .ok (.bool (!isNone d))) f))) := (pt_cmp (pc_notN ha) rfl).by fun σ H Q h => by
  obtain ⟨H0, O0, O, ρ, st, h⟩ := h
  refine ⟨H0, O0, O, ρ, st, Post.then (f := fun d => R.ok (!isNone d)) (Rl' := RlB) (Q' := Q) ?_ fun d v H1 e r k => ?_⟩
  · have e : (f ρ >>= fun d => R.ok (!isNone d)) = dAsB (dOne (fun d => .ok (.bool (!isNone d))) f) ρ := by
      show _ = ((f ρ >>= fun d => R.ok (PyData.bool (!isNone d))) >>= asB)
      cases f ρ <;> rfl
    rw [e]; exact h
  · have : decide (v = .non) = isNone d := by cases r <;> simp [isNone]
    rw [this]
    exact ⟨_, rfl, k _ H1 (Ext.refl _) rfl⟩
end
end PD

set_option Elab.async false
set_option linter.all false
set_option maxRecDepth 100000
set_option maxHeartbeats 1000000
namespace PD
open PySem PySem.Spec PyProof.Rows L2

/-! ### `x is True`, `x is not True`: both sides bools -/
def oIs : PyData → PyData → R PyData
  | .bool a, .bool b => .ok (.bool (a == b))
  | _, _ => .bad
def oIsNot : PyData → PyData → R PyData
  | .bool a, .bool b => .ok (.bool (!(a == b)))
  | _, _ => .bad
/-- two bools -/
def rBB (f : Bool → Bool → Bool) : R2 := fun x y H Q => ∃ a b, x = .bl a ∧ y = .bl b ∧ Q (.bl (f a b)) H
section
variable {X : Cx} {K : PySem.W.Frag}
theorem op_isB : OpR X (compareOp .Is) (rBB fun a b => a == b) := by
  rintro pins s σ H _ _ v u Q I rx ry ⟨a, b, rfl, rfl, q⟩
  cases rx; cases ry
  refine wpAny_is_plain rfl ⟨.bl (a == b), H, I, ?_, q⟩
  cases a <;> cases b <;> rfl
theorem op_notB : OpR X (compareOp .IsNot) (rBB fun a b => !(a == b)) := by
  rintro pins s σ H _ _ v u Q I rx ry ⟨a, b, rfl, rfl, q⟩
  cases rx; cases ry
  refine wpAny_isNot_plain rfl ⟨.bl (!(a == b)), H, I, ?_, q⟩
  cases a <;> cases b <;> rfl
theorem ok_bb {f : Bool → Bool → Bool} {u : PyData → PyData → R PyData} (hu : ∀ d e, (∃ a b, d = .bool a ∧ e = .bool b ∧ u d e = .ok (.bool (f a b))) ∨ u d e = .bad) : Ok2 K (rBB f) u := by
  intro O H Wx x y d e Q al hx hy h
  rcases hu d e with ⟨a, b, rfl, rfl, z⟩ | z
  · rw [z] at h
    cases hx; cases hy
    exact ⟨a, b, rfl, rfl, Post.here h (.bl _)⟩
  · rw [z] at h
    exact h.elim
theorem ok_is : Ok2 K (rBB fun a b => a == b) oIs := ok_bb fun d e => by
  unfold oIs
  split
  · exact .inl ⟨_, _, rfl, rfl, rfl⟩
  · exact .inr rfl
theorem ok_isNot : Ok2 K (rBB fun a b => !(a == b)) oIsNot := ok_bb fun d e => by
  unfold oIsNot
  split
  · exact .inl ⟨_, _, rfl, rfl, rfl⟩
  · exact .inr rfl
variable {Tb : Nat → Prop} {a b : Expr} {f g : Dn} {pos : Pos}
end
section
variable {X : Cx} {a b : Expr} {f g : Dn} {pos : Pos}
theorem e_isB (ha : PE X a (tD X.K Tb W f)) (hb : PE X b (tD X.K Tb W g)) (hm : behindInMarks .Is b = false := by rfl) : PE X (.Compare a [.Is] [b] pos) (tD X.K Tb W (dTwo oIs f g)) := fd_cmp op_isB ok_is ha hb hm
theorem e_isntB (ha : PE X a (tD X.K Tb W f)) (hb : PE X b (tD X.K Tb W g)) (hm : behindInMarks .IsNot b = false := by rfl) : PE X (.Compare a [.IsNot] [b] pos) (tD X.K Tb W (dTwo oIsNot f g)) := fd_cmp op_notB ok_isNot ha hb hm
theorem t_isB (ha : PE X a (tD X.K Tb W f)) (hb : PE X b (tD X.K Tb W g)) (hm : behindInMarks .Is b = false := by rfl) : PT X (.Compare a [.Is] [b] pos) (tDT X.K Tb W (dAsB (dTwo oIs f g))) := ft_cmp op_isB ok_is ha hb hm
theorem t_isntB (ha : PE X a (tD X.K Tb W f)) (hb : PE X b (tD X.K Tb W g)) (hm : behindInMarks .IsNot b = false := by rfl) : PT X (.Compare a [.IsNot] [b] pos) (tDT X.K Tb W (dAsB (dTwo oIsNot f g))) := ft_cmp op_notB ok_isNot ha hb hm
end
end PD

set_option Elab.async false
set_option linter.all false
set_option maxRecDepth 100000
set_option maxHeartbeats 1000000
namespace PD
open PySem PySem.Spec PyProof.Rows L2

/-! ### tuples of ints, compared by their order -/
/-- the reading of the turns from place i on -/
theorem lexAt_drop (ns ms : List Int) : ∀ (k i : Nat), i + k = min ns.length ms.length →
    Ob.lexAt (fun j => decide (ns.getD j 0 = ms.getD j 0)) (fun j => decide (ns.getD j 0 ≤ ms.getD j 0)) (decide (ns.length ≤ ms.length)) i k = !(HT.lexLt (ms.drop i) (ns.drop i))
  | 0, i, h => by
    rw [Ob.lexAt_zero]
    by_cases z : ns.length ≤ ms.length
    · have : ns.drop i = [] := List.drop_eq_nil_of_le (by omega)
      rw [this, decide_eq_true z]
      cases ms.drop i <;> rfl
    · have e : ms.drop i = [] := List.drop_eq_nil_of_le (by omega)
      have l : i < ns.length := by omega
      rw [e, decide_eq_false z, List.drop_eq_getElem_cons l]
      rfl
  | k + 1, i, h => by
    have l1 : i < ns.length := by omega
    have l2 : i < ms.length := by omega
    have g1 : ns.getD i 0 = ns[i] := by simp [List.getD, l1]
    have g2 : ms.getD i 0 = ms[i] := by simp [List.getD, l2]
    rw [Ob.lexAt_succ, lexAt_drop ns ms k (i + 1) (by omega), List.drop_eq_getElem_cons l1, List.drop_eq_getElem_cons l2, HT.lexLt_cons, g1, g2]
    by_cases e : ns[i] = ms[i]
    · rw [if_pos e.symm]
      simp [e]
    · rw [if_neg (Ne.symm e)]
      simp only [e, decide_false, Bool.false_eq_true, if_false]
      by_cases z : ns[i] ≤ ms[i]
      · rw [decide_eq_true z, decide_eq_false (Int.not_lt.mpr z)]
        rfl
      · rw [decide_eq_false z, decide_eq_true (Int.not_le.mp z)]
        rfl
/-- t <= u: u does not come before t -/
def leT (ns ms : List Int) : Bool := !(HT.lexLt ms ns)
theorem lexAt_all (ns ms : List Int) : Ob.lexAt (fun j => decide (ns.getD j 0 = ms.getD j 0)) (fun j => decide (ns.getD j 0 ≤ ms.getD j 0)) (decide (ns.length ≤ ms.length)) 0 (min ns.length ms.length) = leT ns ms := by
  rw [lexAt_drop ns ms _ 0 (Nat.zero_add _)]
  rfl
def oLeT (d e : PyData) : R PyData := match asTu d, asTu e with
  | some k, some l => .ok (.bool (leT k l))
  | _, _ => .bad
def oLtT (d e : PyData) : R PyData := match asTu d, asTu e with
  | some k, some l => .ok (.bool (HT.lexLt k l))
  | _, _ => .bad
section
variable {K : PySem.W.Frag}
theorem ok_leT : Ok2 K (rLeT K) oLeT := by
  intro O H Wx x y d e Q al hx hy h
  unfold oLeT at h
  split at h
  · rename_i k l hk hl
    obtain ⟨a, rfl, ha⟩ := asTu_rp hx hk
    obtain ⟨b, rfl, hb⟩ := asTu_rp hy hl
    refine ⟨a, b, k, l, rfl, rfl, Sub.unhide.sqT ha, Sub.unhide.sqT hb, ?_⟩
    rw [lexAt_all]
    exact Post.here h (.bl _)
  · exact h.elim
theorem ok_ltT : Ok2 K (rLtT K) oLtT := by
  intro O H Wx x y d e Q al hx hy h
  unfold oLtT at h
  split at h
  · rename_i k l hk hl
    obtain ⟨a, rfl, ha⟩ := asTu_rp hx hk
    obtain ⟨b, rfl, hb⟩ := asTu_rp hy hl
    exact ⟨a, b, k, l, rfl, rfl, Sub.unhide.sqT ha, Sub.unhide.sqT hb, Post.here h (.bl _)⟩
  · exact h.elim
end
theorem _root_.L2.Room.u0 {k : Nat} {A : Around} (r : Room k A) : A.units < cLine := Nat.lt_of_le_of_lt (Nat.le_add_right _ _) r.u64
section
variable {X : Cx} {Tb : List Addr} {W : WX} {a b : Expr} {f g : Dn} {pos : Pos} {k : Nat}
theorem e_leT (hr : Room k X.A) (ha : PE X a (tD X.K Tb W f)) (hb : PE X b (tD X.K Tb W g)) (hm : behindInMarks .LtE b = false := by rfl) : PE X (.Compare a [.LtE] [b] pos) (tD X.K Tb W (dTwo oLeT f g)) := fd_cmp (op_leT hr.u0) ok_leT ha hb hm
theorem t_leT (hr : Room k X.A) (ha : PE X a (tD X.K Tb W f)) (hb : PE X b (tD X.K Tb W g)) (hm : behindInMarks .LtE b = false := by rfl) : PT X (.Compare a [.LtE] [b] pos) (tDT X.K Tb W (dAsB (dTwo oLeT f g))) := ft_cmp (op_leT hr.u0) ok_leT ha hb hm
theorem e_ltT (hr : Room k X.A) (ha : PE X a (tD X.K Tb W f)) (hb : PE X b (tD X.K Tb W g)) (hm : behindInMarks .Lt b = false := by rfl) : PE X (.Compare a [.Lt] [b] pos) (tD X.K Tb W (dTwo oLtT f g)) := fd_cmp (op_ltT hr.u0) ok_ltT ha hb hm
theorem t_ltT (hr : Room k X.A) (ha : PE X a (tD X.K Tb W f)) (hb : PE X b (tD X.K Tb W g)) (hm : behindInMarks .Lt b = false := by rfl) : PT X (.Compare a [.Lt] [b] pos) (tDT X.K Tb W (dAsB (dTwo oLtT f g))) := ft_cmp (op_ltT hr.u0) ok_ltT ha hb hm
/-- evaluated -/
theorem asTu_of (k : List Int) : asTu (.tuple (k.map .int)) = some k := by
  unfold asTu
  exact asInts_ints k
theorem oLeT_tu (k l : List Int) : oLeT (.tuple (k.map .int)) (.tuple (l.map .int)) = .ok (.bool (leT k l)) := by
  unfold oLeT
  rw [asTu_of, asTu_of]
theorem oLtT_tu (k l : List Int) : oLtT (.tuple (k.map .int)) (.tuple (l.map .int)) = .ok (.bool (HT.lexLt k l)) := by
  unfold oLtT
  rw [asTu_of, asTu_of]
end
end PD

set_option Elab.async false
set_option linter.all false
set_option maxRecDepth 100000
set_option maxHeartbeats 1000000
namespace PD
open PySem PySem.Spec PyProof.Rows L2

/-! ### enumerate and zip over lists and tuples alike -/
def SqX (K : PySem.W.Frag) (H : Hp) (tp : Bool) (a : Addr) (xs : List V) : Prop := match tp with
  | true => SqT K H a xs
  | false => SqL K H a xs
def ItX (h : Heap) (tp : Bool) (it a : Addr) (i : Nat) : Prop := match tp with
  | true => h.IsTupleIter it a i
  | false => h.IsListIter it a i
def PlX (h : Heap) (tp : Bool) (a : Addr) (its : Array Value) : Prop := match tp with
  | true => h.IsTuple a its
  | false => h.IsList a its
def itO (tp : Bool) (a : Addr) : Obj := match tp with
  | true => { cls := .type "tuple_iterator", data := .fields #[.ref a, .int 0 0] }
  | false => { cls := .type "list_iterator", data := .fields #[.ref a, .int 0 0] }
theorem drawsX {prog : Program} {w : World} {A : Around} (hh : A.handled = none) (tp : Bool) {it a : Addr} (ne : a ≠ it) (its : Array Value) :
    Draws prog w A it [it, a] its.size (fun i v => its[i]? = some v) (fun i h => ItX h tp it a i ∧ PlX h tp a its) := by
  cases tp with
  | true => exact Draws.tuple hh it a ne its
  | false => exact Draws.list hh it a ne its
theorem beginsX (tp : Bool) (a : Addr) (its : Array Value) : Begins (.ref a) (itO tp a) (fun h => PlX h tp a its) := by
  cases tp with
  | true => exact begins_tuple a its
  | false => exact begins_list a its
theorem itX_new {h : Heap} {tp : Bool} {it a : Addr} (e : h.get? it = some (itO tp a)) : ItX h tp it a 0 := by
  cases tp with
  | true => exact ⟨_, e, rfl, rfl⟩
  | false => exact ⟨_, e, rfl, rfl⟩
theorem ItX.obj {h : Heap} {tp : Bool} {it a : Addr} {i : Nat} (x : ItX h tp it a i) : ∃ o, h.get? it = some o ∧ ∀ v, o.data ≠ .cell v := by
  cases tp with
  | true =>
    obtain ⟨o, e, _, d⟩ := x
    exact ⟨o, e, fun v q => by rw [d] at q; cases q⟩
  | false =>
    obtain ⟨o, e, _, d⟩ := x
    exact ⟨o, e, fun v q => by rw [d] at q; cases q⟩
theorem ItX.at {h h' : Heap} {tp : Bool} {it a : Addr} {i : Nat} (x : ItX h tp it a i) (e : ∀ o, h.get? it = some o → h'.get? it = some o) : ItX h' tp it a i := by
  cases tp with
  | true => exact Heap.IsTupleIter.at x e
  | false => exact Heap.IsListIter.at x e
section
variable {X : Cx} {pins : List (Addr × Obj)} {σ : L2.St} {H : Hp} {s : Shared} {tp : Bool} {a : Addr} {xs ys : List V}
theorem sqX_read (I : Inv X pins σ H s) (h : SqX X.K H tp a xs) : ∃ its : List Value, Vals xs its ∧ PlX s.heap tp a its.toArray := by
  cases tp with
  | true =>
    obtain ⟨its, rv, p, _⟩ := I.tuple h
    exact ⟨its, rv, p⟩
  | false =>
    obtain ⟨its, rv, p, _⟩ := I.list h
    exact ⟨its, rv, p.isList⟩
theorem sqX_inj (I : Inv X pins σ H s) (h : SqX X.K H tp a xs) (h' : SqX X.K H tp a ys) : xs = ys := by
  cases tp with
  | true => exact I.tuple_inj h h'
  | false => exact I.list_inj h h'
theorem PlX.lt {h : Heap} {its : Array Value} (p : PlX h tp a its) : a < h.objs.size := by
  cases tp with
  | true => obtain ⟨_, e, _⟩ := p; exact Heap.lt_size e
  | false => obtain ⟨_, e, _⟩ := p; exact Heap.lt_size e
theorem SqX.step {K : PySem.W.Frag} {G G' : Hp} (s : Sub G G') (h : SqX K G tp a xs) : SqX K G' tp a xs := by
  cases tp with
  | true => exact s.sqT h
  | false => exact s.sqL h
end
def Ige (K : PySem.W.Frag) (tp : Bool) (a : Addr) (k : Int) : It where
  go i H := ∃ (xs : List V) (x : V), SqX K H tp a xs ∧ xs[i]? = some x
  yld i H v H' := ∃ T x, v = .ref T ∧ H T = none ∧ H' = upd H T (.tup [.int (k + (i : Nat)), x]) ∧ ∀ xs, SqX K H tp a xs → xs[i]? = some x
  stop i H := ∃ xs : List V, SqX K H tp a xs ∧ xs.length = i
theorem turn_enumX {P : Program} {w : World} {K : PySem.W.Frag} {elts : List Expr} {kk : Nat} {tpos : Pos} {tp : Bool} {k : Int} {a e it : Addr} (n1 : e ≠ it) (n2 : a ≠ it) (n3 : a ≠ e) :
    Turn P w K (.Tuple elts kk tpos) (Ige K tp a k) [e, it] e (fun i h => (∃ old, IsEnum h e it (k + (i : Nat)) old) ∧ ItX h tp it a i) where
  mem := List.mem_cons_self
  obj := fun i h ⟨⟨old, he⟩, hi⟩ b hb => by
    rcases List.mem_cons.mp hb with z | z
    · subst z
      exact ⟨_, he, fun v q => nomatch q⟩
    · cases List.mem_singleton.mp z
      exact hi.obj
  keep := fun i h h' ⟨⟨old, he⟩, hi⟩ q => ⟨⟨old, q e List.mem_cons_self _ he⟩, hi.at fun o z => q it (List.mem_cons_of_mem _ List.mem_cons_self) o z⟩
  item := by
    intro X hP hw hK hc i pins s σ H E I hf st hg
    cases hP; cases hw; cases hK
    obtain ⟨⟨old, he⟩, hit⟩ := st
    obtain ⟨xs, x, hq, hx⟩ := hg
    obtain ⟨its, rv, p⟩ := sqX_read I hq
    obtain ⟨u, hu, ru⟩ := rv.get hx
    have big : e < s.heap.objs.size := Heap.lt_size he
    have lti : i < its.toArray.size := by
      obtain ⟨z, _⟩ := List.getElem?_eq_some_iff.mp hu
      simpa using z
    have D := drawsX (prog := X.prog) (w := X.w) (A := X.A.in1) (I.ok.hd hc) tp n2 its.toArray
    refine wpAny_pyNext_enum_itemC D he ⟨hit, p⟩ lti n1 (by simp only [List.mem_cons, List.not_mem_nil, or_false, not_or]; exact ⟨n1, n3.symm⟩) fun y h1 tk hy ho st1 hT hsz hk => ?_
    have ey : y = u := by
      have hy : its.toArray[i]? = some y := hy
      rw [List.getElem?_toArray, hu] at hy
      exact (Option.some.inj hy).symm
    subst ey
    refine ⟨_, rfl, wpAny_letOwnedTupleGo_enum (s := { s with heap := h1, toks := tk + 1 }) ho fun h2 he2 sb => ?_⟩
    have hT2 : h2.get? s.heap.objs.size = some { cls := .type "tuple", data := .seq #[.int (k + (i : Nat)) tk, y] } := (sb.2 _ (Nat.ne_of_gt big)).trans hT
    have fresh : ObjOk X.prog X.w (upd H s.heap.objs.size (.tup [.int (k + (i : Nat)), x])) h2 s.heap.objs.size (.tup [.int (k + (i : Nat)), x]) :=
      ⟨by show 2 ≤ sizeLine; rw [sizeLine_eq]; decide, [.int (k + (i : Nat)) tk, y], .cons ⟨_, rfl⟩ (.cons ru .nil), ⟨_, hT2, rfl, _, rfl⟩⟩
    have I1 : Inv X pins σ (upd H s.heap.objs.size (.tup [.int (k + (i : Nat)), x])) { s with heap := h2, toks := tk + 1 } :=
      I.turnedNew (ch := [e, it]) (fun b ob hb q => by
        rw [List.mem_cons, List.mem_singleton, not_or] at hb
        exact (sb.2 b hb.1).trans (hk b ob hb.1 hb.2 q)) hf (Nat.le_refl _) fresh
    refine ⟨.ref s.heap.objs.size, _, I1, rfl, ⟨_, x, rfl, I.hok.fresh (Nat.le_refl _), rfl, fun ys hy => by rw [sqX_inj I hy hq]; exact hx⟩, ⟨⟨y, ?_⟩, st1.1.at fun o q => (sb.2 it n1.symm).trans q⟩, fun b hb => ?_⟩
    · rw [show k + ((i + 1 : Nat) : Int) = k + (i : Int) + 1 by omega]
      exact he2
    · have hb2 : b < s.heap.objs.size := by
        rcases List.mem_cons.mp hb with z | z
        · rw [z]; exact big
        · rw [List.mem_singleton.mp z]
          obtain ⟨o, q, _⟩ := hit.obj
          exact Heap.lt_size q
      rw [upd_ne (Nat.ne_of_lt hb2)]
      exact (hf b hb).1
  done := by
    intro X hP hw hK hc i pins s σ H E I hf st hg
    cases hP; cases hw; cases hK
    obtain ⟨⟨old, he⟩, hit⟩ := st
    obtain ⟨xs, hq, hx⟩ := hg
    obtain ⟨its, rv, p⟩ := sqX_read I hq
    have D := drawsX (prog := X.prog) (w := X.w) (A := X.A.in1) (I.ok.hd hc) tp n2 its.toArray
    have el : i = its.toArray.size := by
      have := rv.length
      simp
      omega
    subst el
    obtain ⟨f0, f1, f2, f3, f4, f5⟩ := hf it (List.mem_cons_of_mem _ List.mem_cons_self)
    exact wpAny_pyNext_enum_endD D he ⟨hit, p⟩ fun h' eb => ⟨rfl, I.turned (t' := s.toks) (fun b o hb q => eb b o hb q) f0 f1 f3 f4 f5⟩
  self := fun A i s Q E ⟨⟨_, he⟩, _⟩ h => wpAny_pyIter_enum he h

theorem enum_new1 {v : Value} {o : Obj} {Hq : Heap → Prop} (B : Begins v o Hq) :
    Meets (Builtin.«enumerate.__new__» ⟨[.type "enumerate", v], []⟩) (fun _ R s => Hq s.heap ∧
      R (.ok (.ret (.ref (s.heap.push o).objs.size))) { s with heap := (s.heap.push o).push { cls := .type "enumerate", data := .fields #[.none, .bool false, .ref s.heap.objs.size, rawInt 0, .none, .none] } }) :=
  .of_wp fun prog w A R s h => by
    obtain ⟨hp, g, d, tk, os⟩ := s
    obtain ⟨h1, h⟩ := h
    have hsub := sub_enumerate
    have q1 : ∀ {A1 : Around} {E : Value → Shared → Prop} {Q : Value → Shared → Prop}, Q (.ref hp.objs.size) ⟨hp.push o, g, d, tk, os⟩ → wpAny (model prog w) A1 (pyIter v) Q E ⟨hp, g, d, tk, os⟩ :=
      fun q => B.iter prog w _ _ ⟨hp, g, d, tk, os⟩ _ h1 q
    wp_walk using q1
    refine wpAny_stack_any fun st => wpAny_pure ?_
    split
    · rename_i c _ _ _ _ _
      cases (c == Value.type "enumerate") <;> wp_walk using q1 <;> exact ⟨_, rfl, h⟩
    · wp_walk using q1
      exact ⟨_, rfl, h⟩
theorem enum_begins1 {prog : Program} {w : World} {A : Around} {E : Value → Shared → Prop} {s : Shared} {v : Value} {o : Obj} {Hq : Heap → Prop} {Q : Value → Shared → Prop} (B : Begins v o Hq) (h1 : Hq s.heap)
    (h : ∀ h', IsEnum h' (s.heap.objs.size + 1) s.heap.objs.size 0 .none → h'.get? s.heap.objs.size = some o → (∀ b o, s.heap.get? b = some o → h'.get? b = some o) → Q (.ref (s.heap.objs.size + 1)) { s with heap := h' }) :
    wpAny (model prog w) A (call (.type "enumerate") [v]) Q E s := by
  refine callType_new F.called_enumerate (by decide) (F.typeCall_enumerate_1 _) (F.newCall_enumerate_1 _) (fun obj => F.args_object_init_2 obj _) F.entry_enumerate_new (enum_new1 B) ⟨h1, ?_⟩
  have hz : (s.heap.push o).objs.size = s.heap.objs.size + 1 := Heap.size_push ..
  show _ ∧ _
  rw [hz]
  have he : IsEnum ((s.heap.push o).push { cls := .type "enumerate", data := .fields #[.none, .bool false, .ref s.heap.objs.size, rawInt 0, .none, .none] }) (s.heap.objs.size + 1) s.heap.objs.size 0 .none := by
    have := Heap.get?_push_size (s.heap.push o) (o := { cls := .type "enumerate", data := .fields #[.none, .bool false, .ref s.heap.objs.size, rawInt 0, .none, .none] }) rfl
    rw [hz] at this
    exact this
  exact ⟨⟨_, he, rfl⟩, h _ he (Heap.get?_push_of_some _ (Heap.get?_push_size _ B.free)) fun b o x => Heap.get?_push_of_some _ (Heap.get?_push_of_some _ x)⟩
def iEnumX (K : PySem.W.Frag) (ta : TA) : TI := fun σ H R => ta σ H fun vs H1 => ∃ tp a xs, vs = [.ref a] ∧ SqX K H1 tp a xs ∧ R (Ige K tp a 0) H1
theorem pi_enumX {X : Cx} {e : Expr} {ta : TA} {p pos tpos : Pos} {elts : List Expr} {kk : Nat} (hg : Gl X "enumerate") (hm : X.mg "enumerate" = none) (ha : PA X [e] ta) (hs : starEach [e] X.env = [(false, eval e X.env)] := by rfl) :
    PI X (.Tuple elts kk tpos) (.Call (.Name "enumerate" p) [e] [] pos) (iEnumX X.K ta) := by
  refine ⟨fun pins s σ H R I h => Call_ (ld_blt I hg hm boot_enumerate (PyProof.Rows.callWith_type1 (thn (ha.run pos pins s σ H _ I h) fun us s1 ⟨vs, H1, I1, r1, q1⟩ => ?_) hs rfl))⟩
  obtain ⟨tp, a, xs, rfl, hq, q⟩ := q1
  cases r1 with
  | cons r rr =>
    cases rr
    cases r
    obtain ⟨its, rv, p'⟩ := sqX_read I1 hq
    have la := p'.lt
    refine enum_begins1 (beginsX tp a its.toArray) p' fun h' he hit hk => wpAny_pyIter_enum he ?_
    have I2 : Inv X pins σ H1 { s1 with heap := h' } := I1.kept (t' := s1.toks) hk
    refine ⟨s1.heap.objs.size + 1, [s1.heap.objs.size + 1, s1.heap.objs.size], _, _, H1, rfl, I2, turn_enumX (e := s1.heap.objs.size + 1) (it := s1.heap.objs.size) (k := 0) (Nat.succ_ne_self _) (Nat.ne_of_lt la) (Nat.ne_of_lt (Nat.lt_succ_of_lt la)), ⟨⟨.none, he⟩, itX_new hit⟩, fun b hb => ?_, q⟩
    have hle : s1.heap.objs.size ≤ b := by
      rcases List.mem_cons.mp hb with z | z
      · rw [z]; exact Nat.le_succ _
      · rw [List.mem_singleton.mp z]; exact Nat.le_refl _
    exact I1.fpOk hle (I1.hok.fresh hle)

/-! the numbered items -/
def enumF (k : Int) : List PyData → List PyData
  | [] => []
  | d :: ds => .tuple [.int k, d] :: enumF (k + 1) ds
theorem enumF_len (k : Int) : ∀ ds : List PyData, (enumF k ds).length = ds.length
  | [] => rfl
  | d :: ds => by simp [enumF, enumF_len (k + 1) ds]
theorem enumF_get : ∀ {k : Int} {ds : List PyData} {i : Nat} {d : PyData}, ds[i]? = some d → (enumF k ds)[i]? = some (.tuple [.int (k + (i : Nat)), d])
  | k, d :: ds, 0, e, h => by
    cases h
    simp [enumF]
  | k, d :: ds, i + 1, e, h => by
    have := enumF_get (k := k + 1) (ds := ds) (i := i) (d := e) (by simpa using h)
    simp only [enumF, List.getElem?_cons_succ, this]
    congr 4
    omega
  | k, [], i, e, h => by simp at h
theorem Ext.pair {H : Hp} {T : Addr} {o : HO} (h : H T = none) : Ext H (upd H T o) := Ext.new h
section
variable {K : PySem.W.Frag} {G H H' H'' : Hp} {O O' : List Addr} {a : Addr} {ds : List PyData} {xs : List V} {tp : Bool}
theorem itd_enum {k : Int} (h : SqX K G tp a xs) (z : ds.length ≤ sizeLine) (r : RpAll K G xs ds) : ItD K G (Ige K tp a k) (enumF k ds) where
  len := by rw [enumF_len]; exact z
  go := fun i H' e hi => by
    rw [enumF_len] at hi
    have hx : i < xs.length := by rw [r.length]; exact hi
    exact ⟨xs, xs[i], h.step (Sub.ext e), List.getElem?_eq_getElem hx⟩
  yld := fun i H' O' x H'' e n al hi y => by
    obtain ⟨T, v, rfl, nT, rfl, y⟩ := y
    obtain ⟨d, h1, h2⟩ := r.get (y xs (h.step (Sub.ext e)))
    refine ⟨Ext.new nT, _, enumF_get h1, .tup (.of ?_) (by show 2 ≤ sizeLine; rw [sizeLine_eq]; decide) (.cons (.int _) (.cons (h2.mono ?_) .nil))⟩
    · rw [hide_out fun m => al T m nT, upd_same]
    · exact ((e.trans (Ext.new nT)).under n)
  stop := fun H' e => ⟨xs, h.step (Sub.ext e), by rw [enumF_len]; exact r.length⟩
end
def enumA : List PyData → R (List PyData)
  | [d] => items d >>= fun ds => .ok (enumF 0 ds)
  | _ => .bad
def dEnum (g : DnL) : DnL := fun ρ => g ρ >>= enumA
theorem rp_items {K : PySem.W.Frag} {G : Hp} {v : V} {d : PyData} {ds : List PyData} (r : Rp K G v d) (h : items d = .ok ds) : ∃ tp a xs, v = .ref a ∧ SqX K G tp a xs ∧ ds.length ≤ sizeLine ∧ RpAll K G xs ds := by
  unfold items at h
  split at h
  · cases h
    cases r with
    | lst h1 z1 a1 => exact ⟨false, _, _, rfl, h1, z1, a1⟩
  · cases h
    cases r with
    | tup h1 z1 a1 => exact ⟨true, _, _, rfl, h1, z1, a1⟩
  · cases h
theorem items_no {d : PyData} {x : Ex} : items d ≠ .exc x := by unfold items; split <;> exact fun h => by cases h
theorem fi_enum {X : Cx} {Tb : List Addr} {W : WX} {e : Expr} {g : DnL} {p pos tpos : Pos} {elts : List Expr} {kk : Nat} (hg : Gl X "enumerate") (hm : X.mg "enumerate" = none) (ha : PA X [e] (tDs X.K Tb W g)) (hs : starEach [e] X.env = [(false, eval e X.env)] := by rfl) :
    PI X (.Tuple elts kk tpos) (.Call (.Name "enumerate" p) [e] [] pos) (tI X.K Tb W (dEnum g)) := (pi_enumX hg hm ha hs).by fun σ H R ⟨H0, O0, O, ρ, st, h⟩ => ⟨H0, O0, O, ρ, st, by
  refine Post.then h fun d v H1 ex r k => ?_
  unfold enumA at k
  split at k
  · rename_i d0
    cases r with
    | cons r1 r2 =>
      cases r2
      cases hi : items d0 with
      | bad => rw [hi] at k; exact k.elim
      | exc x => exact absurd hi items_no
      | ok ds =>
        rw [hi] at k
        obtain ⟨tp, a, xs, rfl, h1, z1, a1⟩ := rp_items r1 hi
        exact ⟨tp, a, xs, rfl, h1.step Sub.unhide, k _ H1 (Ext.refl _) (itd_enum h1 z1 a1)⟩
  · exact k.elim⟩

/-! zip of two -/
def Igz (K : PySem.W.Frag) (t1 t2 : Bool) (a b : Addr) : It where
  go i H := ∃ (xs ys : List V) (x y : V), SqX K H t1 a xs ∧ SqX K H t2 b ys ∧ xs[i]? = some x ∧ ys[i]? = some y
  yld i H v H' := ∃ T x y, v = .ref T ∧ H T = none ∧ H' = upd H T (.tup [x, y]) ∧ (∀ xs, SqX K H t1 a xs → xs[i]? = some x) ∧ ∀ ys, SqX K H t2 b ys → ys[i]? = some y
  stop i H := ∃ xs ys : List V, SqX K H t1 a xs ∧ SqX K H t2 b ys ∧ i = min xs.length ys.length
theorem turn_zipX {P : Program} {w : World} {K : PySem.W.Frag} {elts : List Expr} {kk : Nat} {tpos : Pos} {t1 t2 : Bool} {a b z TI TO i1 i2 : Addr} (S : ZipSep2 z TI TO i1 i2 [i1, a] [i2, b]) (n1 : a ≠ i1) (n2 : b ≠ i2) :
    Turn P w K (.Tuple elts kk tpos) (Igz K t1 t2 a b) [z, TI, TO, i1, i2] z (fun i h => IsZip h z TI TO .none ∧ IsTupOf2 h TI (.ref i1) (.ref i2) ∧ (∃ x y, IsTupOf2 h TO x y) ∧ ItX h t1 i1 a i ∧ ItX h t2 i2 b i) where
  mem := List.mem_cons_self
  obj := fun i h ⟨hz, hTI, ⟨x, y, hTO⟩, h1, h2⟩ c hc => by
    simp only [List.mem_cons, List.not_mem_nil, or_false] at hc
    rcases hc with q | q | q | q | q <;> subst q
    · exact ⟨_, hz, fun v q => nomatch q⟩
    · exact ⟨_, hTI, fun v q => nomatch q⟩
    · exact ⟨_, hTO, fun v q => nomatch q⟩
    · exact h1.obj
    · exact h2.obj
  keep := fun i h h' ⟨hz, hTI, ⟨x, y, hTO⟩, h1, h2⟩ k =>
    ⟨k z (by simp) _ hz, k TI (by simp) _ hTI, ⟨x, y, k TO (by simp) _ hTO⟩, h1.at fun o q => k i1 (by simp) o q, h2.at fun o q => k i2 (by simp) o q⟩
  item := by
    intro X hP hw hK hc i pins s σ H E I hf st hg
    cases hP; cases hw; cases hK
    obtain ⟨hz, hTI, ⟨x0, y0, hTO⟩, h1, h2⟩ := st
    obtain ⟨xs, ys, x, y, hqx, hqy, hx, hy⟩ := hg
    obtain ⟨its, rv, p⟩ := sqX_read I hqx
    obtain ⟨its2, rv2, p2⟩ := sqX_read I hqy
    obtain ⟨u, hu, ru⟩ := rv.get hx
    obtain ⟨u2, hu2, ru2⟩ := rv2.get hy
    have zl : z < s.heap.objs.size := Heap.lt_size hz
    have D1 := drawsX (prog := X.prog) (w := X.w) (A := X.A.in1) (I.ok.hd hc) t1 n1 its.toArray
    have D2 := drawsX (prog := X.prog) (w := X.w) (A := X.A.in1) (I.ok.hd hc) t2 n2 its2.toArray
    have l1 : i < its.toArray.size := by
      obtain ⟨q, _⟩ := List.getElem?_eq_some_iff.mp hu
      simpa using q
    have l2 : i < its2.toArray.size := by
      obtain ⟨q, _⟩ := List.getElem?_eq_some_iff.mp hu2
      simpa using q
    refine wpAny_pyNext_zipD2_item S D1 D2 hz hTI hTO ⟨h1, p⟩ ⟨h2, p2⟩ l1 l2 fun v v2 h' tk e1 e2 z' TO' s1 s2 hT hsz hk => ?_
    have ev : v = u := by
      have e1 : its.toArray[i]? = some v := e1
      rw [List.getElem?_toArray, hu] at e1
      exact (Option.some.inj e1).symm
    have ev2 : v2 = u2 := by
      have e2 : its2.toArray[i]? = some v2 := e2
      rw [List.getElem?_toArray, hu2] at e2
      exact (Option.some.inj e2).symm
    subst ev ev2
    refine ⟨_, rfl, wpAny_letOwnedTupleGo_zip (s := { s with heap := h', toks := tk }) z' fun h'' z'' sb => ?_⟩
    have hT2 : h''.get? s.heap.objs.size = some { cls := .type "tuple", data := .seq #[v, v2] } := (sb.2 _ (Nat.ne_of_gt zl)).trans hT
    have fresh : ObjOk X.prog X.w (upd H s.heap.objs.size (.tup [x, y])) h'' s.heap.objs.size (.tup [x, y]) :=
      ⟨by show 2 ≤ sizeLine; rw [sizeLine_eq]; decide, [v, v2], .cons ru (.cons ru2 .nil), ⟨_, hT2, rfl, _, rfl⟩⟩
    have far : ∀ c o, c ∉ [z, TI, TO, i1, i2] → s.heap.get? c = some o → h''.get? c = some o := fun c o hb q => by
      simp only [List.mem_cons, List.not_mem_nil, or_false, not_or] at hb
      exact (sb.2 c hb.1).trans (hk c o hb.1 hb.2.2.1 hb.2.2.2.1 hb.2.2.2.2 q)
    have I1 : Inv X pins σ (upd H s.heap.objs.size (.tup [x, y])) { s with heap := h'', toks := tk } := I.turnedNew (ch := [z, TI, TO, i1, i2]) far hf (Nat.le_refl _) fresh
    have iz1 : i1 ≠ z := fun q => S.zf1 (by rw [← q]; exact List.mem_cons_self)
    have iz2 : i2 ≠ z := fun q => S.zf2 (by rw [← q]; exact List.mem_cons_self)
    refine ⟨.ref s.heap.objs.size, _, I1, rfl, ⟨_, x, y, rfl, I.hok.fresh (Nat.le_refl _), rfl, fun l hl => by rw [sqX_inj I hl hqx]; exact hx, fun l hl => by rw [sqX_inj I hl hqy]; exact hy⟩, ⟨z'', ?_, ⟨v, v2, ?_⟩, ?_, ?_⟩, fun c hcm => ?_⟩
    · exact (sb.2 _ S.TIz).trans (hk _ _ S.TIz S.TITO S.TIi1 S.TIi2 hTI)
    · exact (sb.2 _ S.TOz).trans TO'
    · exact s1.1.at fun o q => (sb.2 i1 iz1).trans q
    · exact s2.1.at fun o q => (sb.2 i2 iz2).trans q
    · have lt : c < s.heap.objs.size := by
        simp only [List.mem_cons, List.not_mem_nil, or_false] at hcm
        rcases hcm with q | q | q | q | q <;> subst q
        · exact zl
        · exact Heap.lt_size hTI
        · exact Heap.lt_size hTO
        · obtain ⟨o, q, _⟩ := h1.obj; exact Heap.lt_size q
        · obtain ⟨o, q, _⟩ := h2.obj; exact Heap.lt_size q
      rw [upd_ne (Nat.ne_of_lt lt)]
      exact (hf c hcm).1
  done := by
    intro X hP hw hK hc i pins s σ H E I hf st hg
    cases hP; cases hw; cases hK
    obtain ⟨hz, hTI, ⟨x0, y0, hTO⟩, h1, h2⟩ := st
    obtain ⟨xs, ys, hqx, hqy, hend⟩ := hg
    obtain ⟨its, rv, p⟩ := sqX_read I hqx
    obtain ⟨its2, rv2, p2⟩ := sqX_read I hqy
    have l1 := rv.length
    have l2 := rv2.length
    have D1 := drawsX (prog := X.prog) (w := X.w) (A := X.A.in1) (I.ok.hd hc) t1 n1 its.toArray
    have D2 := drawsX (prog := X.prog) (w := X.w) (A := X.A.in1) (I.ok.hd hc) t2 n2 its2.toArray
    refine wpAny_pyNext_zipD2_end S D1 D2 hz hTI hTO ⟨h1, p⟩ ⟨h2, p2⟩ (by simp; omega) (by simp; omega) (by simp; omega) fun h' tk hk => ⟨rfl, I.turnedL (t' := tk) (ch := [z, TI, TO, i1, i2]) (fun c o hb q => ?_) hf⟩
    simp only [List.mem_cons, List.not_mem_nil, or_false, not_or] at hb
    exact hk c o hb.1 hb.2.2.1 hb.2.2.2.1 hb.2.2.2.2 q
  self := fun A i s Q E st h => wpAny_pyIter_zip st.1 h
def iZipX (K : PySem.W.Frag) (ta : TA) : TI := fun σ H R => ta σ H fun vs H1 => ∃ t1 t2 a b xs ys, vs = [.ref a, .ref b] ∧ SqX K H1 t1 a xs ∧ SqX K H1 t2 b ys ∧ R (Igz K t1 t2 a b) H1
theorem pi_zipX {X : Cx} {e e2 : Expr} {ta : TA} {p pos tpos : Pos} {elts : List Expr} {kk : Nat} (hg : Gl X "zip") (hm : X.mg "zip" = none) (ha : PA X [e, e2] ta)
    (hs : starEach [e, e2] X.env = (false, eval e X.env) :: starEach [e2] X.env := by rfl) (hpl : (backTo pos (starEach [e2] X.env)).any (·.1) = false := by rfl) :
    PI X (.Tuple elts kk tpos) (.Call (.Name "zip" p) [e, e2] [] pos) (iZipX X.K ta) := by
  refine ⟨fun pins s σ H R I h => Call_ (ld_blt I hg hm PyProof.Rows.boot_zip (PyProof.Rows.callWith_type1 (thn (ha.run pos pins s σ H _ I h) fun us s1 ⟨vs, H1, I1, r1, q1⟩ => ?_) hs hpl))⟩
  obtain ⟨t1, t2, a, b, xs, ys, rfl, hqx, hqy, q⟩ := q1
  cases r1 with
  | cons r rr =>
    cases rr with
    | cons r' rr =>
      cases rr
      cases r
      cases r'
      obtain ⟨its, rv, p1⟩ := sqX_read I1 hqx
      obtain ⟨its2, rv2, p2⟩ := sqX_read I1 hqy
      have la := p1.lt
      have lb := p2.lt
      have S : ZipSep2 (s1.heap.objs.size + 4) (s1.heap.objs.size + 2) (s1.heap.objs.size + 3) s1.heap.objs.size (s1.heap.objs.size + 1) [s1.heap.objs.size, a] [s1.heap.objs.size + 1, b] :=
        zip_sep2 (fun c hc => by rw [List.mem_singleton.mp hc]; exact la) (fun c hc => by rw [List.mem_singleton.mp hc]; exact lb)
      refine zip_begins2 (beginsX t1 a its.toArray) (beginsX t2 b its2.toArray) p1 p2 fun h' hz hTI hTO g1 g2 hsz hk => wpAny_pyIter_zip hz ?_
      have I2 : Inv X pins σ H1 { s1 with heap := h' } := I1.kept (t' := s1.toks) hk
      refine ⟨s1.heap.objs.size + 4, [s1.heap.objs.size + 4, s1.heap.objs.size + 2, s1.heap.objs.size + 3, s1.heap.objs.size, s1.heap.objs.size + 1], _, _, H1, rfl, I2, turn_zipX S (Nat.ne_of_lt la) (Nat.ne_of_lt (Nat.lt_succ_of_lt lb)), ⟨hz, hTI, ⟨_, _, hTO⟩, itX_new g1, itX_new g2⟩, fun c hcm => ?_, q⟩
      simp only [List.mem_cons, List.not_mem_nil, or_false] at hcm
      have hle : s1.heap.objs.size ≤ c := by
        rcases hcm with q | q | q | q | q <;> rw [q] <;> first | exact Nat.le_add_right _ _ | exact Nat.le_refl _
      exact I1.fpOk hle (I1.hok.fresh hle)
def zipD : List PyData → List PyData → List PyData
  | d :: ds, e :: es => .tuple [d, e] :: zipD ds es
  | _, _ => []
theorem zipD_len : ∀ ds es : List PyData, (zipD ds es).length = min ds.length es.length
  | [], es => by simp [zipD]
  | d :: ds, [] => by simp [zipD]
  | d :: ds, e :: es => by simp [zipD, zipD_len ds es, Nat.succ_min_succ]
theorem zipD_get : ∀ {ds es : List PyData} {i : Nat} {d e : PyData}, ds[i]? = some d → es[i]? = some e → (zipD ds es)[i]? = some (.tuple [d, e])
  | d :: ds, e :: es, 0, _, _, h, k => by cases h; cases k; rfl
  | d :: ds, e :: es, i + 1, _, _, h, k => by
    simp only [zipD, List.getElem?_cons_succ]
    exact zipD_get (by simpa using h) (by simpa using k)
  | [], es, i, _, _, h, k => by simp at h
  | d :: ds, [], i, _, _, h, k => by simp at k
theorem itd_zip {K : PySem.W.Frag} {G : Hp} {t1 t2 : Bool} {a b : Addr} {xs ys : List V} {ds es : List PyData} (h1 : SqX K G t1 a xs) (h2 : SqX K G t2 b ys) (z : ds.length ≤ sizeLine) (r1 : RpAll K G xs ds) (r2 : RpAll K G ys es) : ItD K G (Igz K t1 t2 a b) (zipD ds es) where
  len := by rw [zipD_len]; omega
  go := fun i H' e hi => by
    rw [zipD_len] at hi
    have hx : i < xs.length := by rw [r1.length]; omega
    have hy : i < ys.length := by rw [r2.length]; omega
    exact ⟨xs, ys, xs[i], ys[i], h1.step (Sub.ext e), h2.step (Sub.ext e), List.getElem?_eq_getElem hx, List.getElem?_eq_getElem hy⟩
  yld := fun i H' O' x H'' e n al hi y => by
    obtain ⟨T, v, v2, rfl, nT, rfl, y1, y2⟩ := y
    obtain ⟨d, g1, g2⟩ := r1.get (y1 xs (h1.step (Sub.ext e)))
    obtain ⟨d2, g3, g4⟩ := r2.get (y2 ys (h2.step (Sub.ext e)))
    have sb := ((e.trans (Ext.new nT (o := .tup [v, v2]))).under n)
    refine ⟨Ext.new nT, _, zipD_get g1 g3, .tup (.of ?_) (by show 2 ≤ sizeLine; rw [sizeLine_eq]; decide) (.cons (g2.mono sb) (.cons (g4.mono sb) .nil))⟩
    rw [hide_out fun m => al T m nT, upd_same]
  stop := fun H' e => ⟨xs, ys, h1.step (Sub.ext e), h2.step (Sub.ext e), by rw [zipD_len, r1.length, r2.length]⟩
def zipA : List PyData → R (List PyData)
  | [d, e] => items d >>= fun ds => items e >>= fun es => .ok (zipD ds es)
  | _ => .bad
def dZip (g : DnL) : DnL := fun ρ => g ρ >>= zipA
theorem fi_zip {X : Cx} {Tb : List Addr} {W : WX} {e e2 : Expr} {g : DnL} {p pos tpos : Pos} {elts : List Expr} {kk : Nat} (hg : Gl X "zip") (hm : X.mg "zip" = none) (ha : PA X [e, e2] (tDs X.K Tb W g))
    (hs : starEach [e, e2] X.env = (false, eval e X.env) :: starEach [e2] X.env := by rfl) (hpl : (backTo pos (starEach [e2] X.env)).any (·.1) = false := by rfl) :
    PI X (.Tuple elts kk tpos) (.Call (.Name "zip" p) [e, e2] [] pos) (tI X.K Tb W (dZip g)) := (pi_zipX hg hm ha hs hpl).by fun σ H R ⟨H0, O0, O, ρ, st, h⟩ => ⟨H0, O0, O, ρ, st, by
  refine Post.then h fun d v H1 ex r k => ?_
  unfold zipA at k
  split at k
  · rename_i d0 e0
    cases r with
    | cons r1 r2 =>
      cases r2 with
      | cons r2 r3 =>
        cases r3
        cases hi : items d0 with
        | bad => rw [hi] at k; exact k.elim
        | exc x => exact absurd hi items_no
        | ok ds =>
          rw [hi] at k
          cases hj : items e0 with
          | bad => rw [hj] at k; exact k.elim
          | exc x => exact absurd hj items_no
          | ok es =>
            rw [hj] at k
            obtain ⟨tp, a, xs, rfl, h1, z1, a1⟩ := rp_items r1 hi
            obtain ⟨tp2, b, ys, rfl, h2, z2, a2⟩ := rp_items r2 hj
            exact ⟨tp, tp2, a, b, xs, ys, rfl, h1.step Sub.unhide, h2.step Sub.unhide, k _ H1 (Ext.refl _) (itd_zip h1 h2 z1 a1 a2)⟩
  · exact k.elim⟩
end PD

set_option Elab.async false
set_option linter.all false
set_option maxRecDepth 100000
set_option maxHeartbeats 1000000
namespace PD
open PySem PySem.Spec PyProof.Rows L2

/-! ### tuple(range(n)) -/
def bTupR1 : PyData → R PyData
  | .int n => if rgOk 0 n = true then .ok (.tuple (lstRg 0 n)) else .bad
  | _ => .bad
section
variable {X : Cx} {Tb : List Addr} {W : WX} {a : Expr} {f : Dn} {p p2 pos pos2 : Pos}
theorem fd_tupR1 (hc : X.calm = true) (hl : Gl X "tuple") (ml : X.mg "tuple" = none) (hr : Gl X "range") (mr : X.mg "range" = none) (ha : PE X a (tD X.K Tb W f))
    (n1 : starEach [a] X.env = (false, eval a X.env) :: starEach [] X.env := by rfl) (n2 : starEach [.Call (.Name "range" p2) [a] [] pos2] X.env = (false, eval (.Call (.Name "range" p2) [a] [] pos2) X.env) :: starEach [] X.env := by rfl) :
    PE X (.Call (.Name "tuple" p) [.Call (.Name "range" p2) [a] [] pos2] [] pos) (tD X.K Tb W (dOne bTupR1 f)) :=
  (pe_tupRg hc hl ml (prg_1 hr mr ha n1) n2).by fun σ H Q ⟨H0, O0, O, ρ, st, h⟩ => ⟨H0, O0, O, ρ, st, by
    refine Post.then h fun d v H1 ex rv k => ?_
    unfold bTupR1 at k
    split at k
    · rename_i n
      cases rv
      split at k
      · rename_i z
        refine ⟨n, rfl, rgOk_ok z, fun q hq => ?_⟩
        have al := (st.step ex).al
        refine k _ _ (Ext.new hq) (.tup (.of ?_) (lstRg_len _ _ z) (rp_rg _ _))
        rw [hide_out (fun m => al q m hq)]
        exact upd_same
      · exact k.elim
    · exact k.elim⟩
end

/-! ### a lambda of one parameter -/
def FunO (q : Str) (params : Arguments) (body : Expr) (scope : Scope) (cl : List (Str × Addr)) (c f : Addr) : HO := .ext fun h => ∃ pm ct, h.get? f = some (PySem.W.kla_obj "<lambda>" q params body scope cl pm c ct)
structure LamS1 (sc scope : Scope) (x : Str) : Prop where
  kind : scope.kind = .function
  co : scope.isCoroutine = false
  gen : scope.isGenerator = false
  par : scope.names.lookup x = some .local
  cell : ∀ y ∈ scope.names, y.2 ≠ .cell
  loc : ∀ y ∈ scope.names, y.2 = .local → y.1 = x
  free : ∀ y ∈ scope.names, y.2 = .free → sc.names.lookup y.1 = some .cell ∨ sc.names.lookup y.1 = some .free
def lamS1B (sc scope : Scope) (x : Str) : Bool :=
  decide (scope.kind = .function) && !scope.isCoroutine && !scope.isGenerator && decide (scope.names.lookup x = some .local) && scope.names.all fun y => !decide (y.2 = .cell) && (!decide (y.2 = .local) || decide (y.1 = x)) && (!decide (y.2 = .free) || decide (sc.names.lookup y.1 = some .cell) || decide (sc.names.lookup y.1 = some .free))
theorem lamS1_by {sc scope : Scope} {x : Str} (h : lamS1B sc scope x = true) : LamS1 sc scope x := by
  unfold lamS1B at h
  simp only [Bool.and_eq_true, Bool.or_eq_true, Bool.not_eq_true', decide_eq_true_eq, decide_eq_false_iff_not, List.all_eq_true] at h
  obtain ⟨⟨⟨⟨h1, h2⟩, h3⟩, h4⟩, h5⟩ := h
  refine ⟨h1, h2, h3, h4, fun y hy => (h5 y hy).1.1, fun y hy e => ?_, fun y hy e => ?_⟩
  · rcases (h5 y hy).1.2 with z | z
    · exact absurd e z
    · exact z
  · rcases (h5 y hy).2 with (z | z) | z
    · exact absurd e z
    · exact .inl z
    · exact .inr z
theorem LamS1.has {X : Cx} {scope : Scope} {x : Str} (L : LamS1 X.env.scope scope x) (ok : X.Ok) : ∀ y ∈ scope.names, y.2 = .free → ∃ c, X.env.cells.lookup y.1 = some c := fun y hy e => by
  rcases L.free y hy e with k | k
  · exact ok.has _ (.inl k)
  · exact ok.has _ (.inr k)
abbrev lamE (X : Cx) (q : Str) (scope : Scope) (L f c : Addr) : Env := PySem.W.envX q scope L f (.ref c) (cloFrom X.env.cells scope.names [])
def lamX (X : Cx) (A : Around) (s : Shared) (H : Hp) (scope : Scope) (q : Str) (f c : Addr) : Cx where
  prog := X.prog
  w := X.w
  K := X.K
  mg := X.mg
  base := X.base
  A := A.deeper (lamE X q scope s.heap.objs.size f c)
  N := X.N
  s_0 := s
  H_0 := H
  env := lamE X q scope s.heap.objs.size f c
  outer := X.stack
  stack := lamE X q scope s.heap.objs.size f c :: X.stack
  ex := []
  fn := fun _ => false
  calm := true
  pn := []
  xe := fun e s' => wpAny (model X.prog X.w) (A.deeper (lamE X q scope s.heap.objs.size f c)) (leaving (lamE X q scope s.heap.objs.size f c) e) (fun _ s'' => L2N.CX X.prog X.w X.stack H s (fun _ _ _ => False) e s'') (fun e' s'' => L2N.CX X.prog X.w X.stack H s (fun _ _ _ => False) e' s'') s'
/-- the lambda's value, made -/
def tLam1 (P : Addr) (q : Str) (params : Arguments) (body : Expr) (scope : Scope) (cl : List (Str × Addr)) : TE := fun σ H Q => TabC H P ∧ ∀ f c n H1, TabbedC P H H1 → H1 f = none → H1 c = some (LamX.CodeO c n) → Q (.ref f) (upd H1 f (FunO q params body scope cl c f))
theorem pe_lam1 {X : Cx} {P c : Addr} {params : Arguments} {body : Expr} {scope : Scope} {pos : Pos} {x : Str} (TB : GxR.TabB X.base X.mg c P) (hcode : X.env.code = .ref c) (L : LamS1 X.env.scope scope x) (hdef : defaultsOf params X.env = ([], [])) :
    PE X (.Lambda params body scope pos) (tLam1 P (X.env.qual ++ "<lambda>") params body scope (cloFrom X.env.cells scope.names [])) := by
  refine ⟨fun pins s σ H Q I ⟨tab, h⟩ => ?_⟩
  obtain ⟨ps, hP, ht, ha⟩ := tab
  have hfree := L.has I.ok
  refine PySem.W.kla_eval hdef ?_
  have bP : s.heap.BuiltinsAt X.mg P := TB.bm.keeps I.bk
  have hP' : s.heap.get? P = some { cls := .none, data := .fields ps } := I.hok P _ hP
  cases hc : codeAmong pos ps.toList with
  | none =>
    refine PySem.W.kla_makeFunction (mg := X.mg) (c := c) (P := P) (ps := ps) (closure_ok hfree) I.ok.glob (I.mod.glob.keeps I.bk) hcode (TB.code.keeps I.bk) hP' ht hc TB.gP bP fun c1 ct h1 tk hx hge hlt hrec htb => ?_
    obtain ⟨c2, oc, vs, t, e2, hoc, hd, hv⟩ := hrec
    cases e2
    have nC : H c1 = none := I.hok.fresh hge
    have I1 := LamX.inv_table (t' := tk) I hP (fun b o hb e => hx b o hb e) htb hge ⟨oc, vs, t, hoc, hd, hv⟩
    have I2 := I1.laid (a := h1.objs.size) (o := FunO (X.env.qual ++ "<lambda>") params body scope (cloFrom X.env.cells scope.names []) c1 h1.objs.size) (t' := tk) (h' := h1.push (PySem.W.kla_obj "<lambda>" (X.env.qual ++ "<lambda>") params body scope (cloFrom X.env.cells scope.names []) ((X.mg "__name__").getD .none) c1 ct))
      (fun b u e => Heap.get?_push_of_some _ e) (Nat.le_refl _) ⟨⟨_, _, Heap.get?_push_size _ rfl⟩, ⟨_, Heap.get?_push_size _ rfl⟩, fun a1 a2 ⟨pm, ct, e⟩ st => ⟨pm, ct, st _ e⟩⟩
    exact ⟨.ref h1.objs.size, _, I2, rfl, h _ c1 _ _ (tabbed_new hP ht ha nC) (I1.hok.fresh (Nat.le_refl _)) upd_same⟩
  | some cv =>
    obtain ⟨c1, q1, e, hco⟩ := ha pos cv hc
    subst e
    refine PySem.W.kla_makeFunctionHit (mg := X.mg) (c := c) (P := P) (ps := ps) (closure_ok hfree) I.ok.glob (I.mod.glob.keeps I.bk) hcode (TB.code.keeps I.bk) hP' ht hc bP fun ct h1 tk hx hsz => ?_
    have I1 : Inv X pins σ H { s with heap := h1, toks := tk } := I.kept hx
    have I2 := I1.laid (a := h1.objs.size) (o := FunO (X.env.qual ++ "<lambda>") params body scope (cloFrom X.env.cells scope.names []) c1 h1.objs.size) (t' := tk) (h' := h1.push (PySem.W.kla_obj "<lambda>" (X.env.qual ++ "<lambda>") params body scope (cloFrom X.env.cells scope.names []) ((X.mg "__name__").getD .none) c1 ct))
      (fun b u e => Heap.get?_push_of_some _ e) (Nat.le_refl _) ⟨⟨_, _, Heap.get?_push_size _ rfl⟩, ⟨_, Heap.get?_push_size _ rfl⟩, fun a1 a2 ⟨pm, ct, e⟩ st => ⟨pm, ct, st _ e⟩⟩
    exact ⟨.ref h1.objs.size, _, I2, rfl, h _ c1 q1 _ (tabbed_hit ⟨ps, hP, ht, ha⟩) (I1.hok.fresh (Nat.le_refl _)) hco⟩
/-- a call whose code's name is whatever it is -/
theorem call_fun_expr {prog : Program} {w : World} {A : Around} {s : Shared} {R : Result → Shared → Prop} {a c : Addr} {args : Args} {o oc : Obj} {fd : FuncData} {body : Expr} {vs : Array Value} {q : Str} {t : Tok} (hroom : A.depth < recursionLimit)
    (ho : s.heap.get? a = some o) (hdt : o.data = .func fd) (hco : fd.scope.isCoroutine = false) (hgen : fd.scope.isGenerator = false) (hbody : fd.body = .expr body) (hcd : fd.code = .ref c) (hoc : s.heap.get? c = some oc) (hdc : oc.data = .fields vs) (hq : vs[1]? = some (.str q t))
    (h : wpAny (model prog w) A.in1 (bindArgs fd args) (fun binds s1 =>
      wpAny (model prog w) A.in1 (newFunctionEnv fd.scope fd.globals fd.closure binds (q ++ ".<locals>.") (some a) (.ref c) none fd.builtins)
        (fun env s2 => s2.heap.NoLimit ∧ codeAny (model prog w) A (.expr body env) R s2) (fun e s' => R (.error e) s') s1) (fun e s' => R (.error e) s') s) :
    codeAny (model prog w) A (.call (.ref a) args) R s := by
  refine codeAny_of_tree ?_
  show wpAny _ A.in1 (callAny (.ref a) args) _ _ s
  simp only [callAny]
  refine wpAny_bind (wpAny_load ho ?_)
  simp only [hdt, callFunction, hco, hgen, hbody, hcd]
  refine wpAny_bind (m := field (.ref c) 1) (wpAny_field hoc hdc hq (wpAny_bind (wpAny_pure ?_)))
  refine wpAny_bind (wpAny_mono h (fun binds s1 h1 => ?_) fun _ _ z => z)
  refine wpAny_bind (wpAny_mono h1 (fun env s2 h2 => ?_) fun _ _ z => z)
  exact wpAny_bind (wpAny_enterFrame h2.1 hroom (wpAny_pure ⟨rfl, h2.2⟩))
section
variable {X : Cx} {pins : List (Addr × Obj)} {σ : L2.St} {H : Hp} {s : Shared}
theorem stack_out (I : Inv X pins σ H s) {b : Addr} (h : s.heap.objs.size ≤ b) : b ∉ frs X.stack := fun z => by
  rcases List.mem_cons.mp (I.stkSub _ z) with e | e
  · have := I.lt
    rw [← e] at this
    exact Nat.lt_irrefl _ (Nat.lt_of_lt_of_le this h)
  · exact I.nofs h e
/-- the frame of the lambda's call -/
theorem lam_enter {A : Around} {scope : Scope} {f c : Addr} {h1 : Heap} {tk : Nat} {q x : Str} {p : Nat} {v : V} {u : Value} (I : Inv X pins σ H s) (L : LamS1 X.env.scope scope x) (hN : X.N.Nodup) (hp : X.N[p]? = some x) (fr : A.frames = some X.stack) (hd : A.handled = none)
    (rel : RelV v u) (hns : h1.Ns s.heap.objs.size fun y => [(x, u)].reverse.lookup y) (kp : ∀ b o, s.heap.get? b = some o → h1.get? b = some o) :
    Inv (lamX X A s H scope q f c) [] (σ.set p (some v)) H { s with heap := h1, toks := tk } := by
  have hfree := L.has I.ok
  have e0 := I.env0
  have cm : ∀ {y d}, (cloFrom X.env.cells scope.names []).lookup y = some d → X.env.cells.lookup y = some d := fun {y d} e => by
    rcases cloFrom_mem (PySem.mem_of_lookup e) with hm | ⟨g1, g2⟩
    · cases hm
    · obtain ⟨d1, hc⟩ := hfree _ g1 rfl
      have hc : X.env.cells.lookup y = some d1 := hc
      have e2 : d = d1 := by rw [g2, hc] <;> rfl
      rw [e2]; exact hc
  have look : ∀ {y}, scope.names.lookup y = some .free → ∃ d, (cloFrom X.env.cells scope.names []).lookup y = some d := fun {y} hl =>
    mem_lookup (cloFrom_has (cells := X.env.cells) (acc := []) (PySem.mem_of_lookup hl))
  have noA : ∀ b : Addr, b ∉ (lamX X A s H scope q f c).ex := fun b z => absurd (show b ∈ ([] : List Addr) from z) (by simp)
  refine ⟨⟨e0.mod, L.kind, rfl, rfl, Nat.le_refl _, fun y z d e1 e2 => I.ok.inj y z d (cm e1) (cm e2), fun y hy => ?_, fun y d z _ => (by cases (show false = true from z)), fun _ => hd, Around.frames_deeper fr, .inr ⟨rfl, rfl⟩, fun b z => absurd z (noA b), e0.bs, e0.bsz, fun b _ _ => noA b, fun b z => absurd z (noA b), e0.funs, e0.frf⟩,
    rfl, e0.bare, Un.kept kp, ⟨_, hns, fun i y w e1 e2 e3 => ?_⟩, fun y d e => ?_, e0.hok.fresh (Nat.le_refl _), fun y d e => I.freeC y d (cm e), fun r hr => absurd (show r ∈ ([] : List (Addr × Obj)) ++ [] from hr) (by simp), e0.hok.kept kp, by rw [List.length_set]; exact I.len⟩
  · rcases hy with hy | hy
    · exact absurd rfl (L.cell _ (PySem.mem_of_lookup hy))
    · exact look hy
  · have e3 : Vis scope y := e3
    have e1 : X.N[i]? = some y := e1
    by_cases hip : p = i
    · subst hip
      rw [hp] at e1
      cases e1
      have il : p < σ.length := by
        have := (List.getElem?_eq_some_iff.mp hp).1
        rw [I.len]; exact this
      rw [List.getElem?_set_self il] at e2
      cases e2
      exact ⟨u, rel, .inl ⟨L.par, by simp⟩⟩
    · rw [List.getElem?_set_ne hip] at e2
      have ne : y ≠ x := fun z => hip (by
        obtain ⟨l1, g1⟩ := List.getElem?_eq_some_iff.mp hp
        obtain ⟨l2, g2⟩ := List.getElem?_eq_some_iff.mp e1
        exact (List.getElem_inj hN).mp (g1.trans (z.symm.trans g2.symm)))
      rcases e3 with k | k | k
      · exact absurd (L.loc _ (PySem.mem_of_lookup k) rfl) ne
      · exact absurd rfl (L.cell _ (PySem.mem_of_lookup k))
      · obtain ⟨m, hn, hl⟩ := I.loc
        have hvis : Vis X.env.scope y := (L.free _ (PySem.mem_of_lookup k) rfl).elim (fun k => .inr (.inl k)) (fun k => .inr (.inr k))
        obtain ⟨w2, r, g⟩ := hl i y w e1 e2 hvis
        obtain ⟨d2, h2⟩ := look k
        refine ⟨w2, r, .inr ⟨.inr k, d2, h2, ?_⟩⟩
        have c1 := cm h2
        rcases g with ⟨k2, _⟩ | ⟨_, c3, g1, z⟩
        · have k2 : X.env.scope.names.lookup y = some .local := k2
          rcases L.free _ (PySem.mem_of_lookup k) rfl with k3 | k3 <;> rw [show X.env.scope.names.lookup y = _ from k3] at k2 <;> cases k2
        · rw [c1] at g1
          cases g1
          obtain ⟨ob, ho, hd⟩ := z
          exact ⟨ob, kp _ _ ho, hd⟩
  · obtain ⟨w2, ob, ho, hd⟩ := I.cell y d (cm e)
    exact ⟨w2, ob, kp _ _ ho, hd⟩
/-- the call of the lambda, from anywhere in its maker's frame -/
theorem lam_call {A : Around} {scope : Scope} {f c : Addr} {q n x : Str} {p k : Nat} {v : V} {u : Value} {params : Arguments} {body : Expr} {tb : TE} {Q : VK} (I : Inv X pins σ H s) (L : LamS1 X.env.scope scope x) (hN : X.N.Nodup) (hp : X.N[p]? = some x) (fr : A.frames = some X.stack) (hd : A.handled = none) (hdep : A.depth < recursionLimit)
    (hr : ∀ L f c q, Room k (A.deeper (lamE X q scope L f c))) (hf : H f = some (FunO q params body scope (cloFrom X.env.cells scope.names []) c f)) (hc : H c = some (LamX.CodeO c n)) (hbind : ∀ pm ct, bindArgs (PySem.W.kla_fn "<lambda>" q params body scope (cloFrom X.env.cells scope.names []) pm (.ref c) ct) ⟨[u], []⟩ = pure [(x, u)])
    (hb : ∀ (A : Around) (s : Shared) (H : Hp) (q : Str) (f c : Addr), Room k (A.deeper (lamE X q scope s.heap.objs.size f c)) → PE (lamX X A s H scope q f c) body tb) (rel : RelV v u) (h : tb (σ.set p (some v)) H Q) {E : Value → Shared → Prop} :
    wpAny (model X.prog X.w) A (call (.ref f) [u]) (fun w s' => CE X.stack X.prog X.w H s Q w s') E s := by
  obtain ⟨⟨pm, ct, ho⟩, _⟩ := I.hok f _ hf
  obtain ⟨⟨oc, vs, t, hoc, hdc, hvc⟩, _⟩ := I.hok c _ hc
  have rc : codeAny (model X.prog X.w) A (.call (.ref f) ⟨[u], []⟩) (CR (L2N.CX X.prog X.w) X.stack X.prog X.w H s Q fun _ _ _ => False) s := by
    refine call_fun_expr hdep ho rfl L.co L.gen rfl rfl hoc hdc hvc ?_
    rw [hbind]
    refine wpAny_pure (wpAny_newFunctionEnv L.cell (fun y hy => by rw [List.mem_singleton.mp hy]; exact L.par) (fun h1 hns hsb => ⟨I.nolimit.fresh _ hsb, ?_⟩) L.kind)
    show codeAny _ _ (.expr body (lamE X n scope s.heap.objs.size f c)) _ _
    have kp : ∀ b o, s.heap.get? b = some o → h1.get? b = some o := fun b o e => hsb.extBut b o (Nat.ne_of_lt (Heap.lt_size e)) (Heap.get?_push_of_some _ e)
    have J := lam_enter (A := A) (f := f) (c := c) (q := n) (tk := s.toks + [(x, u)].length) I L hN hp fr hd rel hns kp
    refine PySem.W.kla_codeExpr (wpAny_mono ((hb A s H n f c (hr _ _ _ _)).run [] _ _ H Q J h) (fun w s1 hq => ?_) fun e s1 hq => hq)
    obtain ⟨w2, H2, J2, rv, g⟩ := hq
    exact ⟨w2, H2, J2.os, J2.bare, J2.base, J2.hok, rv, g⟩
  refine wpAny_call (codeAny_mono rc fun r s1 hq => ?_)
  cases r with
  | error e =>
    obtain ⟨_, _, _, _, _, _, _, _, _, _, _, _, z⟩ := hq
    exact z.elim
  | ok fl =>
    cases fl with
    | ret u => exact hq
    | next => exact False.elim hq
    | brk => exact False.elim hq
    | cont => exact False.elim hq
end
end PD

set_option Elab.async false
set_option linter.all false
set_option maxRecDepth 100000
set_option maxHeartbeats 1000000
namespace PD
open PySem PySem.Spec PyProof.Rows L2

/-! ### min(xs, key=lambda x: ..) -/
theorem PlX.at {h h' : Heap} {tp : Bool} {a : Addr} {its : Array Value} (p : PlX h tp a its) (e : ∀ o, h.get? a = some o → h'.get? a = some o) : PlX h' tp a its := by
  cases tp with
  | true => exact Heap.IsTuple.at p e
  | false => exact Heap.IsList.at p e
theorem walksX {prog : Program} {w : World} {A : Around} (hh : A.handled = none) (tp : Bool) {it a : Addr} (ne : a ≠ it) (xs : List V) :
    WalksS prog w A it [it, a] [it] (fun a b => b = a) xs.length (fun i v => ∃ x, xs[i]? = some x ∧ RelV x v) (fun i s => ItX s.heap tp it a i ∧ ∃ its, Vals xs its ∧ PlX s.heap tp a its.toArray) where
  sub := fun b hb => by rw [List.mem_singleton.mp hb]; exact List.mem_cons_self
  grefl := fun _ => rfl
  gtrans := fun _ _ _ h1 h2 => h2.trans h1
  frame := fun i s h' tk ⟨h1, its, rv, p⟩ _ k => ⟨h1.at fun o e => k it List.mem_cons_self o e, its, rv, p.at fun o e => k a (List.mem_cons_of_mem _ List.mem_cons_self) o e⟩
  item := fun i s Q E hi ⟨h1, its, rv, p⟩ hQ => by
    obtain ⟨u, hu, ru⟩ := rv.get (List.getElem?_eq_getElem hi)
    have hu2 : its.toArray[i]? = some u := by rw [List.getElem?_toArray]; exact hu
    have mv : ∀ h', Heap.SameBut it s.heap h' → Moved [it] (fun a b => b = a) s { s with heap := h' } := fun h' sb => ⟨fun b o hb e => sb.extBut b o (fun z => hb (by rw [z]; exact List.mem_cons_self)) e, rfl, rfl, rfl, Nat.le_refl _⟩
    have fin : ∀ h', ItX h' tp it a (i + 1) → Heap.SameBut it s.heap h' → Q (some u) { s with heap := h' } := fun h' h2 sb =>
      hQ u _ ⟨_, List.getElem?_eq_getElem hi, ru⟩ ⟨h2, its, rv, p.at fun o e => sb.extBut a o ne e⟩ (mv h' sb)
    cases tp with
    | true => exact wpAny_pyNext_tuple_item h1 p hu2 fin
    | false => exact wpAny_pyNext_list_item h1 p hu2 fin
  done := fun s Q E ⟨h1, its, rv, p⟩ hQ => by
    have hn : its.toArray[xs.length]? = none := by
      rw [List.getElem?_toArray, List.getElem?_eq_none]
      exact Nat.le_of_eq rv.length.symm
    have fin : ∀ h', Heap.ExtBut it s.heap h' → Q none { s with heap := h' } := fun h' eb => hQ _ ⟨fun b o hb e => eb b o (fun z => hb (by rw [z]; exact List.mem_cons_self)) e, rfl, rfl, rfl, Nat.le_refl _⟩
    cases tp with
    | true => exact wpAny_pyNext_tuple_end hh h1 p hn fin
    | false => exact wpAny_pyNext_list_end hh h1 p hn fin
  self := fun i s Q E ⟨h1, _⟩ h => by
    cases tp with
    | true => exact wpAny_pyIter_tupleiter h1 h
    | false => exact wpAny_pyIter_listiter h1 h
theorem room_lam {X : Cx} {k : Nat} (hr : Room (k + 3) X.A) (q : Str) (scope : Scope) (L f c : Addr) : Room k (X.A.in1.deeper (lamE X q scope L f c)) := ⟨hr.hd, by have := hr.dp; show X.A.depth + 1 + 3 * k + 5 < _; omega, by have := hr.un; show X.A.units + 1 + 3 + 16 * k + 200 < _; omega⟩
/-- the least item by the lambda's answers; the first one of equal ones -/
def tMinL (X : Cx) (P : Addr) (params : Arguments) (body : Expr) (scope : Scope) (p : Nat) (ta : TA) (tb : TE) : TE := fun σ H Q => ta σ H fun vs H1 => TabC H1 P ∧ ∀ f c n H2, TabbedC P H1 H2 → H2 f = none → H2 c = some (LamX.CodeO c n) →
  ∃ (tp : Bool) (a : Addr) (xs : List V) (JH : Hp → Prop) (key : Nat → Int), vs = [.ref a] ∧ 0 < xs.length ∧ JH (upd H2 f (FunO (X.env.qual ++ "<lambda>") params body scope (cloFrom X.env.cells scope.names []) c f)) ∧
    (∀ H', JH H' → SqX X.K H' tp a xs ∧ H' f = some (FunO (X.env.qual ++ "<lambda>") params body scope (cloFrom X.env.cells scope.names []) c f) ∧ H' c = some (LamX.CodeO c n)) ∧
    (∀ i x H', JH H' → xs[i]? = some x → tb (σ.set p (some x)) H' fun y H'' => y = .int (key i) ∧ JH H'') ∧
    ∀ x H', JH H' → xs[argBest (fun i j => decide (key i < key j)) (xs.length - 1)]? = some x → Q x H'
theorem pe_minL {X : Cx} {P c0 : Addr} {e : Expr} {k p : Nat} {ta : TA} {tb : TE} {params : Arguments} {body : Expr} {scope : Scope} {x : Str} {pos lpos pm kpos : Pos} (hr : Room (k + 3) X.A) (hg : Gl X "min") (hm : X.mg "min" = none) (TB : GxR.TabB X.base X.mg c0 P) (hcode : X.env.code = .ref c0) (hc : X.calm = true) (hN : X.N.Nodup)
    (L : LamS1 X.env.scope scope x) (hp : X.N[p]? = some x) (hdef : defaultsOf params X.env = ([], [])) (hbind : ∀ q cl pm cv ct u, bindArgs (PySem.W.kla_fn "<lambda>" q params body scope cl pm cv ct) ⟨[u], []⟩ = pure [(x, u)]) (ha : PA X [e] ta)
    (hb : ∀ (A : Around) (s : Shared) (H : Hp) (q : Str) (f c : Addr), Room k (A.deeper (lamE X q scope s.heap.objs.size f c)) → PE (lamX X A s H scope q f c) body tb)
    (hs : backTo pos (starEach [e] X.env) = (false, eval e X.env) :: backTo pos (starEach [] X.env) := by rfl) (hpl : (backTo pos (starEach [e] X.env)).any (·.1) = false := by rfl)
    (hall : (backToKw pos (keywordEach [⟨some "key", .Lambda params body scope lpos, kpos⟩] X.env)).all (·.1.isSome) = true := by rfl) (hnone : (backToKw pos (keywordEach [⟨some "key", .Lambda params body scope lpos, kpos⟩] X.env)).any (·.1.isNone) = false := by rfl)
    (hks : (backToKw pos (keywordEach [⟨some "key", .Lambda params body scope lpos, kpos⟩] X.env)).filterMap (·.1) = [Str.ofString "key"] := by rfl) :
    PE X (.Call (.Name "min" pm) [e] [⟨some "key", .Lambda params body scope lpos, kpos⟩] pos) (tMinL X P params body scope p ta tb) := by
  refine ⟨fun pins s σ H Q I h => ?_⟩
  have hk : PK X [⟨some "key", .Lambda params body scope lpos, kpos⟩] _ := pk_cons (pe_lam1 TB hcode L hdef) pk_nil
  refine wpAny_Call_Name_kw (ld_blt I hg hm boot_min ?_ (by decide) (by decide))
  refine PyProof.Rows.callWith_kw (thn (ha.run pos pins s σ H _ I h) fun us s1 ⟨vs, H1, I1, r1, tab, q1⟩ => thn (hk.run pos pins s1 σ H1 (fun zs H2 => ∃ f c n Hb, TabbedC P H1 Hb ∧ Hb f = none ∧ Hb c = some (LamX.CodeO c n) ∧ zs = [.ref f] ∧ H2 = upd Hb f (FunO (X.env.qual ++ "<lambda>") params body scope (cloFrom X.env.cells scope.names []) c f)) I1 ⟨tab, fun f c n Hb tb nf hco => ⟨f, c, n, Hb, tb, nf, hco, rfl, rfl⟩⟩) fun ws s2 ⟨zs, H2, I2, r2, f, c, n, Hb, tbd, nf, hco, ez, eH⟩ => ?_) hs hpl hall hnone
  rw [hks]
  subst ez eH
  obtain ⟨tp, a, xs, JH, key, ev, hn, j0, facts, turn, fin⟩ := q1 f c n Hb tbd nf hco
  subst ev
  cases r1 with
  | cons ra rr =>
    cases rr
    cases ra
    cases r2 with
    | cons rf rr =>
      cases rr
      cases rf
      obtain ⟨hq2, _, _⟩ := facts _ j0
      obtain ⟨its0, rv0, p0⟩ := sqX_read I2 hq2
      have hh : X.A.handled = none := I2.ok.hd hc
      refine call_min_walkK ((beginsX tp a its0.toArray).iter X.prog X.w X.A.in1 X.xe s2 _ p0 ?_)
      have la : a < s2.heap.objs.size := p0.lt
      have hit : (s2.heap.push (itO tp a)).get? s2.heap.objs.size = some (itO tp a) := Heap.get?_push_size _ (by cases tp <;> rfl)
      have sz3 : (s2.heap.push (itO tp a)).objs.size = s2.heap.objs.size + 1 := Heap.size_push ..
      have I3 : Inv X pins σ (upd Hb f (FunO (X.env.qual ++ "<lambda>") params body scope (cloFrom X.env.cells scope.names []) c f)) { s2 with heap := s2.heap.push (itO tp a) } := I2.kept (t' := s2.toks) fun b o e => Heap.get?_push_of_some _ e
      have nit := I2.hok.fresh (Nat.le_refl s2.heap.objs.size)
      have nS := I3.hok.fresh (Nat.le_refl (s2.heap.push (itO tp a)).objs.size)
      have oit := stack_out I2 (Nat.le_refl s2.heap.objs.size)
      have oS := stack_out I3 (Nat.le_refl (s2.heap.push (itO tp a)).objs.size)
      have fit := I2.fpOk (Nat.le_refl s2.heap.objs.size) nit
      have fS := I3.fpOk (Nat.le_refl (s2.heap.push (itO tp a)).objs.size) nS
      refine ⟨s2.heap.objs.size, [s2.heap.objs.size, a], [s2.heap.objs.size], _, xs.length, _, _, fun s => ∃ H', Inv X pins σ H' s ∧ JH H' ∧ H' s2.heap.objs.size = none ∧ H' (s2.heap.push (itO tp a)).objs.size = none, fun i v s => ∃ t, v = .int (key i) t, fun i j => decide (key i < key j), rfl, walksX (A := X.A.in1) hh tp (Nat.ne_of_lt la) xs, ⟨itX_new hit, its0, rv0, p0.at fun o e => Heap.get?_push_of_some _ e⟩, fun b hb => ?_, hn, ?_, ⟨_, I3, j0, nit, nS⟩, ?_⟩
      · rw [sz3]
        rcases List.mem_cons.mp hb with z | z
        · rw [z]; exact Nat.lt_succ_self _
        · rw [List.mem_singleton.mp z]; exact Nat.lt_succ_of_lt la
      · refine ⟨fun s s' ⟨H', I', j, n1, n2⟩ mv => ⟨H', ?_, j, n1, n2⟩, fun i k s s' v mv => v, fun i v s o Q' E' hi ⟨x', hx', rx'⟩ ⟨H', I', j, n1, n2⟩ ⟨h1, its, rv, pl⟩ hS hQ => ?_, fun i j ki kj s Q' E' _ ⟨t, e1⟩ ⟨t2, e2⟩ hQ => ?_⟩
        · obtain ⟨h', g', d', t', o'⟩ := s'
          obtain ⟨m1, m2, m3, m4, m5⟩ := mv
          cases (show g' = s.gens from m2)
          cases (show d' = s.drawn from m3)
          cases (show o' = s.os from m4)
          refine I'.turnedL (ch := [(s2.heap.push (itO tp a)).objs.size, s2.heap.objs.size]) (fun b o hb e => m1 b o hb e) fun b hb => ?_
          rcases List.mem_cons.mp hb with z | z
          · rw [z]; exact ⟨n2, fS.2⟩
          · rw [List.mem_singleton.mp z]; exact ⟨n1, fit.2⟩
        · obtain ⟨hq', hf', hc'⟩ := facts _ j
          have tn := turn i x' H' j hx'
          refine wpAny_mono (lam_call (k := k) (A := X.A.in1) I' L hN hp I'.ok.frames hh (show X.A.depth < recursionLimit by have := hr.dp; omega) (fun _ _ _ _ => room_lam hr _ _ _ _ _) hf' hc' (fun pm ct => hbind _ _ _ _ _ _) hb rx' tn) (fun kv s' ce => ?_) fun _ _ z => z
          obtain ⟨y, H'', os, bare, un, hok, ry, ey, j2⟩ := ce
          subst ey
          obtain ⟨t, rfl⟩ := _root_.id ry
          have I'' : Inv X pins σ H'' s' := I'.call' (ch := []) os un hok bare fun b z => absurd z (by simp)
          obtain ⟨oo, hoo, _⟩ := h1.obj
          have ex : ∀ b : Addr, b ∉ ([] : List Addr) := fun b => by simp
          have gS := un.keep _ o hS n2 oS (ex _)
          obtain ⟨hq'', _, _⟩ := facts _ j2
          obtain ⟨its2, rv2, pl2⟩ := sqX_read I'' hq''
          exact hQ _ s' ⟨H'', I'', j2, un.free _ oo hoo n1 (ex _), un.free _ o hS n2 (ex _)⟩ ⟨h1.at fun o2 e => un.keep _ o2 e n1 oit (ex _), its2, rv2, pl2⟩ gS ⟨t, rfl⟩ fun j k' v => v
        · subst e1 e2
          exact (CmpOf.ints_lt (P := fun i v => ∃ t, v = .int (key i) t) key fun i v h => h) i j _ _ s Q' E' ⟨t, rfl⟩ ⟨t2, rfl⟩ hQ
      · rintro v s' ⟨x', hx', rx'⟩ ⟨H', I', j, n1, n2⟩
        exact ⟨x', H', I', rx', fin x' H' j hx'⟩
def keysGo (p : Nat) (fe : Dn) (ρ : Rho) : List PyData → R (List Int)
  | [] => .ok []
  | d :: ds => nx (fe (ρ.set p (some (.d d)))) fun y => match y with
    | .int k => nx (keysGo p fe ρ ds) fun ks => .ok (k :: ks)
    | _ => .bad
def pickBest (ds : List PyData) (ks : List Int) : R PyData := match ds[argBest (fun i j => decide (ks.getD i 0 < ks.getD j 0)) (ds.length - 1)]? with
  | some d => .ok d
  | none => .bad
def minLA (p : Nat) (fe : Dn) (ρ : Rho) : List PyData → R PyData
  | [d] => items d >>= fun ds => nx (keysGo p fe ρ ds) fun ks => pickBest ds ks
  | _ => .bad
def dMinL (g : DnL) (p : Nat) (fe : Dn) : Dn := fun ρ => g ρ >>= minLA p fe ρ
theorem keysGo_get {p : Nat} {fe : Dn} {ρ : Rho} : ∀ {ds : List PyData} {ks : List Int} {i : Nat} {d : PyData}, keysGo p fe ρ ds = .ok ks → ds[i]? = some d → fe (ρ.set p (some (.d d))) = .ok (.int (ks.getD i 0))
  | [], ks, i, d, _, h => by simp at h
  | e :: ds, ks, i, d, q, h => by
    unfold keysGo at q
    obtain ⟨y, e1, q⟩ := nx_ok q
    split at q
    · obtain ⟨r, e2, q⟩ := nx_ok q
      cases q
      cases i with
      | zero => cases h; exact e1
      | succ i =>
        have := keysGo_get e2 (show ds[i]? = some d from by simpa using h)
        simpa using this
    · cases q
theorem fd_minL {X : Cx} {Tb : List Addr} {W : WX} {P c0 : Addr} {e : Expr} {k p : Nat} {g : DnL} {fe : Dn} {params : Arguments} {body : Expr} {scope : Scope} {x : Str} {pos lpos pm kpos : Pos} (hr : Room (k + 3) X.A) (hP : P ∈ Tb) (TB : GxR.TabB X.base X.mg c0 P) (hcode : X.env.code = .ref c0) (hc : X.calm = true) (hN : X.N.Nodup)
    (hp : X.N[p]? = some x) (L : lamS1B X.env.scope scope x = true) (hdef : defaultsOf params X.env = ([], [])) (hbind : ∀ q cl pm cv ct u, bindArgs (PySem.W.kla_fn "<lambda>" q params body scope cl pm cv ct) ⟨[u], []⟩ = pure [(x, u)]) (ha : PA X [e] (tDs X.K Tb W g))
    (hb : ∀ (A : Around) (s : Shared) (H : Hp) (q : Str) (f c : Addr), Room k (A.deeper (lamE X q scope s.heap.objs.size f c)) → PE (lamX X A s H scope q f c) body (tD X.K Tb W0 fe)) (hm : X.mg "min" = none) (hg : Gl X "min" := by rfl)
    (hs : backTo pos (starEach [e] X.env) = (false, eval e X.env) :: backTo pos (starEach [] X.env) := by rfl) (hpl : (backTo pos (starEach [e] X.env)).any (·.1) = false := by rfl)
    (hall : (backToKw pos (keywordEach [⟨some "key", .Lambda params body scope lpos, kpos⟩] X.env)).all (·.1.isSome) = true := by rfl) (hnone : (backToKw pos (keywordEach [⟨some "key", .Lambda params body scope lpos, kpos⟩] X.env)).any (·.1.isNone) = false := by rfl)
    (hks : (backToKw pos (keywordEach [⟨some "key", .Lambda params body scope lpos, kpos⟩] X.env)).filterMap (·.1) = [Str.ofString "key"] := by rfl) :
    PE X (.Call (.Name "min" pm) [e] [⟨some "key", .Lambda params body scope lpos, kpos⟩] pos) (tD X.K Tb W (dMinL g p fe)) :=
  (pe_minL hr hg hm TB hcode hc hN (lamS1_by L) hp hdef hbind ha hb hs hpl hall hnone hks).by fun σ H Q ⟨H0, O0, O, ρ, st, h⟩ => ⟨H0, O0, O, ρ, st, by
  refine Post.then h fun vs us H1 ex r kk => ?_
  have st1 := st.step ex
  refine ⟨st1.tab P hP, fun f c n H2 tb nf hco => ?_⟩
  unfold minLA at kk
  split at kk
  · rename_i d
    cases r with
    | cons r1 r2 =>
      cases r2
      cases hi : items d with
      | bad => rw [hi] at kk; exact kk.elim
      | exc z => exact absurd hi items_no
      | ok ds =>
        rw [hi] at kk
        obtain ⟨tp, a, xs, rfl, h1, z1, a1⟩ := rp_items r1 hi
        cases hk : keysGo p fe ρ ds with
        | bad => rw [R.bind_ok, hk] at kk; exact kk.elim
        | exc z => rw [R.bind_ok, hk] at kk; exact kk.elim
        | ok ks =>
          rw [R.bind_ok, hk] at kk
          have kk : Post X.K O (RlD X.K O) (fun c d H => W c d σ H) H1 (pickBest ds ks) Q := kk
          unfold pickBest at kk
          split at kk
          · rename_i d1 hd1
            have e12 : Ext H1 H2 := Ext.tabbed (st1.tab P hP) tb
            have e1f : Ext H1 (upd H2 f (FunO (X.env.qual ++ "<lambda>") params body scope (cloFrom X.env.cells scope.names []) c f)) := e12.trans (Ext.new nf)
            have fo : ∀ ps, FunO (X.env.qual ++ "<lambda>") params body scope (cloFrom X.env.cells scope.names []) c f ≠ .tbl ps := fun ps z => by unfold FunO at z; cases z
            have ncf : c ≠ f := ne_of_none hco nf
            refine ⟨tp, a, xs, fun H' => St0 X.K Tb H0 O0 O H' σ ρ ∧ Ext (upd H2 f (FunO (X.env.qual ++ "<lambda>") params body scope (cloFrom X.env.cells scope.names []) c f)) H', fun i => ks.getD i 0, rfl, ?_, ⟨st1.step e1f, Ext.refl _⟩, fun H' ⟨s', e'⟩ => ⟨(h1.step Sub.unhide).step (Sub.ext (e1f.trans e')), e'.keep f _ upd_same fo, e'.keep c _ (by rw [upd_ne ncf]; exact hco) codeO_tbl⟩, fun i x' H' ⟨s', e'⟩ hx => ?_, fun x' H' ⟨s', e'⟩ hx => ?_⟩
            · obtain ⟨lt, _⟩ := List.getElem?_eq_some_iff.mp hd1
              rw [a1.length]
              omega
            · obtain ⟨d2, g1, g2⟩ := a1.get hx
              have g3 := g2.mono (Sub.hide (e1f.trans e').keep)
              refine ⟨H0, O0, O, ρ.set p (some (.d d2)), s'.set g3, ?_⟩
              rw [keysGo_get hk g1]
              intro y H'' e2 ry
              cases ry
              exact ⟨rfl, s'.step e2, e'.trans e2⟩
            · rw [a1.length] at hx
              obtain ⟨d2, g1, g2⟩ := a1.get hx
              rw [hd1] at g1
              cases g1
              exact kk x' H' (e1f.trans e') (g2.mono (Sub.hide (e1f.trans e').keep))
          · exact kk.elim
  · exact kk.elim⟩
end PD

set_option Elab.async false
set_option linter.all false
set_option maxRecDepth 100000
set_option maxHeartbeats 1000000
namespace PD
open PySem PySem.Spec PyProof.Rows L2

/-! ### comprehensions of two clauses -/
def lc2Go (t : Tg) (ft : DnB) (fi1 : DnL) (t1 : Tg) (ft1 : DnB) (fe : Dn) (vs1 : List Nat) (ρ : Rho) : List PyData → R (List PyData)
  | [] => .ok []
  | d :: ds => match t.set d ρ with
    | some ρ1 => nx (ft ρ1) fun b => if b = true then nx (fi1 ρ1) fun es => nx (lcGo t1 ft1 fe (wipeR ρ1 vs1) es) fun ys => nx (lc2Go t ft fi1 t1 ft1 fe vs1 ρ ds) fun zs => .ok (ys ++ zs) else lc2Go t ft fi1 t1 ft1 fe vs1 ρ ds
    | none => .bad
def dLc2 (fi : DnL) (t : Tg) (ft : DnB) (fi1 : DnL) (t1 : Tg) (ft1 : DnB) (fe : Dn) (vs vs1 : List Nat) : Dn := fun ρ => fi ρ >>= fun ds => nx (lc2Go t ft fi1 t1 ft1 fe vs1 (wipeR ρ vs) ds) fun ys => if ys.length ≤ sizeLine then .ok (.list ys) else .bad
theorem ext_past {Hb H H' : Hp} {D : Addr} (e : Ext Hb H) (n : Hb D = none) (pl : ∀ c q, H D ≠ some (LamX.CodeO c q)) (e2 : Ext (hide [D] H) H') : Ext Hb H' := by
  have out : ∀ b, b ≠ D → hide [D] H b = H b := fun b h => hide_out (by simpa using h)
  refine ⟨fun b o h t => ?_, fun b t => ?_, fun b h => ?_⟩
  · exact e2.keep b o (by rw [out b (ne_of_none h n)]; exact e.keep b o h t) t
  · have hb : b ≠ D := tabG_ne t fun ps q => by rw [n] at q; cases q
    exact e2.tab b ((e.tab b t).mono (fun ps h => by rw [out b hb]; exact h) fun c q h => by rw [out c fun z => pl c q (by rw [← z]; exact h)]; exact h)
  · have hb : b ≠ D := fun z => h (by rw [z]; exact n)
    exact e2.al b (by rw [out b hb]; exact e.al b h)
mutual
theorem tg_own {i : Nat} {s : Sl} (hs : s.Hold) : ∀ {t : Tg} {d : PyData} {ρ ρ1 : Rho}, ρ1[i]? = some (some s) → t.set d ρ = some ρ1 → ρ[i]? = some (some s)
  | .nm j, d, ρ, ρ1, h, e => by
    unfold Tg.set at e
    cases e
    by_cases hj : j = i
    · subst hj
      by_cases hl : j < ρ.length
      · rw [List.getElem?_set_self hl] at h; cases h; exact hs.elim
      · rw [List.getElem?_eq_none (by rw [List.length_set]; omega)] at h; cases h
    · rw [List.getElem?_set_ne hj] at h; exact h
  | .tp ts, d, ρ, ρ1, h, e => by
    unfold Tg.set at e
    split at e
    · exact tgs_own hs h e
    · cases e
theorem tgs_own {i : Nat} {s : Sl} (hs : s.Hold) : ∀ {ts : List Tg} {ds : List PyData} {ρ ρ1 : Rho}, ρ1[i]? = some (some s) → Tg.sets ts ds ρ = some ρ1 → ρ[i]? = some (some s)
  | [], [], ρ, ρ1, h, e => by
    unfold Tg.sets at e
    cases e
    exact h
  | t :: ts, d :: ds, ρ, ρ1, h, e => by
    unfold Tg.sets at e
    cases e1 : t.set d ρ with
    | none => rw [e1] at e; cases e
    | some ρ2 =>
      rw [e1] at e
      exact tg_own hs (tgs_own hs h e) e1
  | [], d :: ds, ρ, ρ1, h, e => by unfold Tg.sets at e; cases e
  | t :: ts, [], ρ, ρ1, h, e => by unfold Tg.sets at e; cases e
end
section
variable {K : PySem.W.Frag} {Tb : List Addr}
/-- the turns of the inner clause: what it makes goes behind acc0 at D -/
theorem in_turns {t : Tg} {ft : DnB} {fe : Dn} {vs : List Nat} {σ σB : L2.St} {ρ ρB : Rho} {H0 H1 : Hp} {O0 O : List Addr} {J : It} {D : Addr} {ds ys acc0 : List PyData} {l0 : List V} {Nx : Hp → Prop} (hv : ∀ i ∈ t.ixs, i ∈ vs) (mD : D ∈ O) (mD0 : D ∉ O0)
    (own : ∀ (i : Nat) (s : Sl), s.Hold → ρ[i]? = some (some s) → σ[i]? ≠ some (some (.ref D))) (ownB : ∀ (i : Nat) (s : Sl), s.Hold → ρB[i]? = some (some s) → σB[i]? ≠ some (some (.ref D)))
    (stA : St0 K Tb H0 O0 O H1 σ ρ) (stB : St0 K Tb H0 O0 O H1 σB ρB) (it : ItD K (hide O H1) J ds) (hys : lcGo t ft fe (wipeR ρ vs) ds = .ok ys) (hD0 : H1 D = some (.lst l0)) (r0 : RpAll K (hide O H1) l0 acc0) (zl : acc0.length + ys.length ≤ sizeLine)
    (fin : ∀ l H', St0 K Tb H0 O0 O H' σB ρB → Ext (hide [D] H1) H' → H' D = some (.lst l) → RpAll K (hide O H') l (acc0 ++ ys) → Nx H') :
    ∃ W1 : Nat → Nat → Hp → Prop, (∃ m, W1 0 m H1) ∧ ∀ j k H, W1 j k H → (J.stop j H ∧ Nx H) ∨ (J.go j H ∧ ∃ Nx1 : Hp → Prop, (∀ H', Nx1 H' → ∃ k', k' < k ∧ W1 (j + 1) k' H') ∧ ∀ x H', J.yld j H x H' → tG K Tb t x (L2.wipe σ vs) H' fun σ3 H5 => L2.wipe σ3 vs = L2.wipe σ vs ∧ tDT K Tb W0 ft σ3 H5 fun b H6 =>
      if b = true then tD K Tb W0 fe σ3 H6 fun y H7 => ∃ acc, H7 D = some (.lst acc) ∧ acc.length < sizeLine ∧ Nx1 (upd H7 D (.lst (acc ++ [y]))) else Nx1 H6) := by
  have stw := stA.wiped vs
  have ownW : ∀ (i : Nat) (s : Sl), s.Hold → (wipeR ρ vs)[i]? = some (some s) → (L2.wipe σ vs)[i]? ≠ some (some (.ref D)) := fun i xs hs h1 h2 => by
    obtain ⟨g1, g2⟩ := wipeR_some h1
    rw [wipe_out g2] at h2
    exact own i xs hs g1 h2
  have nO : ∀ b ∈ O, hide O H1 b = none := fun b hb => hide_in hb
  have eO : Ext (hide O H1) (hide [D] H1) := by
    have sub : ∀ b o, hide O H1 b = some o → hide [D] H1 b = some o := fun b o h => by
      obtain ⟨h1, h2⟩ := hide_some h
      rw [hide_out (by simp only [List.mem_singleton]; exact fun z => h1 (by rw [z]; exact mD))]
      exact h2
    refine ⟨fun b o h _ => sub b o h, fun b t => t.mono (fun ps h => sub b _ h) fun c q h => sub c _ h, fun b h => ?_⟩
    cases q : hide O H1 b with
    | none => exact absurd q h
    | some x => rw [sub b x q]; simp
  have nD : hide [D] H1 D = none := hide_in (by simp)
  refine ⟨fun i m H' => i ≤ ds.length ∧ m = ds.length - i ∧ ∃ l done rest, St0 K Tb H0 O0 O H' (L2.wipe σ vs) (wipeR ρ vs) ∧ St0 K Tb H0 O0 O H' σB ρB ∧ Ext (hide [D] H1) H' ∧ H' D = some (.lst l) ∧ RpAll K (hide O H') l (acc0 ++ done) ∧ lcGo t ft fe (wipeR ρ vs) (ds.drop i) = .ok rest ∧ done ++ rest = ys,
    ⟨ds.length, Nat.zero_le _, by simp, l0, [], ys, stw, stB, Ext.unhide, hD0, by simpa using r0, hys, rfl⟩, ?_⟩
  rintro i m H' ⟨hi, rfl, l, done, rest, s1, sB, e1, hD, ra, go, ey⟩
  have eG : Ext (hide O H1) H' := eO.trans e1
  by_cases hlt : i < ds.length
  · refine .inr ⟨it.go i H' eG hlt, fun H2 => i + 1 ≤ ds.length ∧ ∃ l done rest, St0 K Tb H0 O0 O H2 (L2.wipe σ vs) (wipeR ρ vs) ∧ St0 K Tb H0 O0 O H2 σB ρB ∧ Ext (hide [D] H1) H2 ∧ H2 D = some (.lst l) ∧ RpAll K (hide O H2) l (acc0 ++ done) ∧ lcGo t ft fe (wipeR ρ vs) (ds.drop (i + 1)) = .ok rest ∧ done ++ rest = ys,
      fun H2 q => ⟨ds.length - (i + 1), by omega, q.1, rfl, q.2⟩, fun x H2 y => ?_⟩
    obtain ⟨e2, d, hd, rx⟩ := it.yld i H' O x H2 eG nO s1.al hlt y
    have hdr : ds.drop i = d :: ds.drop (i + 1) := by
      obtain ⟨hl, hd'⟩ := List.getElem?_eq_some_iff.mp hd
      rw [List.drop_eq_getElem_cons hl, hd']
    rw [hdr] at go
    unfold lcGo at go
    cases et : t.set d (wipeR ρ vs) with
    | none => rw [et] at go; cases go
    | some ρ1 =>
      rw [et] at go
      obtain ⟨b, eb, go⟩ := nx_ok go
      have s2 := s1.step e2
      refine ⟨H0, O0, O, wipeR ρ vs, ρ1, d, s2, rx, et, fun σ' st' ag => ⟨(ag.wipe hv).trans wipe_wipe, H0, O0, O, ρ1, st', ?_⟩⟩
      rw [eb]
      intro b' H3 e3 r3
      cases (show b' = b from r3)
      have s3 := st'.step e3
      have keepD : ∀ {G : Hp}, Ext H' G → G D = some (.lst l) := fun e => e.keep D _ hD (fun _ q => by cases q)
      cases b with
      | false => exact ⟨hlt, l, done, rest, s2.step e3, sB.step (e2.trans e3), e1.trans (e2.trans e3), keepD (e2.trans e3), ra.mono (Sub.hide (e2.trans e3).keep), go, ey⟩
      | true =>
        obtain ⟨yd, ey1, go⟩ := nx_ok go
        obtain ⟨rs, er, go⟩ := nx_ok go
        cases go
        refine ⟨H0, O0, O, ρ1, s3, ?_⟩
        rw [ey1]
        intro y H4 e4 r4
        have e24 := (e2.trans e3).trans e4
        have hD4 := keepD e24
        have s4 := (s2.step e3).step e4
        have sB4 := sB.step e24
        have lz : l.length < sizeLine := by
          have h1 := ra.length
          have h2 := congrArg List.length ey
          simp only [List.length_append, List.length_cons] at h1 h2
          omega
        refine ⟨l, hD4, lz, hlt, l ++ [y], done ++ [yd], rs, s4.hid mD mD0 hD4 ownW, sB4.hid mD mD0 hD4 ownB, (e1.trans e24).updN nD (fun c q z => (plain_lst l).1 c q (Option.some.inj (hD4.symm.trans z))), upd_same, ?_, er, ?_⟩
        · rw [hide_upd mD, ← List.append_assoc]
          exact (ra.mono (Sub.hide e24.keep)).append (.one r4)
        · rw [List.append_assoc]; exact ey
  · have ei : i = ds.length := by omega
    subst ei
    refine .inl ⟨it.stop H' eG, ?_⟩
    rw [List.drop_length] at go
    cases go
    rw [List.append_nil] at ey
    subst ey
    exact fin l H' sB e1 hD ra
theorem lc2_walk {W : WX} {t t1 : Tg} {ft ft1 : DnB} {fe : Dn} {fi fi1 : DnL} {vs vs1 : List Nat} {σ : L2.St} {H : Hp} {Q : VK} (hv : ∀ i ∈ t.ixs, i ∈ vs) (hv1 : ∀ i ∈ t1.ixs, i ∈ vs1) (h : tD K Tb W (dLc2 fi t ft fi1 t1 ft1 fe vs vs1) σ H Q) :
    tLc2 (tI K Tb W fi) (tG K Tb t) (tDT K Tb W0 ft) (tI K Tb W0 fi1) (tG K Tb t1) (tDT K Tb W0 ft1) (tD K Tb W0 fe) vs vs1 σ H Q := by
  obtain ⟨H0, O0, O, ρ, st, h⟩ := h
  refine ⟨H0, O0, O, ρ, st, Post.then h fun ds J H1 e it k => ?_⟩
  cases q : lc2Go t ft fi1 t1 ft1 fe vs1 (wipeR ρ vs) ds with
  | exc x => rw [q] at k; exact k.elim
  | bad => rw [q] at k; exact k.elim
  | ok ys =>
    rw [q, nx_ok'] at k
    split at k
    case isFalse => exact k.elim
    rename_i hz
    intro D nD
    have st1 := st.step e
    have aD : D ∉ O := st1.fresh nD
    have stw := (st1.wiped vs).more (o := .lst []) nD (plain_lst [])
    have aD0 : D ∉ O0 := fun m => aD (st1.sub D m)
    have own : ∀ (i : Nat) (s : Sl), s.Hold → (wipeR ρ vs)[i]? = some (some s) → (L2.wipe σ vs)[i]? ≠ some (some (.ref D)) := fun i s hs h1 h2 => aD ((st1.wiped vs).hold hs h1 h2).1
    have nO : ∀ b ∈ D :: O, hide O H1 b = none := fun b hb => by
      rcases List.mem_cons.mp hb with rfl | hb
      · exact hide_none nD
      · exact hide_in hb
    refine ⟨fun i m H' => i ≤ ds.length ∧ m = ds.length - i ∧ ∃ l done rest, St0 K Tb H0 O0 (D :: O) H' (L2.wipe σ vs) (wipeR ρ vs) ∧ Ext H1 H' ∧ H' D = some (.lst l) ∧ RpAll K (hide (D :: O) H') l done ∧ lc2Go t ft fi1 t1 ft1 fe vs1 (wipeR ρ vs) (ds.drop i) = .ok rest ∧ done ++ rest = ys,
      ⟨ds.length, Nat.zero_le _, by simp, [], [], ys, stw, Ext.new nD, upd_same, .nil, q, rfl⟩, ?_⟩
    rintro i m H' ⟨hi, rfl, l, done, rest, s1, e1, hD, ra, go, ey⟩
    have eG : Ext (hide O H1) H' := Ext.unhide.trans e1
    by_cases hlt : i < ds.length
    · refine .inr ⟨it.go i H' eG hlt, fun H2 => i + 1 ≤ ds.length ∧ ∃ l done rest, St0 K Tb H0 O0 (D :: O) H2 (L2.wipe σ vs) (wipeR ρ vs) ∧ Ext H1 H2 ∧ H2 D = some (.lst l) ∧ RpAll K (hide (D :: O) H2) l done ∧ lc2Go t ft fi1 t1 ft1 fe vs1 (wipeR ρ vs) (ds.drop (i + 1)) = .ok rest ∧ done ++ rest = ys,
        fun H2 q => ⟨ds.length - (i + 1), by omega, q.1, rfl, q.2⟩, fun x H2 y => ?_⟩
      obtain ⟨e2, d, hd, rx⟩ := it.yld i H' (D :: O) x H2 eG nO s1.al hlt y
      have hdr : ds.drop i = d :: ds.drop (i + 1) := by
        obtain ⟨hl, hd'⟩ := List.getElem?_eq_some_iff.mp hd
        rw [List.drop_eq_getElem_cons hl, hd']
      rw [hdr] at go
      unfold lc2Go at go
      cases et : t.set d (wipeR ρ vs) with
      | none => rw [et] at go; cases go
      | some ρ1 =>
        rw [et] at go
        obtain ⟨b, eb, go⟩ := nx_ok go
        have s2 := s1.step e2
        refine ⟨H0, O0, D :: O, wipeR ρ vs, ρ1, d, s2, rx, et, fun σ2 st2 ag => ⟨(ag.wipe hv).trans wipe_wipe, H0, O0, D :: O, ρ1, st2, ?_⟩⟩
        rw [eb]
        intro b' H3 e3 r3
        cases (show b' = b from r3)
        have s3 := st2.step e3
        have keepD : ∀ {G : Hp}, Ext H' G → G D = some (.lst l) := fun e => e.keep D _ hD (fun _ q => by cases q)
        cases b with
        | false => exact ⟨hlt, l, done, rest, s2.step e3, e1.trans (e2.trans e3), keepD (e2.trans e3), ra.mono (Sub.hide (e2.trans e3).keep), go, ey⟩
        | true =>
          obtain ⟨es, ee, go⟩ := nx_ok go
          obtain ⟨ys1, ey1, go⟩ := nx_ok go
          obtain ⟨zs, ez, go⟩ := nx_ok go
          cases go
          refine ⟨H0, O0, D :: O, ρ1, s3, ?_⟩
          rw [ee]
          intro J1 H4 e4 it1
          have e24 := (e2.trans e3).trans e4
          have hD4 := keepD e24
          have s4 := s3.step e4
          have sB := (s2.step e3).step e4
          have own1 : ∀ (i : Nat) (s : Sl), s.Hold → ρ1[i]? = some (some s) → σ2[i]? ≠ some (some (.ref D)) := fun i xs hs h1 h2 => by
            have g1 := tg_own hs h1 et
            obtain ⟨_, g2⟩ := wipeR_some g1
            rw [ag.2 i fun m => g2 (hv i m)] at h2
            exact own i xs hs g1 h2
          refine in_turns (acc0 := done) hv1 List.mem_cons_self aD0 own1 own s4 sB it1 ey1 hD4 (ra.mono (Sub.hide e24.keep)) ?_ fun l' H5 sB5 e5 hD5 r5 => ?_
          · have h2 := congrArg List.length ey
            simp only [List.length_append] at h2
            omega
          · refine ⟨hlt, l', done ++ ys1, zs, sB5, ext_past (e1.trans e24) nD (fun c q z => (plain_lst l).1 c q (Option.some.inj (hD4.symm.trans z))) e5, hD5, r5, ez, ?_⟩
            rw [List.append_assoc]; exact ey
    · have ei : i = ds.length := by omega
      subst ei
      refine .inl ⟨it.stop H' eG, ?_⟩
      rw [List.drop_length] at go
      cases go
      rw [List.append_nil] at ey
      subst ey
      exact k _ H' e1 (.lst (.of (by rw [hide_out aD]; exact hD)) hz (ra.mono (Sub.less fun b hb => List.mem_cons_of_mem _ hb)))
end
section
variable {X : Cx} {Tb : List Addr} {W : WX}
theorem fd_lc2 {elt tg iter tg1 iter1 : Expr} {ifs ifs1 : List Expr} {scope : Scope} {own : List (Str × Nat)} {vs1 : List Nat} {pos : Pos} {fi fi1 : DnL} {t t1 : Tg} {ft ft1 : DnB} {fe : Dn} (hc : X.calm = true) (hN : X.N.Nodup) (hi : PI X tg iter (tI X.K Tb W fi)) (ok : BlkOk X.N X.env.scope scope own)
    (hg : ∀ (s : Shared) (H : Hp) (C : Addr) (cl : List (Str × Addr)) (fp : List Addr), PG (X.blk s H scope (compEnvC scope cl C X.env) fp) tg (tG X.K Tb t))
    (ht : ∀ (s : Shared) (H : Hp) (C : Addr) (cl : List (Str × Addr)) (fp : List Addr), PTs (X.blk s H scope (compEnvC scope cl C X.env) fp) ifs (tDT X.K Tb W0 ft))
    (hi1 : ∀ (s : Shared) (H : Hp) (C : Addr) (cl : List (Str × Addr)) (fp : List Addr), PI (X.blk s H scope (compEnvC scope cl C X.env) fp) tg1 iter1 (tI X.K Tb W0 fi1))
    (hg1 : ∀ (s : Shared) (H : Hp) (C : Addr) (cl : List (Str × Addr)) (fp : List Addr), PG (X.blk s H scope (compEnvC scope cl C X.env) fp) tg1 (tG X.K Tb t1))
    (ht1 : ∀ (s : Shared) (H : Hp) (C : Addr) (cl : List (Str × Addr)) (fp : List Addr), PTs (X.blk s H scope (compEnvC scope cl C X.env) fp) ifs1 (tDT X.K Tb W0 ft1))
    (he : ∀ (s : Shared) (H : Hp) (C : Addr) (cl : List (Str × Addr)) (fp : List Addr), PE (X.blk s H scope (compEnvC scope cl C X.env) fp) elt (tD X.K Tb W0 fe))
    (hvv : ∀ i ∈ vs1, i ∈ own.map (·.2) := by decide) (hv : ∀ i ∈ t.ixs, i ∈ own.map (·.2) := by decide) (hv1 : ∀ i ∈ t1.ixs, i ∈ vs1 := by decide) (hs : ∀ x, foldedSetIterable iter X.env x = pure x := by intro _; rfl) (hs1 : ∀ env x, foldedSetIterable iter1 env x = pure x := by intro _ _; rfl) :
    PE X (.ListComp elt [⟨tg, iter, ifs, 0⟩, ⟨tg1, iter1, ifs1, 0⟩] scope pos) (tD X.K Tb W (dLc2 fi t ft fi1 t1 ft1 fe (own.map (·.2)) vs1)) :=
  (pe_lc2 hc hN hi ok hvv hg ht hi1 hg1 ht1 he hs hs1).by fun σ H Q h => lc2_walk hv hv1 h
theorem fs_setLc2 {i : Nat} {y : Str} {py : Pos} {elt tg iter tg1 iter1 : Expr} {ifs ifs1 : List Expr} {scope : Scope} {own : List (Str × Nat)} {vs1 : List Nat} {pos spos : Pos} {fi fi1 : DnL} {t t1 : Tg} {ft ft1 : DnB} {fe : Dn} (hc : X.calm = true) (hN : X.N.Nodup) (hy : X.N[i]? = some y) (hyl : X.env.scope.names.lookup y = some .local)
    (hsw : swapsWith (.ListComp elt [⟨tg, iter, ifs, 0⟩, ⟨tg1, iter1, ifs1, 0⟩] scope pos) (some (.Name y py)) spos.line X.env = pure true) (hi : PI X tg iter (tI X.K Tb W fi)) (ok : BlkOk X.N X.env.scope scope own)
    (hg : ∀ (s : Shared) (H : Hp) (C : Addr) (cl : List (Str × Addr)) (fp : List Addr), PG (X.blk s H scope (compEnvC scope cl C X.env) fp) tg (tG X.K Tb t))
    (ht : ∀ (s : Shared) (H : Hp) (C : Addr) (cl : List (Str × Addr)) (fp : List Addr), PTs (X.blk s H scope (compEnvC scope cl C X.env) fp) ifs (tDT X.K Tb W0 ft))
    (hi1 : ∀ (s : Shared) (H : Hp) (C : Addr) (cl : List (Str × Addr)) (fp : List Addr), PI (X.blk s H scope (compEnvC scope cl C X.env) fp) tg1 iter1 (tI X.K Tb W0 fi1))
    (hg1 : ∀ (s : Shared) (H : Hp) (C : Addr) (cl : List (Str × Addr)) (fp : List Addr), PG (X.blk s H scope (compEnvC scope cl C X.env) fp) tg1 (tG X.K Tb t1))
    (ht1 : ∀ (s : Shared) (H : Hp) (C : Addr) (cl : List (Str × Addr)) (fp : List Addr), PTs (X.blk s H scope (compEnvC scope cl C X.env) fp) ifs1 (tDT X.K Tb W0 ft1))
    (he : ∀ (s : Shared) (H : Hp) (C : Addr) (cl : List (Str × Addr)) (fp : List Addr), PE (X.blk s H scope (compEnvC scope cl C X.env) fp) elt (tD X.K Tb W0 fe))
    (hvv : ∀ i ∈ vs1, i ∈ own.map (·.2) := by decide) (hv : ∀ i ∈ t.ixs, i ∈ own.map (·.2) := by decide) (hv1 : ∀ i ∈ t1.ixs, i ∈ vs1 := by decide) (hs : ∀ x, foldedSetIterable iter X.env x = pure x := by intro _; rfl) (hs1 : ∀ env x, foldedSetIterable iter1 env x = pure x := by intro _ _; rfl) :
    PS X (.Assign [.Name y py] (.ListComp elt [⟨tg, iter, ifs, 0⟩, ⟨tg1, iter1, ifs1, 0⟩] scope pos) spos) (tS X.K Tb W (gSet (dLc2 fi t ft fi1 t1 ft1 fe (own.map (·.2)) vs1) (.nm i))) :=
  (ps_setLc2 hc hN hy hyl hsw hi ok hvv hg ht hi1 hg1 ht1 he hs hs1).by fun D σ H ⟨H0, O0, O, ρ, st, h⟩ => lc2_walk (W := W) (Q := fun x H1 => gName i x σ H1 D.nx) hv hv1 ⟨H0, O0, O, ρ, st, oR_post st h fun d v H1 e r k => by
    unfold Tg.set at k
    exact k O _ H1 ((st.step e).set r)⟩
end
end PD

set_option Elab.async false
set_option linter.all false
set_option maxRecDepth 100000
set_option maxHeartbeats 1000000
namespace PD
open PySem PySem.Spec PyProof.Rows L2

/-! ### own[i] = e, own[i] += e -/
theorem pget_list {X : Cx} : PGet X (rIxL X.K) := by
  intro pins s σ H o i ov iv Q I ro ri h
  obtain ⟨p, xs, k, z, rfl, rfl, hq, he, q⟩ := h
  cases ro
  obtain ⟨t, rfl⟩ := ri
  obtain ⟨its, r, pl, hz⟩ := I.list hq
  obtain ⟨j, h1, h2, h3, h4, h5⟩ := atI_get he
  obtain ⟨w, ew, rw'⟩ := r.get h2
  have hl := r.length
  have hn := line63
  have fin : EP X pins σ Q w s := ⟨z, H, I, rw', q⟩
  by_cases h0 : 0 ≤ k
  · have hj : k.toNat = j := by
      rw [seqIndex_of h0 h5] at h1
      exact Option.some.inj h1
    exact wpAny_getItem_list pl.isList h0 (by omega) (by rw [hj]; simpa using ew) fin
  · have hj : (k + (its.toArray.size : Int)).toNat = j := by
      rw [seqIndex_neg (by omega) h4] at h1
      rw [List.size_toArray, ← hl]
      exact Option.some.inj h1
    exact wpAny_getItem_list_neg pl.isList (by omega) (by rw [List.size_toArray] <;> omega) (by omega) (by rw [hj]; simpa using ew) fin
def gSetAt (i : Nat) (fi fe : Dn) : Sn := fun ρ => oR (fe ρ) ρ fun y => ownAt ρ i fun ds => match fi ρ with
  | .ok (.int k) => match ixN ds.length k with
    | some j => .nx (ρ.set i (some (.own (ds.set j y))))
    | none => .bad
  | _ => .bad
def gAugAt (i : Nat) (fi fe : Dn) : Sn := fun ρ => ownAt ρ i fun ds => match fi ρ with
  | .ok (.int k) => match fe ρ with
    | .ok (.int y) => match ixN ds.length k with
      | some j => match ds[j]? with
        | some (.int z) => .nx (ρ.set i (some (.own (ds.set j (.int (z + y))))))
        | _ => .bad
      | none => .bad
    | _ => .bad
  | _ => .bad
section
variable {X : Cx} {Tb : List Addr} {W : WX} {e ei : Expr} {f g : Dn} {pos npos spos : Pos} {x : Str}
theorem fs_setAt {i : Nat} (ho : X.N[i]? = some x) (hv : Vis X.env.scope x) (hd : (x == ("__debug__" : Str)) = false) (hcd : (x == ("__classdict__" : Str)) = false) (hi : PE X ei (tD X.K Tb W f)) (he : PE X e (tD X.K Tb W g))
    (ha : ∀ v, assign (.Subscript (.Name x npos) ei spos) X.env v = (do
      let ov ← holding [v] (eval (.Name x npos) X.env)
      let iv ← holding [v, ov] (eval ei X.env)
      standAt spos
      holding [v, ov, iv] (setItem ov iv v)
      release [v, ov, iv] []) := by intro _; rfl)
    (hs : swapsWithSole [.Subscript (.Name x npos) ei spos] e pos.line X.env = pure false := by rfl) (hw : swappedStores [.Subscript (.Name x npos) ei spos] e X.env = pure none := by rfl)
    (h1 : (assignEach [.Subscript (.Name x npos) ei spos] X.env).map (·.2) = [assign (.Subscript (.Name x npos) ei spos) X.env] := by rfl) :
    PS X (.Assign [.Subscript (.Name x npos) ei spos] e pos) (tS X.K Tb W (gSetAt i f g)) :=
  (ps_asg he (pg_sub (pe_var ho hv hd hcd) hi set_list ha) hs hw h1).by fun D σ H ⟨H0, O0, O, ρ, st, h⟩ => ⟨H0, O0, O, ρ, st, oR_post st h fun y v H1 ex rv k => by
    have st1 := st.step ex
    obtain ⟨ds, p, vs, e1, e2, hp, z, r, k⟩ := own_at st1 k
    refine ⟨.ref p, e2, H0, O0, O, ρ, st1, ?_⟩
    split at k
    · rename_i kk hf
      rw [hf]
      intro kv H2 ex2 rk
      cases rk
      split at k
      · rename_i j hj
        refine ⟨p, vs, kk, j, rfl, rfl, ex2.keep p _ hp (fun _ q => by cases q), by rw [r.length]; exact hj, k O σ _ ((st1.step ex2).ownSet e1 e2 (by rw [List.length_set]; exact z) ?_)⟩
        exact (r.mono (Sub.hide ex2.keep)).set (rv.mono (Sub.hide ex2.keep)) j
      · exact k.elim
    · exact k.elim⟩
theorem fs_augAt {i : Nat} (ho : X.N[i]? = some x) (hv : Vis X.env.scope x) (hd : (x == ("__debug__" : Str)) = false) (hcd : (x == ("__classdict__" : Str)) = false) (hi : PE X ei (tD X.K Tb W f)) (he : PE X e (tD X.K Tb W g))
    (ha : ∀ ov iv new, augStore ei ov iv new = (do holding [new, ov, iv] (setItem ov iv new); release [new, ov, iv] []; pure .next) := by intros; rfl) :
    PS X (.AugAssign (.Subscript (.Name x npos) ei spos) .Add e pos) (tS X.K Tb W (gAugAt i f g)) :=
  (ps_augS (pe_var ho hv hd hcd) hi pget_list he ip_add set_list ha).by fun D σ H ⟨H0, O0, O, ρ, st, h⟩ => by
    obtain ⟨ds, p, vs, e1, e2, hp, z, r, k⟩ := own_at st h
    refine ⟨.ref p, e2, H0, O0, O, ρ, st, ?_⟩
    split at k
    · rename_i kk hf
      rw [hf]
      intro kv H2 ex2 rk
      cases rk
      split at k
      · rename_i yy hg
        split at k
        · rename_i j hj
          split at k
          · rename_i zz hz
            have hp2 := ex2.keep p _ hp (fun _ q => by cases q)
            obtain ⟨v, g1, g2⟩ := r.get' hz
            cases g2
            refine ⟨p, vs, kk, .int zz, rfl, rfl, .of hp2, by unfold atI; rw [r.length, hj]; exact g1, H0, O0, O, ρ, st.step ex2, ?_⟩
            rw [hg]
            intro y' H3 ex3 ry
            cases ry
            refine ⟨zz, yy, rfl, rfl, p, vs, kk, j, rfl, rfl, ex3.keep p _ hp2 (fun _ q => by cases q), by rw [r.length]; exact hj, k O σ _ ((st.step (ex2.trans ex3)).ownSet e1 e2 (by rw [List.length_set]; exact z) ?_)⟩
            exact (r.mono (Sub.hide (ex2.trans ex3).keep)).set (.int _) j
          · exact k.elim
        · exact k.elim
      · exact k.elim
    · exact k.elim
end
end PD

set_option Elab.async false
set_option linter.all false
set_option maxRecDepth 100000
set_option maxHeartbeats 1000000
namespace PD
open PySem PySem.Spec PyProof.Rows L2

/-! ### the least of a list of tuples -/
section
variable {prog : Program} {w : World} {A : Around} {E : Value → Shared → Prop} {s : Shared}
theorem min_list_at {l : Addr} {vs : Array Value} {x : PyData} {xs : List PyData} {as : List Addr} {Q : Value → Shared → Prop} (hh : A.handled = none) (hl : s.heap.IsList l vs) (hr : ReadsAll s.heap vs.toList (x :: xs) as) (ha : PySem.W.AlikeAll (x :: xs)) (hu : A.units + 1 + PyData.depthAll (x :: xs) < cLine)
    (h : ∀ (i : Nat) v h' tk, vs[i]? = some v → (x :: xs).getD i .none = PySem.W.minD x xs → (∀ b o, s.heap.get? b = some o → h'.get? b = some o) → Q v { s with heap := h', toks := tk }) :
    wpAny (model prog w) A (call (.builtin "min") [.ref l]) Q E s := by
  have hn : vs.size = xs.length + 1 := PySem.W.readsAll_len hr
  refine call_min_walkH (PySem.W.iter_listW (A := A.in1) hh hl fun s₂ e W st hfp hw hk => ?_)
  refine ⟨_, _, _, _, _, _, _, s.heap, _, rfl, W, st, hfp, by omega, hw, hk, PySem.W.cmpIn_lt (A := A.in1) hr ha (by show A.units + 1 + _ < _; exact hu), fun v s' hP m => ?_⟩
  obtain ⟨h', tk, rfl, hk'⟩ := PySem.W.moved_old e rfl m
  have e1 : vs.size - 1 = xs.length := by omega
  have e2 := (PySem.W.argBest_fold PySem.W.dataLt PyData.none x xs xs.length (Nat.le_refl _)).2
  rw [List.take_length] at e2
  rw [e1] at hP
  exact h _ v h' tk hP (by unfold PySem.W.minD; rw [← e2]) hk'
end
def bMinT : List PyData → R PyData
  | [.list (x :: xs)] => if (okSort (x :: xs) && allTup (x :: xs)) = true then .ok (PySem.W.minD x xs) else .bad
  | _ => .bad
section
variable {X : Cx} {K : PySem.W.Frag}
theorem each_readsAll {h : Heap} : ∀ {us : List Value} {ds : List PyData}, PySem.W.EachIs (fun v d => ∃ as, Reads h v d as) us ds → ∃ as, ReadsAll h us ds as
  | _, _, .nil => ⟨_, .nil⟩
  | _, _, .cons ⟨as, r⟩ t => by
    obtain ⟨bs, q⟩ := each_readsAll t
    exact ⟨_, .cons r q⟩
theorem rpAll_nth {G : Hp} : ∀ {xs : List V} {ds : List PyData} {i : Nat} {x : V}, RpAll K G xs ds → xs[i]? = some x → Rp K G x (ds.getD i .none)
  | _, _, i, x, .nil, h => by simp at h
  | _, _, 0, x, .cons r _, h => by
    have := Option.some.inj (show some _ = some x from h)
    subst this
    exact r
  | _, _, i + 1, x, .cons _ t, h => rpAll_nth (i := i) t (by simpa using h)
theorem depthAll_le {n : Nat} : ∀ {ds : List PyData}, (∀ d ∈ ds, d.depth ≤ n) → PyData.depthAll ds ≤ n
  | [], _ => Nat.zero_le _
  | d :: ds, h => Nat.max_le.mpr ⟨h d List.mem_cons_self, depthAll_le fun e he => h e (List.mem_cons_of_mem _ he)⟩
def rMinT (K : PySem.W.Frag) : List V → Hp → VK → Prop := fun vs H Q => ∃ (G : Hp) (a : Addr) (xs : List V) (d : PyData) (ds : List PyData), vs = [V.ref a] ∧ Sub G H ∧ SqL K H a xs ∧ RpAll K G xs (d :: ds) ∧ (okSort (d :: ds) && allTup (d :: ds)) = true ∧
  ∀ y, Rp K G y (PySem.W.minD d ds) → Q y H
theorem cr_minT (hc : X.calm = true) (hu : X.A.units + 64 < cLine) : CallR X (.builtin "min") (rMinT X.K) := by
  intro pins s σ H vs us Q I r h
  obtain ⟨G, a, xs, d, ds, rfl, sub, hs, ra, ok, q⟩ := h
  rw [Bool.and_eq_true] at ok
  obtain ⟨al, _, dep⟩ := okSort_of ok.1
  have tup : ∀ e ∈ d :: ds, e ≠ .none := fun e he z => by
    have := ok.2
    unfold allTup at this
    rw [List.all_eq_true] at this
    have := this e he
    rw [z] at this
    cases this
  obtain ⟨its, rv, hl, _⟩ := I.list hs
  rw [Vals.ref1 r]
  obtain ⟨as, er⟩ := each_readsAll (rpAll_reads I sub ra rv fun d hd => nod_of_alike (al d hd d hd))
  have hd := depthAll_le dep
  refine min_list_at (vs := its.toArray) (I.ok.hd hc) hl.isList er ⟨al, tup⟩ (by omega) fun i v h' tk hv he hk => ?_
  rw [List.getElem?_toArray] at hv
  have hi : i < xs.length := by
    have := (List.getElem?_eq_some_iff.mp hv).1
    have := rv.length
    omega
  obtain ⟨u, hu2, ru⟩ := rv.get (List.getElem?_eq_getElem hi)
  rw [hv] at hu2
  cases hu2
  have rp := rpAll_nth ra (List.getElem?_eq_getElem hi)
  rw [he] at rp
  exact ⟨_, H, I.kept hk, ru, q _ rp⟩
theorem ok_minT : OkL K (rMinT K) bMinT := by
  intro O H Wx vs ds Q al r h
  unfold bMinT at h
  split at h
  · split at h
    · rename_i x xs ok
      cases r with
      | cons r1 r2 =>
        cases r2
        cases r1 with
        | lst h1 z1 a1 => exact ⟨hide O H, _, _, x, xs, rfl, Sub.unhide, Sub.unhide.sqL h1, a1, ok, fun y ry => Post.here h ry⟩
    · exact h.elim
  · exact h.elim
end
section
variable {X : Cx} {Tb : List Addr} {W : WX}
theorem e_minT {e : Expr} {es : List Expr} {p pos : Pos} {k : Nat} {gl : DnL} (B : Bi X.mg) (hr : Room k X.A) (ha : PA X (e :: es) (tDs X.K Tb W gl)) (hc : X.calm = true := by rfl) (hg : Gl X "min" := by rfl) (he : starEach (e :: es) X.env = (false, eval e X.env) :: starEach es X.env := by rfl) (hpl : (backTo pos (starEach es X.env)).any (·.1) = false := by rfl) :
    PE X (.Call (.Name "min" p) (e :: es) [] pos) (tD X.K Tb W (dArg bMinT gl)) := fd_callB (cr_minT hc hr.u64) ok_minT hg B.min boot_min ha (by decide) (by decide) he hpl
end
end PD

set_option Elab.async false
set_option linter.all false
set_option maxRecDepth 100000
/-! # set(l), l a list of hin, with what the order needs -/
namespace PD
open PySem PySem.Spec PyProof.Rows L2
abbrev setNew (w : World) : Obj := { cls := .type "set", dict := none, data := .set #[] 0 (.fresh 0 0 (!w.params.followText "set-order")) }
section
variable {P : Program} {w : World} {A : Around} {E : Value → Shared → Prop} {s : Shared}
set_option maxRecDepth 100000 in
set_option maxHeartbeats 3200000 in
theorem set_of_list {l : Addr} {its : Array Value} (ks : List Int) {Q : Value → Shared → Prop} (free : A.handled = none) (isl : s.heap.IsList l its) (hin : IntsAre its.toList ks) (few : ks.length + 1 < scanBound)
    (next : ∀ (h' : Heap) (tk c : Nat), SetR w h' s.heap.objs.size (fun j => decide (j ∈ ks)) c → c ≤ ks.length → (∀ b o, s.heap.get? b = some o → h'.get? b = some o) → Q (.ref s.heap.objs.size) { s with heap := h', toks := tk }) :
    wpAny (model P w) A (call (.type "set") [.ref l]) Q E s := by
  have len : its.size = ks.length := by have q := IntsAre.length hin; rwa [Array.length_toList] at q
  obtain ⟨cc, tl, mro⟩ := F.called_set.mro
  have made := F.called_set.made
  have sub := F.called_set.sub
  refine wpAny_call (codeAny_of_tree (show wpAny _ _ (callAny (.type "set") _) _ _ _ from wpAny_pure ⟨Code.quiet_builtin _ (by decide +kernel), codeAny_builtin F.entry_type_call ?_⟩))
  rw [Around.under_plain (weight_type_call_type "set" [.ref l] []) rfl]
  have notT := F.called_set.notType
  have can := F.called_set.canCreate
  have args1 := F.typeCall_set_1 (.ref l)
  repeat any_goals first | assumption | wp_step
  refine codeAny_mono (code_set_led1 (.ref l) (E := E) (Q₁ := fun v s₁ => v = .ref s.heap.objs.size ∧ s₁ = { s with heap := s.heap.push (setNew w) }) ⟨rfl, rfl⟩) fun r s₁ hr => ?_
  rcases r with e | fl
  · exact hr
  rcases fl with v | _ | _ | _
  all_goals first | exact hr.elim | skip
  obtain ⟨rfl, rfl⟩ := hr
  have at0 : (s.heap.push (setNew w)).get? s.heap.objs.size = some (setNew w) := Heap.get?_push_size _ rfl
  have isT : Shared.TypeIs { s with heap := s.heap.push (setNew w) } (.ref s.heap.objs.size) "set" := ⟨_, at0, rfl⟩
  have look := F.called_set.init.lookup
  have bind := F.called_set.init.bind (.ref s.heap.objs.size)
  repeat any_goals first | assumption | wp_step
  let Done : Value → Shared → Prop := fun r s₂ => r = .none ∧ ∃ h' tk c, s₂ = { s with heap := h', toks := tk } ∧ SetR w h' s.heap.objs.size (fun j => decide (j ∈ ks)) c ∧ c ≤ ks.length ∧ ∀ b o, s.heap.get? b = some o → h'.get? b = some o
  refine codeAny_mono (codeAny_call_builtin (R := wants Done E) F.called_set.init.plain F.entry_set_init (check_set_init_1 isT ?_)) fun r₂ s₂ hr₂ => ?_
  · obtain ⟨ol, hol, hcl, nl, hdl⟩ := isl
    obtain ⟨k1, k2, k3, k4⟩ := ol
    simp only at hcl hdl
    subst hcl
    subst hdl
    have hol' : (s.heap.push (setNew w)).get? l = some { cls := .type "list", dict := k2, data := .seq its nl, slots := k4 } := Heap.get?_push_of_some _ hol
    have no1 := F.sub_list_set
    have no2 := F.sub_list_frozenset
    have no3 : (Value.type "list" == Value.type "dict") = false := by decide
    have isl1 : (s.heap.push (setNew w)).IsList l its := ⟨_, hol', rfl, nl, rfl⟩
    unfold Builtin.«set.__init__» Builtin.Frozenset.updateFrom noKeywords
    generalize hPI : pyIter = PI
    wp_walk
    subst hPI
    refine wpAny_pyIter_list isl1 (wpAny_bind (wpAny_runValue ?_))
    have below : l < s.heap.objs.size := Heap.lt_size hol
    have free3 : A.in1.in1.in1.handled = none := by simp [free]
    have neI : l ≠ (s.heap.push (setNew w)).objs.size := by rw [Heap.size_push]; exact Nat.ne_of_lt (Nat.lt_succ_of_lt below)
    have notIn : s.heap.objs.size ∉ [(s.heap.push (setNew w)).objs.size, l] := by
      rw [Heap.size_push]
      intro z
      rcases List.mem_cons.mp z with z | z
      · exact absurd z (Nat.ne_of_lt (Nat.lt_succ_self _))
      · exact absurd (List.mem_singleton.mp z) (Nat.ne_of_gt below)
    have val : ∀ (i : Nat) (v : Value), its[i]? = some v → ∃ k t, ks[i]? = some k ∧ v = .int k t := fun i v hv => by
      have hi : i < ks.length := by rw [← len]; exact (Array.getElem?_eq_some_iff.mp hv).1
      obtain ⟨t, e⟩ := PyProof.Rows.IntsAre.int_at hin i v (by rw [Array.getElem?_toList]; exact hv)
      exact ⟨ks[i], t, List.getElem?_eq_getElem hi, by rw [e, List.getD_eq_getElem?_getD, List.getElem?_eq_getElem hi]; rfl⟩
    refine set_update_ints ((Walks.list free3 _ l neI its).toS) s.heap.objs.size notIn ks len few val (its.size - 0) 0 _ (by omega) (Nat.zero_le _) ⟨⟨_, Heap.get?_push_size _ rfl, rfl, rfl⟩, (isl1.push _)⟩ ?first ?last
    case first => exact ⟨0, Nat.le_refl 0, setR_new_at (Heap.get?_push_of_some _ at0)⟩
    case last =>
      intro s' c' hm hc' hS'
      obtain ⟨h', g2, d', tk', os'⟩ := s'
      have eg : g2 = s.gens := hm.gens
      have ed : d' = s.drawn := hm.drawn
      have eo : os' = s.os := hm.os
      subst eg
      subst ed
      subst eo
      refine (show wpAny _ _ _ _ _ _ from wpAny_pure ?_)
      rw [len] at hc'
      refine (show wpAny _ _ (ret Value.none) _ _ _ from wpAny_pure ⟨rfl, h', tk', c', rfl, hS', hc', fun b o e => ?_⟩)
      have b0 : b < s.heap.objs.size := Heap.lt_size e
      have b2 : b ≠ (s.heap.push (setNew w)).objs.size := by rw [Heap.size_push]; exact Nat.ne_of_lt (Nat.lt_succ_of_lt b0)
      refine hm.heap b o (fun z => ?_) (Heap.get?_push_of_some _ (Heap.get?_push_of_some _ e))
      rcases List.mem_cons.mp z with z | z
      · exact Nat.ne_of_lt b0 z
      · exact b2 (List.mem_singleton.mp z)
  · rcases r₂ with e | fl₂
    · exact hr₂
    · rcases fl₂ with v | _ | _ | _
      all_goals first | exact hr₂.elim | skip
      obtain ⟨rfl, h', tk, c, rfl, hS', hc, hk'⟩ := hr₂
      repeat any_goals first | assumption | wp_step
      exact next _ _ _ hS' hc hk'
end
end PD

set_option Elab.async false
set_option linter.all false
set_option maxRecDepth 100000
set_option maxHeartbeats 1000000
namespace PD
open PySem PySem.Spec PyProof.Rows L2

/-! ### sorted(set(t)), t a tuple of ints -/
def insU (x : Int) : List Int → List Int
  | [] => [x]
  | y :: l => if x < y then x :: y :: l else if x = y then y :: l else y :: insU x l
def uniq (l : List Int) : List Int := l.foldr insU []
theorem mem_insU {x z : Int} : ∀ {l : List Int}, z ∈ insU x l ↔ z = x ∨ z ∈ l
  | [] => by simp [insU]
  | y :: l => by
    unfold insU
    split
    · rw [List.mem_cons]
    · split
      · rename_i h; subst h; rw [List.mem_cons]; constructor
        · exact fun a => .inr a
        · rintro (a | a)
          · exact .inl a
          · exact a
      · rw [List.mem_cons, mem_insU (l := l), List.mem_cons]
        constructor
        · rintro (a | a | a)
          · exact .inr (.inl a)
          · exact .inl a
          · exact .inr (.inr a)
        · rintro (a | a | a)
          · exact .inr (.inl a)
          · exact .inl a
          · exact .inr (.inr a)
theorem insU_asc {x : Int} : ∀ {l : List Int}, l.Pairwise (· < ·) → (insU x l).Pairwise (· < ·)
  | [], _ => List.pairwise_singleton _ _
  | y :: l, h => by
    obtain ⟨h1, h2⟩ := List.pairwise_cons.mp h
    unfold insU
    split
    · rename_i q
      refine List.pairwise_cons.mpr ⟨fun z hz => ?_, h⟩
      rcases List.mem_cons.mp hz with e | e
      · omega
      · have := h1 z e; omega
    · split
      · exact h
      · refine List.pairwise_cons.mpr ⟨fun z hz => ?_, insU_asc h2⟩
        rcases mem_insU.mp hz with e | e
        · omega
        · exact h1 z e
theorem uniq_asc (l : List Int) : (uniq l).Pairwise (· < ·) := by
  unfold uniq
  induction l with
  | nil => exact .nil
  | cons x l ih => exact insU_asc ih
theorem mem_uniq {l : List Int} {z : Int} : z ∈ uniq l ↔ z ∈ l := by
  unfold uniq
  induction l with
  | nil => simp
  | cons x l ih => rw [List.foldr_cons, mem_insU, ih, List.mem_cons]
theorem asc_uniq {a b : List Int} (ha : a.Pairwise (· < ·)) (hb : b.Pairwise (· < ·)) (h : ∀ z, z ∈ a ↔ z ∈ b) : a = b :=
  List.Perm.eq_of_pairwise (le := fun x y : Int => x < y) (fun x y _ _ h1 h2 => by omega) ha hb ((List.perm_ext_iff_of_nodup (ha.imp fun {x y} h e => by omega) (hb.imp fun {x y} h e => by omega)).mpr h)
def bSortSet : PyData → R PyData
  | .tuple xs => ofO (asInts xs) fun ns => if ns.length < 60 then .ok (.list ((uniq ns).map .int)) else .bad
  | .list xs => ofO (asInts xs) fun ns => if ns.length < 60 then .ok (.list ((uniq ns).map .int)) else .bad
  | _ => .bad
section
variable {X : Cx}
def rSetTI (K : PySem.W.Frag) (w : World) : List V → Hp → VK → Prop := fun vs H Q => ∃ (a : Addr) (ns : List Int), vs = [V.ref a] ∧ (SqT K H a (ns.map V.int) ∨ SqL K H a (ns.map V.int)) ∧ ns.length + 1 < scanBound ∧ ∀ (p : Addr) (c : Nat), H p = none → c ≤ ns.length → Q (.ref p) (upd H p (SetO w p (fun j => decide (j ∈ ns)) c))
theorem cr_setTI (hc : X.calm = true) : CallR X (.type "set") (rSetTI X.K X.w) := by
  intro pins s σ H vs us Q I r h
  obtain ⟨a, ns, rfl, hs, hb, q⟩ := h
  rw [Vals.ref1 r]
  have fin : ∀ (h' : Heap) (tk c : Nat), SetR X.w h' s.heap.objs.size (fun j => decide (j ∈ ns)) c → c ≤ ns.length → (∀ b o, s.heap.get? b = some o → h'.get? b = some o) → EP X pins σ Q (.ref s.heap.objs.size) { s with heap := h', toks := tk } := fun h' tk c R hc2 keep =>
    ⟨.ref _, upd H s.heap.objs.size (SetO X.w s.heap.objs.size (fun j => decide (j ∈ ns)) c), I.laid (t' := tk) keep (Nat.le_refl _) (setO_new R), rfl, q _ c (I.hok.fresh (Nat.le_refl _)) hc2⟩
  rcases hs with hs | hs
  · obtain ⟨its, rv, hl, _⟩ := I.tuple hs
    exact call_set_tupI ns (I.ok.hd hc) hl rv.ints hb fin
  · obtain ⟨its, rv, hl, _⟩ := I.list hs
    exact set_of_list ns (I.ok.hd hc) hl.isList (by simpa using rv.ints) hb fin
end
theorem boot_set2 : bootBuiltins "set" = some (.type "set") := by decide +kernel
section
variable {X : Cx} {Tb : List Addr} {W : WX} {e : Expr} {f : Dn} {p p2 pos pos2 : Pos}
theorem fd_sortSet (B : Bi X.mg) (he : PE X e (tD X.K Tb W f)) (hc : X.calm = true := by rfl) (hg1 : Gl X "sorted" := by rfl) (hg2 : Gl X "set" := by rfl)
    (n1 : starEach [e] X.env = (false, eval e X.env) :: starEach [] X.env := by rfl) (n2 : starEach [.Call (.Name "set" p2) [e] [] pos2] X.env = (false, eval (.Call (.Name "set" p2) [e] [] pos2) X.env) :: starEach [] X.env := by rfl) :
    PE X (.Call (.Name "sorted" p) [.Call (.Name "set" p2) [e] [] pos2] [] pos) (tD X.K Tb W (dOne bSortSet f)) :=
  (pe_callB (cr_sortedSet hc) hg1 B.sorted boot_sorted (pa_cons (pe_callTy (cr_setTI hc) hg2 B.set boot_set2 (pa_cons he pa_nil n1) (by decide) (by decide) n1 (by rfl)) pa_nil n2) (by decide) (by decide) n2 (by rfl)).by fun σ H Q ⟨H0, O0, O, ρ, st, h⟩ => ⟨H0, O0, O, ρ, st, by
    refine Post.then h fun d v H1 ex rv k => ?_
    unfold bSortSet at k
    split at k
    · rename_i xs
      cases en : asInts xs with
      | none => rw [en] at k; exact k.elim
      | some ns =>
        rw [en] at k
        unfold ofO at k
        dsimp only at k
        by_cases hz : ns.length < 60
        · rw [if_pos hz] at k
          cases rv with
          | tup h1 z1 a1 =>
            have ev := ints_rp a1 en
            subst ev
            refine ⟨_, ns, rfl, .inl (Sub.unhide.sqT h1), by show ns.length + 1 < 4096; omega, fun q c hq hc2 => ?_⟩
            refine ⟨q, _, c, rfl, upd_same, by omega, fun ns' q2 asc mem len hq2 => ?_⟩
            have e1 : ns' = uniq ns := asc_uniq asc (uniq_asc ns) fun z => by rw [mem_uniq, mem]; simp
            have ne : q2 ≠ q := fun z => by rw [z, upd_same] at hq2; cases hq2
            have hq3 : H1 q2 = none := by rw [upd_ne ne] at hq2; exact hq2
            have al := (st.step ex).al
            subst e1
            refine k _ _ ((Ext.new hq).trans (Ext.new hq2)) (.lst (xs := (uniq ns).map V.int) (.of ?_) (by rw [List.length_map, sizeLine_eq]; omega) (rp_ints _))
            rw [hide_out (fun m => al q2 m hq3)]
            exact upd_same
        · rw [if_neg hz] at k
          exact k.elim
    · rename_i xs
      cases en : asInts xs with
      | none => rw [en] at k; exact k.elim
      | some ns =>
        rw [en] at k
        unfold ofO at k
        dsimp only at k
        by_cases hz : ns.length < 60
        · rw [if_pos hz] at k
          cases rv with
          | lst h1 z1 a1 =>
            have ev := ints_rp a1 en
            subst ev
            refine ⟨_, ns, rfl, .inr (Sub.unhide.sqL h1), by show ns.length + 1 < 4096; omega, fun q c hq hc2 => ?_⟩
            refine ⟨q, _, c, rfl, upd_same, by omega, fun ns' q2 asc mem len hq2 => ?_⟩
            have e1 : ns' = uniq ns := asc_uniq asc (uniq_asc ns) fun z => by rw [mem_uniq, mem]; simp
            have ne : q2 ≠ q := fun z => by rw [z, upd_same] at hq2; cases hq2
            have hq3 : H1 q2 = none := by rw [upd_ne ne] at hq2; exact hq2
            have al := (st.step ex).al
            subst e1
            refine k _ _ ((Ext.new hq).trans (Ext.new hq2)) (.lst (xs := (uniq ns).map V.int) (.of ?_) (by rw [List.length_map, sizeLine_eq]; omega) (rp_ints _))
            rw [hide_out (fun m => al q2 m hq3)]
            exact upd_same
        · rw [if_neg hz] at k
          exact k.elim
    · exact k.elim⟩
end
end PD

set_option Elab.async false
set_option linter.all false
set_option maxRecDepth 100000
set_option maxHeartbeats 1000000
namespace PD
open PySem PySem.Spec PyProof.Rows L2

/-! ### own objects: dicts with tuple keys, every value True -/
section
variable {K : PySem.W.Frag} {Tb : List Addr} {W : WX} {H0 H0' H H' : Hp} {O0 O : List Addr} {ρ : Rho} {σ : L2.St} {p : Addr} {D : Ends}
/-- the object that slot i owns changes -/
theorem St0.holdSet {i : Nat} {s0 s1 : Sl} {o o' : HO} (z0 : s0.Hold) (z1 : s1.Hold) (st : St0 K Tb H0 O0 O H σ ρ) (hi : ρ[i]? = some (some s0)) (hp : σ[i]? = some (some (.ref p))) (hH : H p = some o) (po : Plain o) (po' : Plain o') (nx : ∀ fs, o ≠ .xd fs) (r : SlotR K O0 O (upd H p o') (.ref p) s1) :
    St0 K Tb H0 O0 O (upd H p o') σ (ρ.set i (some s1)) := by
  obtain ⟨m, m0⟩ := st.hold z0 hi hp
  have il : i < ρ.length := (List.getElem?_eq_some_iff.mp hi).1
  have own : ∀ (j : Nat) (s : Sl), s.Hold → j ≠ i → ρ[j]? = some (some s) → σ[j]? ≠ some (some (.ref p)) := fun j s hs hj h1 h2 => hj (st.inj j i p s s0 hs z0 h1 hi h2 hp)
  refine ⟨st.ext.updN (st.new p m m0) (fun c q z => po.1 c q (Option.some.inj (hH.symm.trans z))), st.sub, st.new, fun b h => ?_, fun P mp => ?_, fun b mb nb => ?_, by rw [List.length_set]; exact st.len, fun j x h => ?_, fun j k q xs ys hx hy h1 h2 h3 h4 => ?_⟩
  · by_cases hb : b = p
    · rw [hb, upd_same]; simp
    · rw [upd_ne hb]; exact st.al b h
  · have hb : P ≠ p := tabG_ne (st.tab P mp) fun ps q => by rw [hH] at q; exact po.2 ps (Option.some.inj q)
    exact (st.tab P mp).mono (fun ps h => by rw [upd_ne hb]; exact h) fun c q h => by
      rw [upd_ne fun z => po.1 c q (Option.some.inj (hH.symm.trans (by rw [← z]; exact h)))]
      exact h
  · by_cases hb : b = p
    · exact ⟨_, by rw [hb]; exact upd_same, po'⟩
    · obtain ⟨x, h, q⟩ := st.pln b mb nb
      exact ⟨x, by rw [upd_ne hb]; exact h, q⟩
  · by_cases e : i = j
    · subst e
      rw [List.getElem?_set_self il] at h
      cases h
      exact ⟨_, hp, r⟩
    · rw [List.getElem?_set_ne e] at h
      obtain ⟨v, h1, h2⟩ := st.slot j x h
      refine ⟨v, h1, h2.mv (by rw [hide_upd m]; exact fun _ _ h _ => h) (fun hx q ev mq _ => ⟨mq, fun o hq _ => ?_⟩) fun dd fs h => ?_⟩
      · have hne : q ≠ p := fun e2 => own j x hx (fun z => e z.symm) h (by rw [h1, ev, e2])
        rw [upd_ne hne]; exact hq
      · rw [upd_ne (fun e => by rw [e, hH] at h; exact nx fs (Option.some.inj h))]; exact h
  · have g : ∀ (j : Nat) (s : Sl), s.Hold → (ρ.set i (some s1))[j]? = some (some s) → ∃ s', s'.Hold ∧ ρ[j]? = some (some s') := fun j s hs h => by
      by_cases e : i = j
      · subst e; exact ⟨s0, z0, hi⟩
      · rw [List.getElem?_set_ne e] at h; exact ⟨s, hs, h⟩
    obtain ⟨xs', x1, g1⟩ := g j xs hx h1
    obtain ⟨ys', y1, g2⟩ := g k ys hy h2
    exact st.inj j k q xs' ys' x1 y1 g1 g2 h3 h4
/-- a new object becomes slot i's own -/
theorem St0.holdNew {i : Nat} {s1 : Sl} {o : HO} (st : St0 K Tb H0 O0 O H σ ρ) (e : Ext H H') (n : H p = none) (hp : H' p = some o) (po : Plain o) (r : SlotR K O0 (p :: O) H' (.ref p) s1) :
    St0 K Tb H0 O0 (p :: O) H' (σ.set i (some (.ref p))) (ρ.set i (some s1)) := by
  have nO : p ∉ O := st.fresh n
  have n0 : H0 p = none := by
    cases q : H0 p with
    | none => rfl
    | some x => exact absurd n (st.ext.al p (by rw [q]; simp))
  have sub : Sub (hide O H) (hide (p :: O) H') := fun b o h t => by
    obtain ⟨h1, h2⟩ := hide_some h
    have hb : b ≠ p := ne_of_none h2 n
    rw [hide_out (by rw [List.mem_cons, not_or]; exact ⟨hb, h1⟩)]
    exact e.keep b o h2 t
  have nown : ∀ (j : Nat) (s : Sl), s.Hold → ρ[j]? = some (some s) → σ[j]? ≠ some (some (.ref p)) := fun j s hs h h2 => nO (st.hold hs h h2).1
  refine ⟨st.ext.trans e, fun b h => List.mem_cons_of_mem _ (st.sub b h), fun b h h2 => ?_, fun b h => ?_, fun P m => e.tab P (st.tab P m), fun b mb nb => ?_, by rw [List.length_set, List.length_set]; exact st.len, fun j s h => ?_, fun j k q xs ys hx hy h1 h2 h3 h4 => ?_⟩
  · rcases List.mem_cons.mp h with rfl | h
    · exact n0
    · exact st.new b h h2
  · rcases List.mem_cons.mp h with rfl | h
    · rw [hp]; simp
    · exact e.al b (st.al b h)
  · rcases List.mem_cons.mp mb with rfl | mb
    · exact ⟨_, hp, po⟩
    · obtain ⟨x, h, q⟩ := st.pln b mb nb
      exact ⟨x, e.keep b x h q.2, q⟩
  · by_cases ej : i = j
    · subst ej
      have il : i < ρ.length := by
        have := (List.getElem?_eq_some_iff.mp h).1
        rw [List.length_set] at this
        exact this
      rw [List.getElem?_set_self il] at h
      cases h
      exact ⟨_, by rw [List.getElem?_set_self (by rw [st.len]; exact il)], r⟩
    · rw [List.getElem?_set_ne ej] at h ⊢
      obtain ⟨v, h1, h2⟩ := st.slot j s h
      exact ⟨v, h1, h2.mv sub (fun _ q _ mq _ => ⟨List.mem_cons_of_mem _ mq, fun o hq n => e.keep q o hq n⟩) fun dd fs h => e.keep dd _ h fun _ z => by cases z⟩
  · have lt : ∀ (j : Nat) (s : Sl), i = j → (ρ.set i (some s1))[j]? = some (some s) → j < σ.length := fun j xs ej h => by
      have := (List.getElem?_eq_some_iff.mp h).1
      rw [List.length_set] at this
      rw [st.len]; exact this
    by_cases ej : i = j
    · by_cases ek : i = k
      · rw [← ej, ← ek]
      · subst ej
        rw [List.getElem?_set_self (lt _ _ rfl h1)] at h3
        cases h3
        rw [List.getElem?_set_ne ek] at h2 h4
        exact absurd h4 (nown k ys hy h2)
    · by_cases ek : i = k
      · subst ek
        rw [List.getElem?_set_self (lt _ _ rfl h2)] at h4
        cases h4
        rw [List.getElem?_set_ne ej] at h1 h3
        exact absurd h3 (nown j xs hx h1)
      · rw [List.getElem?_set_ne ej] at h1 h3
        rw [List.getElem?_set_ne ek] at h2 h4
        exact st.inj j k q xs ys hx hy h1 h2 h3 h4
end
theorem dctO_xd {a : Addr} {ep : Nat} {xs : List (List Int × Addr)} : ∀ fs, dctO a ep xs ≠ .xd fs := fun _ z => by cases z
/-- x = {} -/
def gNewD (i : Nat) : Sn := fun ρ => .nx (ρ.set i (some (.dct [])))
def dctAt (ρ : Rho) (i : Nat) (k : List (List Int) → Out) : Out := match ρ[i]? with
  | some (some (.dct ds)) => k ds
  | _ => .bad
/-- x[e] = True -/
def gPutD (i : Nat) (f : Dn) : Sn := fun ρ => dctAt ρ i fun ks => oR (f ρ) ρ fun d => match asTu d with
  | some k => if ks.length < sizeLine then .nx (ρ.set i (some (.dct (if k ∈ ks then ks else ks ++ [k])))) else .bad
  | none => .bad
/-- y = x.pop() -/
def gSetPop (j i : Nat) : Sn := fun ρ => ownAt ρ i fun ds => match ds.getLast? with
  | some d => .nx ((ρ.set i (some (.own ds.dropLast))).set j (some (.d d)))
  | none => .bad
/-- x.extend(e) -/
def gExt (i : Nat) (f : Dn) : Sn := fun ρ => ownAt ρ i fun ds => oR (f ρ) ρ fun d => match d with
  | .list es => if ds.length + es.length ≤ sizeLine then .nx (ρ.set i (some (.own (ds ++ es)))) else .bad
  | _ => .bad
def gBad : Sn := fun _ => .bad

def tDNewC : TE := fun _ H Q => ∀ p, H p = none → Q (.ref p) (upd H p (dctO p 0 []))
def rPutT (K : PySem.W.Frag) : V → V → V → Hp → (Hp → Prop) → Prop := fun o i v H Q => ∃ D b k ep xs, o = .ref D ∧ i = .ref b ∧ v = .bl true ∧ H D = some (dctO D ep xs) ∧ (∀ x ∈ xs, SqT K H x.2 (x.1.map V.int)) ∧ xs.length < sizeLine ∧ SqT K H b (k.map V.int) ∧ ∀ ep', Q (upd H D (dctO D ep' (putT xs k b)))
def rExtL (K : PySem.W.Frag) : V → List V → Hp → VK → Prop := fun x vs H Q => ∃ l b xs zs, x = .ref l ∧ vs = [.ref b] ∧ H l = some (.lst xs) ∧ SqL K H b zs ∧ xs.length + zs.length ≤ sizeLine ∧ Q .non (upd H l (.lst (xs ++ zs)))
theorem list_extend_any (l : Addr) (items : Array Value) (n : Nat) (b : Addr) (items2 : Array Value) (n2 : Nat) (sl2 : Array (Option Value)) (hc0 : ¬(!items.isEmpty && Builtin.List.listTooLong (items.size + items2.size)) = true) (hc1 : items.size ≤ sizeLine) (hs2 : items.size + items2.size ≤ sizeLine + 1) :
    Meets (Builtin.«list.extend» ⟨[.ref l, .ref b], []⟩) (fun _ R s => s.heap.get? l = some { cls := .type "list", dict := none, data := .seq items n, slots := #[] } ∧ s.heap.get? b = some { cls := .type "list", dict := none, data := .seq items2 n2, slots := sl2 } ∧ R (.ok (.ret Value.none)) { s with heap := s.heap.update l (Obj.mapSeq fun x => x ++ items2), toks := s.toks }) :=
  .of_wp fun prog w A R s h => by
    obtain ⟨hp, g, d, tk, os⟩ := s; obtain ⟨hl, hb, h⟩ := h; have f1 := AutoSeq1.idx_int; have f2 := AutoSeq1.sub_tuple_tuple; have f3 := AutoSeq1.sub_list_list; have f4 := AutoSeq1.sub_tuple_list; have f5 := AutoSeq1.sub_list_tuple;
    have hz' : (items ++ items2).size ≤ sizeLine + 1 := by rw [Array.size_append]; exact hs2
    wp_walk using (wpAny_updateSeq hl rfl (hz := hc1) (_hz' := hz')), AutoSeq1.wpAny_loadPart' hl, AutoSeq1.wpAny_loadPart' hb; exact ⟨_, rfl, h⟩
section
variable {X : Cx} {pos : Pos}
theorem pe_dnewC : PE X (.Dict [] [] pos) tDNewC := ⟨fun pins s σ H Q I h =>
  wpAny_Dict_empty ⟨.ref s.heap.objs.size, _, I.laid (a := s.heap.objs.size) (o := dctO s.heap.objs.size 0 []) (t' := s.toks) (fun _ _ q => Heap.get?_push_of_some _ q) (Nat.le_refl _) (dct_new s.heap I.big), rfl, h _ (I.hok.fresh (Nat.le_refl _))⟩⟩
theorem set_dctT (hu : X.A.units + 65 < cLine) : PSet X (rPutT X.K) := by
  intro pins s σ H o i v ov iv u Q I ro ri rv h
  obtain ⟨D, b, k, ep, xs, rfl, rfl, rfl, hD, hk, hz, hb, q⟩ := h
  cases ro; cases ri; cases rv
  obtain ⟨h1, h2, d⟩ := dct_at I hD hk
  refine wpAny_setItem_heap (hsz := by rw [List.length_map]; exact h2) (tupleKind_room_in1 (show X.A.units + 1 < cLine by omega)) (key_is I hb) d fun h' d' hs => ?_
  rw [stored_kvT] at d'
  have he : ∃ q, h'.get? D = some q := let ⟨q, _, _, hq, _⟩ := d'; ⟨q, hq⟩
  obtain ⟨ep', ok⟩ := dct_ok (P := X.prog) (w := X.w) (H' := H) h1 (by have := putT_len xs k b; omega) d'
  exact ⟨_, I.write (x := D) (e := D) (by rw [hD]; trivial) (.inl rfl) (fun b q hb z => (hs.2 b hb).trans z) he (dct_any ok), q ep'⟩
theorem mt_extL : MtM X "list.extend" (rExtL X.K) := by
  intro pins s σ H x vs v us Q I rx rv h
  obtain ⟨l, b, xs, zs, rfl, rfl, hH, hB, hz, q⟩ := h
  cases rx
  obtain ⟨u, rfl, ru⟩ := rv.one
  cases ru
  obtain ⟨z, its, n, r, hl, e⟩ := I.lstM hH
  obtain ⟨its2, r2, ⟨o2, n2, e2, c2, d2, s2⟩, z2⟩ := I.list hB
  have hl2 : zs.length = its2.length := r2.length
  obtain ⟨c, dd, dt, sl⟩ := o2
  dsimp only at c2 d2 s2
  subst c2 d2 s2
  have hsz : its.toArray.size + its2.toArray.size ≤ sizeLine := by rw [List.size_toArray, List.size_toArray]; omega
  have hlong : ¬ (!its.toArray.isEmpty && Builtin.List.listTooLong (its.toArray.size + its2.toArray.size)) = true := by
    rw [notLongL hsz, Bool.and_false]
    exact Bool.false_ne_true
  refine call_meets F.slot_list_extend ⟨_, e, rfl⟩ F.entry_list_extend (F.args_list_extend_2 _ _)
    (list_extend_any l its.toArray n b its2.toArray n2 sl hlong (by rw [List.size_toArray]; omega) (by omega)) ⟨e, e2, ?_⟩
  refine ⟨.non, _, I.lset (its' := its ++ its2) hH e (by simp) (r.append r2) ?_, rfl, q⟩
  rw [List.length_append]
  omega
end
section
variable {X : Cx} {Tb : List Addr} {W : WX} {e : Expr} {es : List Expr} {f : Dn} {gl : DnL} {pos p : Pos} {x : Str}
theorem fs_raiseBad {st : Stmt} : PS X st (tS X.K Tb W gBad) := ⟨fun pins s σ H D I ⟨_, _, _, _, _, h⟩ => h.elim⟩
theorem fs_newD {i : Nat} {pos' dpos : Pos} (hN : X.N.Nodup) (hi : X.N[i]? = some x) (hx : Loc X.env.scope x) (hs : swapsWith (.Dict [] [] dpos) (some (.Name x pos')) pos.line X.env = pure false := by rfl)
    (hf : X.fn x = true ∨ X.env.scope.names.lookup x = some .local := by first | exact .inl rfl | exact .inr rfl | assumption) : PS X (.Assign [.Name x pos'] (.Dict [] [] dpos) pos) (tS X.K Tb W (gNewD i)) := (ps_set hN hi hx pe_dnewC hs hf).by fun D σ H ⟨H0, O0, O, ρ, st, h⟩ => fun p hp => h (p :: O) _ _ (st.holdNew (Ext.new hp) hp upd_same (plain_dct p 0 []) ⟨p, 0, [], rfl, List.mem_cons_self, fun m => st.fresh hp (st.sub p m), upd_same, rfl, fun _ h => nomatch h⟩)
theorem dct_atS {K : PySem.W.Frag} {H0 H : Hp} {O0 O : List Addr} {ρ : Rho} {σ : L2.St} {D : Ends} {i : Nat} {k : List (List Int) → Out} (st : St0 K Tb H0 O0 O H σ ρ) (h : PostS K Tb W H0 O0 (dctAt ρ i k) D) :
    ∃ ks p ep xs, ρ[i]? = some (some (.dct ks)) ∧ σ[i]? = some (some (.ref p)) ∧ H p = some (dctO p ep xs) ∧ xs.map (·.1) = ks ∧ (∀ x ∈ xs, SqT K (hide O H) x.2 (x.1.map V.int)) ∧ p ∈ O ∧ p ∉ O0 ∧ PostS K Tb W H0 O0 (k ks) D := by
  unfold dctAt at h
  split at h
  · rename_i ks e
    obtain ⟨v, h1, p, ep, xs, rfl, m, m0, hp, z, r⟩ := st.slot i _ e
    exact ⟨ks, p, ep, xs, e, h1, hp, z, r, m, m0, h⟩
  · exact h.elim
theorem fs_putD {i k : Nat} {tj : Nat} {npos spos tpos : Pos} (hr : Room k X.A) (ho : X.N[i]? = some x) (hv : Vis X.env.scope x) (hd : (x == ("__debug__" : Str)) = false) (hcd : (x == ("__classdict__" : Str)) = false) (hi : PE X e (tD X.K Tb W f))
    (ha : ∀ v, assign (.Subscript (.Name x npos) e spos) X.env v = (do
      let ov ← holding [v] (eval (.Name x npos) X.env)
      let iv ← holding [v, ov] (eval e X.env)
      standAt spos
      holding [v, ov, iv] (setItem ov iv v)
      release [v, ov, iv] []) := by intro _; rfl)
    (hs : swapsWithSole [.Subscript (.Name x npos) e spos] (.Constant (.bool true) tj tpos) pos.line X.env = pure false := by rfl) (hw : swappedStores [.Subscript (.Name x npos) e spos] (.Constant (.bool true) tj tpos) X.env = pure none := by rfl)
    (h1 : (assignEach [.Subscript (.Name x npos) e spos] X.env).map (·.2) = [assign (.Subscript (.Name x npos) e spos) X.env] := by rfl) :
    PS X (.Assign [.Subscript (.Name x npos) e spos] (.Constant (.bool true) tj tpos) pos) (tS X.K Tb W (gPutD i f)) :=
  (ps_asg pe_bl (pg_sub (pe_var ho hv hd hcd) hi (set_dctT hr.u65) ha) hs hw h1).by fun D σ H ⟨H0, O0, O, ρ, st, h⟩ => by
    obtain ⟨ks, p, ep, xs, e1, e2, hp, z, r, m, m0, k⟩ := dct_atS st h
    refine ⟨.ref p, e2, H0, O0, O, ρ, st, oR_post st k fun y v H1 ex rv k => ?_⟩
    split at k
    · rename_i key hk
      split at k
      · rename_i hl
        obtain ⟨b, rfl, hb⟩ := asTu_rp rv hk
        have hp1 := ex.keep p _ hp (fun _ q => by cases q)
        have r1 : ∀ x ∈ xs, SqT X.K (hide O H1) x.2 (x.1.map V.int) := fun x hx => (Sub.hide ex.keep).sqT (r x hx)
        refine ⟨p, b, key, ep, xs, rfl, rfl, rfl, hp1, fun x hx => Sub.unhide.sqT (r1 x hx), by rw [← List.length_map (f := (·.1)), z]; exact hl, Sub.unhide.sqT hb, fun ep' => k O σ _ ((st.step ex).holdSet (s0 := .dct ks) trivial trivial e1 e2 hp1 (plain_dct p ep xs) (plain_dct p _ _) dctO_xd ⟨p, _, _, rfl, m, m0, upd_same, by rw [putT_keys, z], fun x hx => ?_⟩)⟩
        rw [hide_upd m]
        rcases putT_mem hx with hx | rfl
        · exact r1 x hx
        · exact hb
      · exact k.elim
    · exact k.elim
theorem fs_setPop {i j : Nat} {y : Str} {apos npos cpos ypos : Pos} (hN : X.N.Nodup) (hj : X.N[j]? = some y) (hy : Loc X.env.scope y) (ho : X.N[i]? = some x) (hv : Vis X.env.scope x) (hd : (x == ("__debug__" : Str)) = false) (hcd : (x == ("__classdict__" : Str)) = false) (hij : i ≠ j)
    (hbase : attributeBase (.Name x npos) "pop" X.env (eval (.Name x npos) X.env) = eval (.Name x npos) X.env) (hline : (apos.endLine == cpos.line) = true)
    (hs : swapsWith (.Call (.Attribute (.Name x npos) "pop" apos) [] [] cpos) (some (.Name y ypos)) pos.line X.env = pure false)
    (hf : X.fn y = true ∨ X.env.scope.names.lookup y = some .local := by first | exact .inl rfl | exact .inr rfl | assumption) :
    PS X (.Assign [.Name y ypos] (.Call (.Attribute (.Name x npos) "pop" apos) [] [] cpos) pos) (tS X.K Tb W (gSetPop j i)) :=
  (ps_set hN hj hy (pe_bm0 PySem.F.plainAttrs_list PySem.F.slot_list_pop PySem.F.type_list_pop mt_pop (pe_var ho hv hd hcd) hbase hline) hs hf).by fun D σ H ⟨H0, O0, O, ρ, st, h⟩ => by
    obtain ⟨ds, p, vs, e1, e2, hp, z, r, h⟩ := own_at st h
    split at h
    · rename_i d hd
      have n : ds ≠ [] := fun q => by rw [q] at hd; cases hd
      obtain ⟨y, d', hy, hd', ry⟩ := r.last n
      rw [List.getLast?_eq_getElem?] at hd
      rw [hd] at hd'
      cases hd'
      obtain ⟨_, h1q, p', vs', rfl, mO, m0, _⟩ := st.slot i _ e1
      rw [e2] at h1q
      cases h1q
      refine ⟨.ref p, e2, .inl ⟨rfl, vs, .of hp⟩, p, vs, y, rfl, rfl, hp, hy, ?_⟩
      exact h O _ _ ((st.ownSet e1 e2 (by rw [List.length_dropLast]; omega) r.dropLast).set (by rw [hide_upd mO]; exact ry))
    · exact h.elim
theorem fs_ext {i : Nat} {apos npos cpos : Pos} (ho : X.N[i]? = some x) (hv : Vis X.env.scope x) (hd : (x == ("__debug__" : Str)) = false) (hcd : (x == ("__classdict__" : Str)) = false) (ha : PE X e (tD X.K Tb W f))
    (hse : starEach [e] X.env = (false, eval e X.env) :: starEach [] X.env) (hbase : attributeBase (.Name x npos) "extend" X.env (eval (.Name x npos) X.env) = eval (.Name x npos) X.env)
    (hfew : ((backTo cpos (starEach [e] X.env)).all (fun x => !x.1) && (backToKw cpos (keywordEach [] X.env)).all (fun x => x.1.isSome)
      && decide (([e] : List Expr).length + ([] : List Keyword).length + (if ([] : List Keyword).isEmpty then 0 else 1) < 30)) = true)
    (hline : (apos.endLine == cpos.line) = true) (hplain : (backTo cpos (starEach [] X.env)).any (·.1) = false)
    (hs : swapsWith (.Call (.Attribute (.Name x npos) "extend" apos) [e] [] cpos) none pos.line X.env = pure false) :
    PS X (.Expr (.Call (.Attribute (.Name x npos) "extend" apos) [e] [] cpos) pos) (tS X.K Tb W (gExt i f)) :=
  (ps_expr (pe_bm PySem.F.plainAttrs_list PySem.F.slot_list_extend PySem.F.type_list_extend mt_extL (pe_var ho hv hd hcd) (pa_cons ha pa_nil hse) hbase hfew hline hse hplain) hs).by fun D σ H ⟨H0, O0, O, ρ, st, h⟩ => by
    obtain ⟨ds, p, vs, e1, e2, hp, z, r, h⟩ := own_at st h
    refine ⟨.ref p, e2, .inl ⟨rfl, vs, .of hp⟩, H0, O0, O, ρ, st, oR_post st h fun d v H1 ex rv k => ?_⟩
    split at k
    · rename_i es
      split at k
      · rename_i hl
        cases rv with
        | lst s1 z1 r1 =>
          refine ⟨p, _, vs, _, rfl, rfl, ex.keep p _ hp (fun _ q => by cases q), Sub.unhide.sqL s1, by rw [r.length, r1.length]; exact hl, k O σ _ ((st.step ex).ownSet e1 e2 (by rw [List.length_append]; exact hl) ?_)⟩
          exact (r.mono (Sub.hide ex.keep)).append r1
      · exact k.elim
    · exact k.elim
end
end PD

set_option Elab.async false
set_option linter.all false
set_option maxRecDepth 100000
set_option maxHeartbeats 1000000
namespace PD
open PySem PySem.Spec PyProof.Rows L2

/-! ### the keys of a dict are walked -/
def Itc (d : Addr) (ep : Nat) (xs : List (List Int × Addr)) : It :=
  ⟨fun i H => H d = some (dctO d ep xs) ∧ i < xs.length, fun i H x H' => H' = H ∧ ∃ (k : List Int) (q : Addr), xs[i]? = some (k, q) ∧ x = .ref q, fun i H => H d = some (dctO d ep xs) ∧ xs.length ≤ i⟩
section
variable {X : Cx} {pins : List (Addr × Obj)} {σ : L2.St} {H : Hp} {s : Shared}
theorem dct_obj (I : Inv X pins σ H s) {d : Addr} {ep : Nat} {xs : List (List Int × Addr)} (h : H d = some (dctO d ep xs)) :
    (d == sysModules) = false ∧ ∃ o es, s.heap.get? d = some o ∧ o.ExactDict ∧ o.data = .dict es ep ∧ es.size = xs.length ∧ ∀ (i : Nat) (k : List Int) (q : Addr), xs[i]? = some (k, q) → ∃ en : DictEntry, es[i]? = some en ∧ en.key = .ref q := by
  obtain ⟨⟨h1, h2, h3, o, es, e1, e2, e3, e4⟩, _, _⟩ := I.hok d _ h
  have e5 := e4 X.prog X.w
  refine ⟨h1, o, es, e1, e2, e3, ?_, fun i k q e => ?_⟩
  · rw [← Array.length_toList, e5, List.length_map]
  · have : es.toList[i]? = some (entryOfKey (ikt X.prog X.w) (k, q, .bool true)) := by rw [e5, List.getElem?_map, e]; rfl
    rw [Array.getElem?_toList] at this
    exact ⟨_, this, rfl⟩
end
theorem turn_dct {P : Program} {w : World} {K : PySem.W.Frag} {tg : Expr} {d : Addr} {ep : Nat} {xs : List (List Int × Addr)} (it : Addr) : Turn P w K tg (Itc d ep xs) [it] it (fun i h => h.IsKeyIter it d i xs.length ep) where
  mem := by simp
  obj := fun i h st b hb => by
    have e : b = it := by simpa using hb
    subst e
    obtain ⟨oi, e, c, dd⟩ := st
    exact ⟨oi, e, fun v z => by rw [dd] at z; cases z⟩
  keep := fun i h h' st k => st.at fun oi e => k it (by simp) oi e
  item := by
    intro X hP hw hK hc i pins s σ H E I hf st hg
    subst hP hw hK
    obtain ⟨hd, hi⟩ := hg
    obtain ⟨f0, f1, f2, f3, f4, f5⟩ := hf it (by simp)
    obtain ⟨hs, o, es, hgd, hx, hdt, hsz, ent⟩ := dct_obj I hd
    obtain ⟨⟨k, q⟩, hkv⟩ : ∃ p, xs[i]? = some p := ⟨xs[i], List.getElem?_eq_getElem hi⟩
    obtain ⟨en, hen, hkey⟩ := ent i k q hkv
    refine next_key_item st hgd hdt hsz hen fun h' st' sb => ?_
    have I1 : Inv X pins σ H { s with heap := h' } := I.turned (t' := s.toks) (fun b ob hb e => (sb.2 b hb).trans e) f0 f1 f3 f4 f5
    obtain ⟨oi, e, c, dd⟩ := id st'
    exact ⟨en.key, rfl, go_of (s := { s with heap := h' }) e c dd (by decide) ⟨.ref q, H, I1, hkey, ⟨rfl, k, q, hkv, rfl⟩, st', fun b hb => (hf b hb).1⟩⟩
  done := by
    intro X hP hw hK hc i pins s σ H E I hf st hg
    subst hP hw hK
    obtain ⟨hd, hi⟩ := hg
    obtain ⟨f0, f1, f2, f3, f4, f5⟩ := hf it (by simp)
    obtain ⟨hs, o, es, hgd, hx, hdt, hsz, ent⟩ := dct_obj I hd
    exact next_key_end (I.ok.hd hc) st hgd hdt hsz hi fun h' eb => ⟨rfl, I.turned (t' := s.toks) (fun b ob hb e => eb b ob hb e) f0 f1 f3 f4 f5⟩
  self := fun A i s Q E st h => by
    refine wpAny_pyIter_slot st.typeIs F.slot_dict_keyiterator_iter (wpAny_call_entry F.slot_dict_keyiterator_iter st.typeIs F.entry_dict_keyiterator_iter ?_ (F.args_dict_keyiterator_iter_1 _))
    show wpAny _ _ (ret (.ref it)) _ _ s
    exact wpAny_pure ⟨_, rfl, "dict_keyiterator", _, st.typeIs, F.slot_dict_keyiterator_next.lookup, h⟩
theorem pi_dct {X : Cx} {tg e : Expr} {td : TE} (he : PE X e td) : PI X tg e (fun σ H R => td σ H fun x H1 => ∃ d ep xs, x = .ref d ∧ H1 d = some (dctO d ep xs) ∧ R (Itc d ep xs) H1) := by
  refine ⟨fun pins s σ H R I h => ?_⟩
  refine thn (he.run pins s σ H _ I h) fun u s1 ⟨x, H1, I1, rx, d, ep, xs, ex, hd, q⟩ => ?_
  subst ex
  obtain rfl : u = Value.ref d := rx
  obtain ⟨hs, o, es, hgd, hx, hdt, hsz, ent⟩ := dct_obj I1 hd
  refine iter_keys hs hgd hx hdt (pi_one (tk := s1.toks) I1 _ (turn_dct _) ⟨_, Heap.get?_push_size _ rfl, rfl, ?_⟩ q)
  rw [hsz] <;> rfl
def keyOk (p : PyData × PyData) : Bool := match p.1 with
  | .tuple l => decide (l.length ≤ sizeLine)
  | _ => false
def keysL : PyData → R (List PyData)
  | .dict kvs => if kvs.length ≤ sizeLine ∧ kvs.all keyOk = true then .ok (kvs.map (·.1)) else .bad
  | _ => .bad
def dKeys (f : Dn) : DnL := fun ρ => f ρ >>= keysL
theorem rp_intsV {K : PySem.W.Frag} {G : Hp} : ∀ k : List Int, RpAll K G (k.map V.int) (k.map .int)
  | [] => .nil
  | i :: k => .cons (.int i) (rp_intsV k)
theorem itd_dct {K : PySem.W.Frag} {G : Hp} {a : Addr} {ep : Nat} {xs : List (List Int × Addr)} (h : G a = some (dctO a ep xs)) (r : ∀ x ∈ xs, SqT K G x.2 (x.1.map V.int)) (z : xs.length ≤ sizeLine) (zk : ∀ x ∈ xs, x.1.length ≤ sizeLine) : ItD K G (Itc a ep xs) (xs.map fun x => .tuple (x.1.map .int)) where
  len := by rw [List.length_map]; exact z
  go := fun i H' e hi => by
    rw [List.length_map] at hi
    exact ⟨e.keep a _ h (fun _ q => by cases q), hi⟩
  yld := fun i H' O' x H'' e n al hi y => by
    obtain ⟨rfl, k, q, hkq, rfl⟩ := y
    have mem := List.mem_of_getElem? hkq
    refine ⟨Ext.refl _, .tuple (k.map .int), by rw [List.getElem?_map, hkq]; rfl, ?_⟩
    exact .tup ((e.under n).sqT (r _ mem)) (by rw [List.length_map]; exact zk _ mem) (rp_intsV k)
  stop := fun H' e => ⟨e.keep a _ h (fun _ q => by cases q), by rw [List.length_map]; exact Nat.le_refl _⟩
section
variable {X : Cx} {Tb : List Addr} {W : WX} {tg : Expr}
theorem fi_keys {l : Expr} {f : Dn} (hl : PE X l (tD X.K Tb W f)) : PI X tg l (tI X.K Tb W (dKeys f)) := (pi_dct hl).by fun σ H R ⟨H0, O0, O, ρ, st, h⟩ => ⟨H0, O0, O, ρ, st, by
  refine Post.then h fun d v H1 e r k => ?_
  unfold keysL at k
  split at k
  · split at k
    · rename_i z
      cases r with
      | dct h1 a1 =>
        rename_i a ep xs
        refine ⟨_, _, _, rfl, (hide_some h1).2, k _ H1 (Ext.refl _) ?_⟩
        rw [List.map_map]
        refine itd_dct h1 a1 (by have := z.1; rwa [List.length_map] at this) fun x hx => ?_
        have := List.all_eq_true.mp z.2 (dctE x) (List.mem_map.mpr ⟨x, hx, rfl⟩)
        simpa [keyOk, dctE] using this
    · exact k.elim
  · exact k.elim⟩
end
end PD

set_option Elab.async false
set_option linter.all false
set_option maxRecDepth 100000
set_option maxHeartbeats 1000000
namespace PD
open PySem PySem.Spec PyProof.Rows L2

/-! ### exceptions of classes of the program -/
abbrev vErr : List Value := [.type "ValueError", .type "Exception", .type "BaseException", .type "object"]
/-- what the written part says of a class without __init__ of its own, over ValueError -/
structure ExcC (K : PySem.W.Frag) (C : Addr) : Prop where
  k : PySem.W.keepIn K (.ref C) = true
  b : PySem.W.subIn K (.ref C) (.type "BaseException") = some true
  t : PySem.W.typeIn K (.ref C) = some (.type "type")
  cl : (PySem.W.clsIn K C).isSome = true
  ga : PySem.W.findIn K (.ref C) "__getattribute__" = some (some (.builtin "BaseException.__getattribute__"))
  gt : PySem.W.findIn K (.ref C) "__getattr__" = some none
  ca : PySem.W.findIn K (.ref C) "__class__" = some (some (.builtin "object.__class__"))
  sp : PySem.W.specialIn K (.builtin "object.__class__") "__get__" = some (some (.builtin "getset_descriptor.__get__"))
  tk : PySem.W.takesIn K (.builtin "object.__class__") = some true
  mo : PySem.W.mroIn K C (.type "object") = some true
/-- raise X('m') -/
def gRaise0 (C : Addr) : Sn := fun ρ => .exc ⟨C, []⟩ ρ
section
variable {X : Cx} {Tb : List Addr} {W : WX} {pos : Pos}
theorem fs_raise0 {C : Addr} {x m : Str} {j : Nat} {p p2 : Pos} (hc : X.calm = true) (tk : L2N.Takes X W) (E : ExcC X.K C) (q : PySem.W.excIn X.K C vErr "ValueError.__new__" = true) (g : X.mg x = some (.ref C)) (hg : Gl X x) (hdb : (x == ("__debug__" : Str)) = false := by decide) {pos2 : Pos} :
    PS X (.Raise (some (.Call (.Name x p) [.Constant (.str m) j p2] [] pos)) none pos2) (tS X.K Tb W (gRaise0 C)) :=
  (L2N.ps_raise hc tk (L2N.pmk_own PySem.F.excBase_ValueError q g E.k (raises_own E.b E.t) hg hdb)).by fun D σ H ⟨H0, O0, O, ρ, st, h⟩ => h O σ H (.ref C) none st ⟨rfl, .inl ⟨rfl, rfl⟩⟩

theorem takes0N {X : Cx} : L2N.Takes X (fun _ _ _ _ => False) := fun _ _ ⟨_, _, _, _, _, _, _, _, _, _, _, _, _, _, _, _, w⟩ => w.elim
/-! ### try: body, except X as n: suite -/
open Classical in
noncomputable def allA (k : Addr → Value → Option Addr → Out) : Out := if h : ∃ o, ∀ a c d, k a c d = o then h.choose else .bad
theorem allA_eq {k : Addr → Value → Option Addr → Out} {o : Out} (h : ∀ a c d, k a c d = o) : allA k = o := by
  have e : ∃ o, ∀ a c d, k a c d = o := ⟨o, h⟩
  unfold allA
  rw [dif_pos e]
  exact (e.choose_spec 0 .none none).symm.trans (h 0 .none none)
theorem allA_post {K : PySem.W.Frag} {H0 : Hp} {O0 : List Addr} {D : Ends} {k : Addr → Value → Option Addr → Out} (h : PostS K Tb W H0 O0 (allA k) D) (a : Addr) (c : Value) (d : Option Addr) : PostS K Tb W H0 O0 (k a c d) D := by
  unfold allA at h
  split at h
  · rename_i e
    rw [e.choose_spec a c d]
    exact h
  · exact h.elim
/-- slot i is empty behind -/
def clrO (i : Nat) : Out → Out
  | .nx ρ => .nx (ρ.set i none)
  | .bk ρ => .bk (ρ.set i none)
  | .ct ρ => .ct (ρ.set i none)
  | .rt d => .rt d
  | _ => .bad
noncomputable def gTry (i : Nat) (cs : List Addr) (g : Sn) (h : Addr → Value → Option Addr → Sn) : Sn := fun ρ => match g ρ with
  | .exc e ρ' => if e.cls ∈ cs then clrO i (allA fun a c d => h a c d (ρ'.set i (some (.exn a c d e)))) else .bad
  | o => o
section
variable {K : PySem.W.Frag} {H0 H : Hp} {O0 O : List Addr} {ρ : Rho} {σ : L2.St}
theorem St0.setExn (st : St0 K Tb H0 O0 O H σ ρ) {i : Nat} {a : Addr} {c : Value} {d : Option Addr} {e : Ex} (r : ExR K (hide O H) H c d e) : St0 K Tb H0 O0 O H (σ.set i (some (.ref a))) (ρ.set i (some (.exn a c d e))) where
  ext := st.ext
  sub := st.sub
  new := st.new
  al := st.al
  tab := st.tab
  pln := st.pln
  len := by rw [List.length_set, List.length_set]; exact st.len
  slot := fun j x h => by
    by_cases e : i = j
    · subst e
      have hl : i < ρ.length := by
        have := (List.getElem?_eq_some_iff.mp h).1
        rw [List.length_set] at this
        exact this
      rw [List.getElem?_set_self hl] at h
      cases h
      exact ⟨.ref a, by rw [List.getElem?_set_self (by rw [st.len]; exact hl)], rfl, r⟩
    · rw [List.getElem?_set_ne e] at h ⊢
      exact st.slot j x h
  inj := fun j k p xs ys hx hy h1 h2 h3 h4 => by
    by_cases e : i = j
    · subst e
      have hl : i < ρ.length := by
        have := (List.getElem?_eq_some_iff.mp h1).1
        rw [List.length_set] at this
        exact this
      rw [List.getElem?_set_self hl] at h1
      cases h1
      exact hx.elim
    · by_cases e2 : i = k
      · subst e2
        have hl : i < ρ.length := by
          have := (List.getElem?_eq_some_iff.mp h2).1
          rw [List.length_set] at this
          exact this
        rw [List.getElem?_set_self hl] at h2
        cases h2
        exact hy.elim
      · rw [List.getElem?_set_ne e] at h1 h3
        rw [List.getElem?_set_ne e2] at h2 h4
        exact st.inj j k p xs ys hx hy h1 h2 h3 h4
theorem St0.clr (st : St0 K Tb H0 O0 O H σ ρ) (i : Nat) : St0 K Tb H0 O0 O H (σ.set i none) (ρ.set i none) where
  ext := st.ext
  sub := st.sub
  new := st.new
  al := st.al
  tab := st.tab
  pln := st.pln
  len := by rw [List.length_set, List.length_set]; exact st.len
  slot := fun j x h => by
    by_cases e : i = j
    · subst e
      by_cases hl : i < ρ.length
      · rw [List.getElem?_set_self hl] at h; cases h
      · rw [List.getElem?_eq_none (by rw [List.length_set]; omega)] at h; cases h
    · rw [List.getElem?_set_ne e] at h ⊢
      exact st.slot j x h
  inj := fun j k p xs ys hx hy h1 h2 h3 h4 => by
    have g : ∀ (j : Nat) (s : Sl), (ρ.set i none)[j]? = some (some s) → ¬ i = j := fun j s h e => by
      subst e
      by_cases hl : i < ρ.length
      · rw [List.getElem?_set_self hl] at h; cases h
      · rw [List.getElem?_eq_none (by rw [List.length_set]; omega)] at h; cases h
    have e1 := g j xs h1
    have e2 := g k ys h2
    rw [List.getElem?_set_ne e1] at h1 h3
    rw [List.getElem?_set_ne e2] at h2 h4
    exact st.inj j k p xs ys hx hy h1 h2 h3 h4
end
theorem fs_try {i : Nat} {x n : Str} {C0 : Addr} {cs : List Addr} {body suite : List Stmt} {b₀ : Stmt} {np pos' : Pos} {g : Sn} {h : Addr → Value → Option Addr → Sn} (hs : X.stack = X.env :: X.outer) (hf : X.env.frame = some X.env.locals) (hN : X.N.Nodup) (hi : X.N[i]? = some n) (hln : X.env.kindOf n = some .local) (hg : Gl X x) (g0 : X.mg x = some (.ref C0))
    (hcs : ∀ c ∈ cs, PySem.W.exmOne X.K (.ref c) (.ref C0) = some true)
    (hb : ∀ (W : WX) (pn : List (Addr × Obj)) (xe : Value → Shared → Prop), L2N.Takes (X.tr pn xe) W → PassesOwn (model X.prog X.w) X.A X.env xe → PSs (X.tr pn xe) body (tS X.K Tb W g))
    (hsu : ∀ (a : Addr) (oe : Obj) (cls : Value) (d : Option Addr) (pn : List (Addr × Obj)), L2N.Zn cls d oe → (∃ vs, oe.data = .fields vs) → PSs (X.suite a ((a, oe) :: pn)) (b₀ :: suite) (tS X.K Tb W0 (h a cls d))) (hdb : (x == ("__debug__" : Str)) = false := by decide) :
    PS X (.Try body [.ExceptHandler (some (.Name x np)) (some n) (b₀ :: suite) pos'] [] [] pos) (tS X.K Tb W (gTry i cs g h)) :=
  (L2N.ps_try_as (Wout := fun _ _ _ _ => False) (tb := fun W => tS X.K Tb W g) (ts := fun a c d => tS X.K Tb W0 (h a c d)) hs hf hN hi hln ⟨hg, hdb, .inl g0⟩ takes0N hb hsu).by fun D σ H ⟨H0, O0, O, ρ, st, q⟩ => by
    refine ⟨H0, O0, O, ρ, st, ?_⟩
    unfold gTry at q
    cases eg : g ρ with
    | nx ρ' => rw [eg] at q; exact q
    | rt d => rw [eg] at q; exact q
    | bk ρ' => rw [eg] at q; exact q
    | ct ρ' => rw [eg] at q; exact q
    | bad => rw [eg] at q; exact q
    | exc e ρ' =>
      rw [eg] at q
      dsimp only at q
      split at q
      · rename_i hm
        intro O1 σ1 H1 c d st1 r
        obtain ⟨rfl, r2⟩ := id r
        refine ⟨true, hcs _ hm, fun _ a _ => ⟨H0, O0, O1, _, st1.setExn (i := i) (a := a) r, ?_⟩, fun z => Bool.noConfusion z⟩
        have key : ∀ out, PostS X.K Tb W H0 O0 (clrO i out) D → PostS X.K Tb W0 H0 O0 out { nx := fun σ' H' => D.nx (σ'.set i none) H', rt := D.rt, bk := fun σ' H' => D.bk (σ'.set i none) H', ct := fun σ' H' => D.ct (σ'.set i none) H' } := fun out h => by
          cases out with
          | nx ρ => exact fun O σ H st => h O _ H (st.clr i)
          | bk ρ => exact fun O σ H st => h O _ H (st.clr i)
          | ct ρ => exact fun O σ H st => h O _ H (st.clr i)
          | rt d => exact h
          | exc e ρ => exact h.elim
          | bad => exact h.elim
        exact allA_post (key _ q) a (.ref e.cls) d
      · exact q.elim
end
end PD

set_option Elab.async false
set_option linter.all false
set_option maxRecDepth 100000
set_option maxHeartbeats 1000000
namespace PD
open PySem PySem.Spec PyProof.Rows L2

/-! ### isinstance(e, X), e the exception that the suite holds -/
open Classical in
noncomputable def exnOf (ρ : Rho) (i : Nat) (a : Addr) (c : Value) (d : Option Addr) : Option Ex := match ρ[i]? with
  | some (some (.exn a' c' d' e)) => if a' = a ∧ c' = c ∧ d' = d then some e else none
  | _ => none
theorem exnOf_is {ρ : Rho} {i : Nat} {a : Addr} {c : Value} {d : Option Addr} {e : Ex} (h : exnOf ρ i a c d = some e) : ρ[i]? = some (some (.exn a c d e)) := by
  unfold exnOf at h
  split at h
  · rename_i a' c' d' e' hs
    split at h
    · rename_i q
      cases h
      obtain ⟨rfl, rfl, rfl⟩ := q
      exact hs
    · cases h
  · cases h
noncomputable def dIsiE (i : Nat) (bs : List (Addr × Bool)) (a : Addr) (c : Value) (d : Option Addr) : Dn := fun ρ => match exnOf ρ i a c d with
  | some e => match bs.lookup e.cls with
    | some b => .ok (.bool b)
    | none => .bad
  | none => .bad
theorem lookup_mem {α β : Type} [BEq α] [LawfulBEq α] {l : List (α × β)} {x : α} {y : β} (h : l.lookup x = some y) : (x, y) ∈ l := by
  induction l with
  | nil => cases h
  | cons p l ih =>
    obtain ⟨p1, p2⟩ := p
    rw [List.lookup_cons] at h
    cases e : x == p1 with
    | true => rw [e] at h; cases h; rw [eq_of_beq e]; exact List.mem_cons_self
    | false => rw [e] at h; exact List.mem_cons_of_mem _ (ih h)
def rIsiE (K : PySem.W.Frag) (a : Addr) (cls : Value) (d : Option Addr) : List V → Hp → VK → Prop := fun xs H Q => ∃ (c : V) (C : Addr) (u : Value) (b : Bool), xs = [.ref a, c] ∧ ClsV c u ∧ cls = .ref C ∧ ExcC K C ∧ PySem.W.kitOne K (.ref C) u = some b ∧ (d = none ∨ ∃ dd fs, d = some dd ∧ H dd = some (.xd fs)) ∧ Q (.bl b) H
section
variable {X : Cx} {Tb : List Addr} {W : WX} {a : Addr} {oe : Obj} {cls : Value} {d : Option Addr} {pn : List (Addr × Obj)}
theorem call_isiE (hz : Zc cls d oe) (hf : ∃ vs, oe.data = .fields vs) : CallR (X.suite a ((a, oe) :: pn)) (.builtin "isinstance") (rIsiE X.K a cls d) := by
  intro pins s σ H xs us Q I r h
  obtain ⟨c, C, u, b, rfl, k, rfl, E, e, hd, q⟩ := h
  obtain ⟨u1, u2, rfl, r1, r2⟩ := vals2 r
  have e2 := k.eq r2
  subst e2
  cases (show u1 = Value.ref a from r1)
  obtain ⟨ha, _⟩ := I.pin (a, oe) (List.mem_append_left _ List.mem_cons_self)
  obtain ⟨vs, hdat⟩ := hf
  have J : ∃ od, PySem.W.InstAt s.heap a oe C od := by
    rcases hd with rfl | ⟨dd, fs, rfl, hdd⟩
    · exact ⟨none, ha, hz.1, by unfold PySem.W.notCls; rw [hdat] <;> rfl, by rw [hz.2]; trivial⟩
    · have hx : ObjOk X.prog X.w H s.heap dd (.xd fs) := I.hok dd _ hdd
      obtain ⟨mA, hns, hr⟩ := hx
      obtain ⟨od, ho, hl⟩ := lookIn_ns hns
      exact ⟨some od, ha, hz.1, by unfold PySem.W.notCls; rw [hdat] <;> rfl, by rw [hz.2]; exact ho⟩
  obtain ⟨od, J⟩ := J
  exact PySem.W.kia_one (PySem.W.kitx_exc E.cl E.ga E.gt E.b E.ca E.sp E.tk E.mo) I.kIn J e (fun z => nomatch z) fun tk => ⟨.bl b, H, I.tok tk, rfl, q⟩
theorem e_isiE {i : Nat} {x y : Str} {u : Value} {cv : V} {bs : List (Addr × Bool)} {p p1 py pos : Pos} (hz : Zc cls d oe) (hf : ∃ vs, oe.data = .fields vs) (B : Bi X.mg) (hbs : ∀ q ∈ bs, ExcC X.K q.1 ∧ PySem.W.kitOne X.K (.ref q.1) u = some q.2) (hcv : ClsV cv u)
    (hy : PE (X.suite a ((a, oe) :: pn)) (.Name y py) (tC cv)) (ho : X.N[i]? = some x) (hv : Vis X.env.scope x) (hd : (x == ("__debug__" : Str)) = false := by decide) (hcd : (x == ("__classdict__" : Str)) = false := by decide) (hg : Gl X "isinstance" := by rfl)
    (he : starEach [.Name x p1, .Name y py] X.env = (false, eval (.Name x p1) X.env) :: starEach [.Name y py] X.env := by rfl) (he2 : starEach [.Name y py] X.env = (false, eval (.Name y py) X.env) :: starEach [] X.env := by rfl) (hpl : (backTo pos (starEach [.Name y py] X.env)).any (·.1) = false := by rfl) :
    PE (X.suite a ((a, oe) :: pn)) (.Call (.Name "isinstance" p) [.Name x p1, .Name y py] [] pos) (tD X.K Tb W (dIsiE i bs a cls d)) :=
  (pe_callB (X := X.suite a ((a, oe) :: pn)) (call_isiE hz hf) hg B.isinstance boot_isinstance (pa_cons (pe_var ho hv hd hcd) (pa_cons hy pa_nil he2) he) (by decide) (by decide) he hpl).by fun σ H Q ⟨H0, O0, O, ρ, st, h⟩ => by
    unfold dIsiE at h
    split at h
    · rename_i ex heq
      obtain ⟨v, h1, rfl, hx1, hx2⟩ := st.slot i _ (exnOf_is heq)
      split at h
      · rename_i b hb
        obtain ⟨E, kb⟩ := hbs _ (lookup_mem hb)
        refine ⟨.ref a, h1, cv, ex.cls, u, b, rfl, hcv, hx1, E, kb, ?_, Post.here h (.bl b)⟩
        rcases hx2 with ⟨_, z⟩ | ⟨dd, fs, z1, z2, _⟩
        · exact .inl z
        · exact .inr ⟨dd, fs, z1, z2⟩
      · exact h.elim
    · exact h.elim
end
end PD
namespace PD
open PySem PySem.Spec PyProof.Rows L2
section
variable {X : Cx} {Tb : List Addr} {W : WX} {a : Addr} {oe : Obj} {cls : Value} {d : Option Addr} {pn : List (Addr × Obj)}
/-- a class of the program -/
theorem e_isiO {i : Nat} {x y : Str} {C2 : Addr} {bs : List (Addr × Bool)} {p p1 py pos : Pos} (hz : Zc cls d oe) (hf : ∃ vs, oe.data = .fields vs) (B : Bi X.mg) (hbs : ∀ q ∈ bs, ExcC X.K q.1 ∧ PySem.W.kitOne X.K (.ref q.1) (.ref C2) = some q.2) (gy : X.mg y = some (.ref C2)) (hgy : Gl X y)
    (ho : X.N[i]? = some x) (hv : Vis X.env.scope x) (hdy : (y == ("__debug__" : Str)) = false := by decide) (hd : (x == ("__debug__" : Str)) = false := by decide) (hcd : (x == ("__classdict__" : Str)) = false := by decide) (hg : Gl X "isinstance" := by rfl)
    (he : starEach [.Name x p1, .Name y py] X.env = (false, eval (.Name x p1) X.env) :: starEach [.Name y py] X.env := by rfl) (he2 : starEach [.Name y py] X.env = (false, eval (.Name y py) X.env) :: starEach [] X.env := by rfl) (hpl : (backTo pos (starEach [.Name y py] X.env)).any (·.1) = false := by rfl) :
    PE (X.suite a ((a, oe) :: pn)) (.Call (.Name "isinstance" p) [.Name x p1, .Name y py] [] pos) (tD X.K Tb W (dIsiE i bs a cls d)) :=
  e_isiE hz hf B hbs (.own C2) (pe_glob (X := X.suite a ((a, oe) :: pn)) hgy gy rfl hdy) ho hv hd hcd hg he he2 hpl
/-- a built-in class -/
theorem e_isiB {i : Nat} {x y : Str} {T : String} {bs : List (Addr × Bool)} {p p1 py pos : Pos} (hz : Zc cls d oe) (hf : ∃ vs, oe.data = .fields vs) (B : Bi X.mg) (hbs : ∀ q ∈ bs, ExcC X.K q.1 ∧ PySem.W.kitOne X.K (.ref q.1) (.type T) = some q.2) (zy : X.mg y = none) (hgy : Gl X y) (hby : bootBuiltins y = some (.type T))
    (ho : X.N[i]? = some x) (hv : Vis X.env.scope x) (hny : y ≠ "__name__" := by decide) (hdy : (y == ("__debug__" : Str)) = false := by decide) (hd : (x == ("__debug__" : Str)) = false := by decide) (hcd : (x == ("__classdict__" : Str)) = false := by decide) (hg : Gl X "isinstance" := by rfl)
    (he : starEach [.Name x p1, .Name y py] X.env = (false, eval (.Name x p1) X.env) :: starEach [.Name y py] X.env := by rfl) (he2 : starEach [.Name y py] X.env = (false, eval (.Name y py) X.env) :: starEach [] X.env := by rfl) (hpl : (backTo pos (starEach [.Name y py] X.env)).any (·.1) = false := by rfl) :
    PE (X.suite a ((a, oe) :: pn)) (.Call (.Name "isinstance" p) [.Name x p1, .Name y py] [] pos) (tD X.K Tb W (dIsiE i bs a cls d)) :=
  e_isiE hz hf B hbs (.ty T) (pe_bltn (X := X.suite a ((a, oe) :: pn)) hgy zy hby rfl hny hdy) ho hv hd hcd hg he he2 hpl
end
theorem boot_ValueError : bootBuiltins "ValueError" = some (.type "ValueError") := by first | rfl | decide +kernel | kernel_rfl
end PD
namespace PD
open PySem PySem.Spec PyProof.Rows L2
section
variable {X : Cx} {Tb : List Addr} {W : WX} {a b : Expr} {f g : Dn} {pos : Pos}
theorem e_eqS (hu : X.A.units + 64 < cLine) (ha : PE X a (tD X.K Tb W f)) (hb : PE X b (tD X.K Tb W g)) (hm : behindInMarks .Eq b = false := by rfl) : PE X (.Compare a [.Eq] [b] pos) (tD X.K Tb W (dTwo oEq f g)) := fd_cmp (op_eqD hu) ok_eq ha hb hm
theorem e_neS (hu : X.A.units + 64 < cLine) (ha : PE X a (tD X.K Tb W f)) (hb : PE X b (tD X.K Tb W g)) (hm : behindInMarks .NotEq b = false := by rfl) : PE X (.Compare a [.NotEq] [b] pos) (tD X.K Tb W (dTwo oNe f g)) := fd_cmp (op_neD hu) ok_ne ha hb hm
theorem t_eqS (hu : X.A.units + 64 < cLine) (ha : PE X a (tD X.K Tb W f)) (hb : PE X b (tD X.K Tb W g)) (hm : behindInMarks .Eq b = false := by rfl) : PT X (.Compare a [.Eq] [b] pos) (tDT X.K Tb W (dAsB (dTwo oEq f g))) := ft_cmp (op_eqD hu) ok_eq ha hb hm
theorem t_neS (hu : X.A.units + 64 < cLine) (ha : PE X a (tD X.K Tb W f)) (hb : PE X b (tD X.K Tb W g)) (hm : behindInMarks .NotEq b = false := by rfl) : PT X (.Compare a [.NotEq] [b] pos) (tDT X.K Tb W (dAsB (dTwo oNe f g))) := ft_cmp (op_neD hu) ok_ne ha hb hm
end
end PD

set_option Elab.async false
set_option linter.all false
set_option maxRecDepth 100000
set_option maxHeartbeats 1000000
namespace PD
open PySem PySem.Spec PyProof.Rows L2

/-! ### sum of a tuple of ints -/
def rSumT (K : PySem.W.Frag) : List V → Hp → VK → Prop := fun xs H Q => ∃ (a : Addr) (ns : List Int), xs = [.ref a] ∧ SqT K H a (ns.map V.int) ∧ Q (.int ns.sum) H
def bSumT : List PyData → R PyData
  | [.tuple xs] => ofO (asInts xs) fun ns => .ok (.int ns.sum)
  | _ => .bad
theorem cr_sumT {X : Cx} (hc : X.calm = true) : CallR X (.builtin "sum") (rSumT X.K) := by
  intro pins s σ H vs us Q I r h
  obtain ⟨a, ns, rfl, hs, q⟩ := h
  obtain ⟨its, rv, hl, _⟩ := I.tuple hs
  rw [Vals.ref1 r]
  obtain ⟨xs, e⟩ := rv.ints.allInts.items
  have hn : PySem.numsOf (intItems xs).toList = ns := by rw [← e]; exact rv.ints.numsOf
  rw [nums_intItems] at hn
  rw [e] at hl
  refine PySem.W.ktm_sumG (I.ok.hd hc) hl fun h' tk t' hk => ?_
  rw [preSum_eq, List.take_of_length_le (by simp), hn]
  exact ⟨.int _, H, I.kept hk, ⟨_, rfl⟩, q⟩
theorem ok_sumT {K : PySem.W.Frag} : OkL K (rSumT K) bSumT := by
  intro O H Wx vs ds Q al r h
  unfold bSumT at h
  split at h
  · rename_i xs
    cases e : asInts xs with
    | none => rw [e] at h; exact h.elim
    | some ns =>
      rw [e] at h
      cases r with
      | cons r1 r2 =>
        cases r2
        cases r1 with
        | tup h1 z1 a1 =>
          have e2 := asInts_eq e
          subst e2
          rw [rp_ints_inv a1] at h1
          exact ⟨_, ns, rfl, Sub.unhide.sqT h1, Post.here h (.int _)⟩
  · exact h.elim
section
variable {X : Cx} {Tb : List Addr} {W : WX}
theorem e_sumT {e : Expr} {es : List Expr} {p pos : Pos} {gl : DnL} (B : Bi X.mg) (ha : PA X (e :: es) (tDs X.K Tb W gl)) (hc : X.calm = true := by rfl) (hg : Gl X "sum" := by rfl) (he : starEach (e :: es) X.env = (false, eval e X.env) :: starEach es X.env := by rfl) (hpl : (backTo pos (starEach es X.env)).any (·.1) = false := by rfl) :
    PE X (.Call (.Name "sum" p) (e :: es) [] pos) (tD X.K Tb W (dArg bSumT gl)) := fd_callB (cr_sumT hc) ok_sumT hg B.sum boot_sum ha (by decide) (by decide) he hpl
end
end PD
namespace PD
open PySem PySem.Spec PyProof.Rows L2
/-! ### own[e] -/
def dOwnIx (i : Nat) (f : Dn) : Dn := fun ρ => match ρ[i]? with
  | some (some (.own ds)) => f ρ >>= fun d => match d with
    | .int k => match atI ds k with
      | some y => .ok y
      | none => .bad
    | _ => .bad
  | _ => .bad
theorem e_ownIx {X : Cx} {Tb : List Addr} {W : WX} {i : Nat} {x : Str} {b : Expr} {f : Dn} {npos pos : Pos} (ho : X.N[i]? = some x) (hv : Vis X.env.scope x) (hd : (x == ("__debug__" : Str)) = false) (hcd : (x == ("__classdict__" : Str)) = false) (hb : PE X b (tD X.K Tb W f)) (hs : PlainIx b := by intro _ _; rfl) :
    PE X (.Subscript (.Name x npos) b pos) (tD X.K Tb W (dOwnIx i f)) := (pe_ix ix_seq (pe_var ho hv hd hcd) hb hs).by fun σ H Q ⟨H0, O0, O, ρ, st, h⟩ => by
  unfold dOwnIx at h
  split at h
  · rename_i ds e1
    obtain ⟨v, h1, p, vs, rfl, m, m0, hp, z, r⟩ := st.slot i _ e1
    refine ⟨.ref p, h1, H0, O0, O, ρ, st, Post.then h fun d v H1 ex rv k => ?_⟩
    split at k
    · rename_i kk
      cases rv
      split at k
      · rename_i y hy
        have key : ∃ u, atI vs kk = some u ∧ Rp X.K (hide O H) u y := by
          unfold atI at hy ⊢
          rw [r.length]
          cases e : ixN ds.length kk with
          | none => rw [e] at hy; cases hy
          | some j =>
            rw [e] at hy
            obtain ⟨u, g1, g2⟩ := r.get' hy
            exact ⟨u, g1, g2⟩
        obtain ⟨u, g1, g2⟩ := key
        exact .inl ⟨p, vs, kk, u, rfl, rfl, .of (ex.keep p _ hp (fun _ q => by cases q)), g1, Post.here k (g2.mono (Sub.hide ex.keep))⟩
      · exact k.elim
    · exact k.elim
  · exact h.elim
end PD

set_option Elab.async false
set_option linter.all false
set_option maxRecDepth 100000
set_option maxHeartbeats 4000000
namespace LW
open PySem PySem.Spec PyProof.Rows L2 PD
def b_law_draws_1 : Sn := (gIf (dAnd (dAsB (dVar 3)) (dAsB (dTwo oGt (dVar 2) (dC (.int 0))))) (gSeq (gApp 5 (dTwo oMod (dArg bInt (dCons (dVar 2) dNil)) (dC (.int 5040)))) (gSet (dTwo oDiv (dVar 2) (dC (.int 5040))) (.nm 2))) (gSeq (gSet (dTwo oMod (dArg bInt (dCons (dTwo oAdd (dTwo oAdd (dTwo oMul (dVar 4) (dC (.int 48271))) (dTwo oMul (dTwo oAdd (dVar 6) (dC (.int 1))) (dC (.int 69621)))) (dC (.int 11))) dNil)) (dC (.int 2147483647))) (.nm 7)) (gSeq (gSet (dTwo oMod (dArg bInt (dCons (dTwo oAdd (dTwo oMul (dVar 7) (dVar 7)) (dTwo oMul (dC (.int 40692)) (dTwo oAdd (dVar 6) (dC (.int 3))))) dNil)) (dC (.int 2147483399))) (.nm 7)) (gApp 5 (dTwo oMod (dArg bInt (dCons (dTwo oDiv (dVar 7) (dC (.int 64))) dNil)) (dC (.int 5040)))))))
def g_law_draws : Sn := (gSeq (gSet (dArg bAbs (dCons (dArg bInt (dCons (dVar 0) dNil)) dNil)) (.nm 2)) (gSeq (gSet (dTwo oGe (dVar 2) (dTwo oPow (dC (.int 10)) (dC (.int 18)))) (.nm 3)) (gSeq (gSet (dVar 2) (.nm 4)) (gSeq (gOwn (dLst dNil) 5) (gSeq (gFor (dRng1 (dCons (dVar 1) dNil)) (.nm 6) b_law_draws_1) (gFrz 5 (gRet (dVar 5))))))))
def m_law_draws : List PyData → R PyData := runD 8 2 g_law_draws
def g_law_cell : Sn := (gSeq (gIf (dAsB (dTwo oLt (dVar 1) (dArg bLen (dCons (dVar 0) dNil)))) (gRet (dTwo oIx (dVar 0) (dVar 1))) gSkip) (gRet (dTwo oAdd (dTwo oMul (dC (.int 5)) (dVar 1)) (dC (.int 3)))))
def m_law_cell : List PyData → R PyData := runD 2 2 g_law_cell
def b_law_parts_of_1 : Sn := (gSet (dTwo oAdd (dVar 1) (dLc (dItems (dVar 1)) (.nm 3) dYes (dTwo oAdd (dVar 3) (dTup (dCons (dVar 2) dNil))) [3])) (.nm 1))
def g_law_parts_of : Sn := (gSeq (gSet (dLst (dCons (dTup dNil) dNil)) (.nm 1)) (gSeq (gFor (dRng1 (dCons (dVar 0) dNil)) (.nm 2) b_law_parts_of_1) (gRet (dArg bSorted (dCons (dVar 1) dNil)))))
def m_law_parts_of : List PyData → R PyData := runD 4 1 g_law_parts_of
def g_law_rest : Sn := (gRet (dArg bTuple (dCons (dLc (dRng1 (dCons (dVar 1) dNil)) (.nm 2) (dAsB (dTwo oNotIn (dVar 2) (dVar 0))) (dVar 2) [2]) dNil)))
def m_law_rest : List PyData → R PyData := runD 3 2 g_law_rest
def g_law_count : Sn := (gRet (dArg bLen (dCons (dLc (dItems (dVar 0)) (.nm 3) (dAsB (dTwo oEq (dTwo oIx (dVar 1) (dVar 3)) (dVar 2))) (dVar 3) [3]) dNil)))
def m_law_count : List PyData → R PyData := runD 4 3 g_law_count
def b_law_smooth_lots_1 : Sn := (gIf (dAsB (dArg bAll (dCons (dLc (dRng1 (dCons (dC (.int 3)) dNil)) (.nm 10) dYes (dTwo oLe (dArg m_law_count (dCons (dVar 6) (dCons (dVar 3) (dCons (dVar 10) dNil)))) (dTwo oIx (dVar 4) (dVar 10))) [10]) dNil))) (gApp 5 (dVar 6)) gSkip)
def g_law_smooth_lots : Sn := (gSeq (gSet (dArg m_law_draws (dCons (dVar 0) (dCons (dTwo oAdd (dC (.int 3)) (dVar 1)) dNil))) (.nm 2)) (gSeq (gSet (dLc (dRng1 (dCons (dVar 1) dNil)) (.nm 9) dYes (dTwo oMod (dArg bInt (dCons (dTwo oIx (dVar 2) (dTwo oAdd (dC (.int 3)) (dVar 9))) dNil)) (dC (.int 3))) [9]) (.nm 3)) (gSeq (gSet (dLst (dCons (dTwo oAdd (dC (.int 1)) (dTwo oMod (dArg bInt (dCons (dTwo oIx (dVar 2) (dC (.int 1))) dNil)) (dC (.int 2)))) (dCons (dTwo oAdd (dC (.int 1)) (dTwo oMod (dTwo oDiv (dArg bInt (dCons (dTwo oIx (dVar 2) (dC (.int 1))) dNil)) (dC (.int 2))) (dC (.int 2)))) (dCons (dTwo oMod (dTwo oDiv (dArg bInt (dCons (dTwo oIx (dVar 2) (dC (.int 1))) dNil)) (dC (.int 4))) (dC (.int 3))) dNil)))) (.nm 4)) (gSeq (gOwn (dLst dNil) 5) (gSeq (gFor (dItems (dArg m_law_parts_of (dCons (dVar 1) dNil))) (.nm 6) b_law_smooth_lots_1) (gFrz 5 (gSeq (gSet (dArg bMin2 (dCons (dArg bMax (dCons (dLc (dItems (dVar 5)) (.nm 6) dYes (dArg bLen (dCons (dVar 6) dNil)) [6]) dNil)) (dCons (dTwo oIx (dTup (dCons (dC (.int 2)) (dCons (dC (.int 1)) (dCons (dC (.int 2)) (dCons (dC (.int 3)) (dCons (dC (.int 2)) (dCons (dC (.int 1)) (dCons (dC (.int 3)) (dCons (dC (.int 0)) dNil))))))))) (dTwo oMod (dArg bInt (dCons (dTwo oIx (dVar 2) (dC (.int 0))) dNil)) (dC (.int 8)))) dNil))) (.nm 7)) (gSeq (gSet (dLc (dItems (dVar 5)) (.nm 6) (dAsB (dTwo oEq (dArg bLen (dCons (dVar 6) dNil)) (dVar 7))) (dVar 6) [6]) (.nm 8)) (gSeq (gIf (dAsB (dTwo oEq (dTwo oMod (dArg bInt (dCons (dTwo oIx (dVar 2) (dC (.int 2))) dNil)) (dC (.int 3))) (dC (.int 1)))) (gSet (dArg bSorted (dCons (dLc (dItems (dVar 8)) (.nm 6) dYes (dArg m_law_rest (dCons (dVar 6) (dCons (dVar 1) dNil))) [6]) dNil)) (.nm 8)) gSkip) (gRet (dArg bTuple (dCons (dVar 8) dNil))))))))))))
def m_law_smooth_lots : List PyData → R PyData := runD 11 2 g_law_smooth_lots
def g_law_within : Sn := (gRet (dArg bAll (dCons (dLc (dItems (dVar 0)) (.nm 2) dYes (dTwo oIn (dVar 2) (dVar 1)) [2]) dNil)))
def m_law_within : List PyData → R PyData := runD 3 2 g_law_within
def b_law_antichain_1 : Sn := (gIf (dThawB (dAnd (dAsB (dTwo oNotIn (dVar 2) (dVar 1))) (dNot (dAsB (dArg bAny (dCons (dLc (dItems (dVar 0)) (.nm 3) dYes (dAndV (dTwo oNe (dVar 2) (dVar 3)) (dArg m_law_within (dCons (dVar 2) (dCons (dVar 3) dNil)))) [3]) dNil)))))) (gApp 1 (dVar 2)) gSkip)
def g_law_antichain : Sn := (gSeq (gOwn (dLst dNil) 1) (gSeq (gFor (dItems (dArg bSorted (dCons (dVar 0) dNil))) (.nm 2) b_law_antichain_1) (gFrz 1 (gRet (dArg bTuple (dCons (dVar 1) dNil))))))
def m_law_antichain : List PyData → R PyData := runD 4 1 g_law_antichain
def g_law_any_lots : Sn := (gSeq (gSet (dArg m_law_draws (dCons (dVar 0) (dCons (dC (.int 7)) dNil))) (.nm 2)) (gSeq (gSet (dArg m_law_parts_of (dCons (dVar 1) dNil)) (.nm 3)) (gSeq (gSet (dLc (dRng1 (dCons (dTwo oAdd (dC (.int 1)) (dTwo oMod (dArg bInt (dCons (dTwo oIx (dVar 2) (dC (.int 0))) dNil)) (dC (.int 6)))) dNil)) (.nm 5) dYes (dTwo oIx (dVar 3) (dTwo oMod (dArg bInt (dCons (dTwo oIx (dVar 2) (dTwo oAdd (dC (.int 1)) (dVar 5))) dNil)) (dArg bLen (dCons (dVar 3) dNil)))) [5]) (.nm 4)) (gRet (dArg m_law_antichain (dCons (dVar 4) dNil))))))
def m_law_any_lots : List PyData → R PyData := runD 6 2 g_law_any_lots
def g_law_lots : Sn := (gSeq (gIf (dAsB (dTwo oEq (dTwo oMod (dTwo oDiv (dArg bInt (dCons (dTwo oIx (dArg m_law_draws (dCons (dVar 0) (dCons (dC (.int 3)) dNil))) (dC (.int 2))) dNil)) (dC (.int 3))) (dC (.int 2))) (dC (.int 0)))) (gRet (dArg m_law_smooth_lots (dCons (dVar 0) (dCons (dVar 1) dNil)))) gSkip) (gRet (dArg m_law_any_lots (dCons (dVar 0) (dCons (dVar 1) dNil)))))
def m_law_lots : List PyData → R PyData := runD 2 2 g_law_lots
def g_closed_up : Sn := (gRet (dArg bTuple (dCons (dLc (dItems (dVar 0)) (.nm 2) dYes (dIf (dAsB (dTwo oGt (dVar 2) (dVar 1))) (dTwo oSub (dVar 2) (dC (.int 1))) (dVar 2)) [2]) dNil)))
def m_closed_up : List PyData → R PyData := runD 3 2 g_closed_up
def g_leave_out : Sn := (gRet (dArg bTuple (dCons (dLc (dItems (dVar 0)) (.nm 2) (dAsB (dTwo oNe (dVar 2) (dVar 1))) (dVar 2) [2]) dNil)))
def m_leave_out : List PyData → R PyData := runD 3 2 g_leave_out
def g_without_thing : Sn := (gRet (dArg bTuple (dCons (dArg bSorted (dCons (dLc (dItems (dVar 0)) (.nm 2) dYes (dArg m_closed_up (dCons (dArg m_leave_out (dCons (dVar 2) (dCons (dVar 1) dNil))) (dCons (dVar 1) dNil))) [2]) dNil)) dNil)))
def m_without_thing : List PyData → R PyData := runD 3 2 g_without_thing
def g_without : Sn := (gSeq (gSet (dVar 0) (.tp [(.nm 2), (.nm 3)])) (gSeq (gSet (dLc (dItems (dVar 3)) (.nm 5) (dAsB (dTwo oNotIn (dVar 1) (dVar 5))) (dVar 5) [5]) (.nm 4)) (gRet (dTup (dCons (dTwo oSub (dVar 2) (dC (.int 1))) (dCons (dArg m_without_thing (dCons (dIf (dAsB (dTwo oGt (dArg bLen (dCons (dVar 4) dNil)) (dC (.int 0)))) (dVar 4) (dVar 3)) (dCons (dVar 1) dNil))) dNil))))))
def m_without : List PyData → R PyData := runD 6 2 g_without
def g_holding : Sn := (gSeq (gSet (dVar 0) (.tp [(.nm 2), (.nm 3)])) (gSeq (gSet (dLc (dItems (dVar 3)) (.nm 5) (dAsB (dTwo oIn (dVar 1) (dVar 5))) (dVar 5) [5]) (.nm 4)) (gRet (dTup (dCons (dTwo oSub (dVar 2) (dC (.int 1))) (dCons (dArg m_without_thing (dCons (dIf (dAsB (dTwo oGt (dArg bLen (dCons (dVar 4) dNil)) (dC (.int 0)))) (dVar 4) (dVar 3)) (dCons (dVar 1) dNil))) dNil))))))
def m_holding : List PyData → R PyData := runD 6 2 g_holding
def g_law_is_integer : Sn := (gRet (dAndV (dOne (oIsi "int") (dVar 0)) (dNotV (dOne (oIsi "bool") (dVar 0)))))
def m_law_is_integer : List PyData → R PyData := runD 1 1 g_law_is_integer
def b_law_is_set_1 : Sn := (gSeq (gIf (dOr (dNot (dAsB (dArg m_law_is_integer (dCons (dTwo oIx (dVar 0) (dVar 2)) dNil)))) (dOr (dAsB (dTwo oLt (dTwo oIx (dVar 0) (dVar 2)) (dC (.int 0)))) (dAsB (dTwo oGe (dTwo oIx (dVar 0) (dVar 2)) (dVar 1))))) (gRet (dC (.bool false))) gSkip) (gIf (dAnd (dAsB (dTwo oGt (dVar 2) (dC (.int 0)))) (dAsB (dTwo oLe (dTwo oIx (dVar 0) (dVar 2)) (dTwo oIx (dVar 0) (dTwo oSub (dVar 2) (dC (.int 1))))))) (gRet (dC (.bool false))) gSkip))
def g_law_is_set : Sn := (gSeq (gIf (dNot (dAsB (dOne (oIsi "tuple") (dVar 0)))) (gRet (dC (.bool false))) gSkip) (gSeq (gFor (dRng1 (dCons (dArg bLen (dCons (dVar 0) dNil)) dNil)) (.nm 2) b_law_is_set_1) (gRet (dC (.bool true)))))
def m_law_is_set : List PyData → R PyData := runD 3 2 g_law_is_set
def b_law_is_some_offer_1 : Sn := (gIf (dOr (dNot (dAsB (dArg m_law_is_set (dCons (dTwo oIx (dTwo oIx (dVar 0) (dC (.int 1))) (dVar 2)) (dCons (dVar 1) dNil))))) (dAnd (dAsB (dTwo oGt (dVar 2) (dC (.int 0)))) (dAsB (dTwo oLeT (dTwo oIx (dTwo oIx (dVar 0) (dC (.int 1))) (dVar 2)) (dTwo oIx (dTwo oIx (dVar 0) (dC (.int 1))) (dTwo oSub (dVar 2) (dC (.int 1)))))))) (gRet (dC (.bool false))) gSkip)
def g_law_is_some_offer : Sn := (gSeq (gIf (dOr (dNot (dAsB (dOne (oIsi "tuple") (dVar 0)))) (dOr (dAsB (dTwo oNe (dArg bLen (dCons (dVar 0) dNil)) (dC (.int 2)))) (dOr (dNot (dAsB (dArg m_law_is_integer (dCons (dTwo oIx (dVar 0) (dC (.int 0))) dNil)))) (dAsB (dTwo oNe (dTwo oIx (dVar 0) (dC (.int 0))) (dVar 1)))))) (gRet (dC (.bool false))) gSkip) (gSeq (gIf (dOr (dNot (dAsB (dOne (oIsi "tuple") (dTwo oIx (dVar 0) (dC (.int 1)))))) (dAsB (dTwo oEq (dArg bLen (dCons (dTwo oIx (dVar 0) (dC (.int 1))) dNil)) (dC (.int 0))))) (gRet (dC (.bool false))) gSkip) (gSeq (gFor (dRng1 (dCons (dArg bLen (dCons (dTwo oIx (dVar 0) (dC (.int 1))) dNil)) dNil)) (.nm 2) b_law_is_some_offer_1) (gRet (dC (.bool true))))))
def m_law_is_some_offer : List PyData → R PyData := runD 3 2 g_law_is_some_offer
def g_law_exchanged : Sn := (gRet (dArg bTuple (dCons (dArg bSorted (dCons (dTwo oAdd (dLc (dItems (dVar 0)) (.nm 3) (dAsB (dTwo oNe (dVar 3) (dVar 1))) (dVar 3) [3]) (dLst (dCons (dVar 2) dNil))) dNil)) dNil)))
def m_law_exchanged : List PyData → R PyData := runD 4 3 g_law_exchanged
def b_law_fault_1 : Sn := (gIf (dAsB (dTwo oNotIn (dVar 2) (dVar 3))) (gSeq (gSet (dLc (dItems (dVar 3)) (.nm 5) (dAsB (dTwo oNotIn (dVar 5) (dVar 1))) (dVar 5) [5]) (.nm 4)) (gIf (dNot (dAsB (dArg bAny (dCons (dLc (dItems (dVar 4)) (.nm 5) dYes (dTwo oIn (dArg m_law_exchanged (dCons (dVar 1) (dCons (dVar 2) (dCons (dVar 5) dNil)))) (dVar 0)) [5]) dNil)))) (gRet (dTup (dCons (dVar 1) (dCons (dVar 2) (dCons (dVar 3) dNil))))) gSkip)) gSkip)
def b_law_fault_2 : Sn := (gFor (dItems (dVar 0)) (.nm 3) b_law_fault_1)
def b_law_fault_3 : Sn := (gFor (dItems (dVar 1)) (.nm 2) b_law_fault_2)
def g_law_fault : Sn := (gSeq (gFor (dItems (dVar 0)) (.nm 1) b_law_fault_3) (gRet (dC .none)))
def m_law_fault : List PyData → R PyData := runD 6 1 g_law_fault
def g_known_lots : Sn := (gRet (dDc (dItems (dTwo oIx (dVar 0) (dC (.int 1)))) (.nm 1) dYes (dVar 1) [1]))
def m_known_lots : List PyData → R PyData := runD 2 1 g_known_lots
def g_difference : Sn := (gRet (dArg bTuple (dCons (dLc (dItems (dVar 0)) (.nm 2) (dAsB (dTwo oNotIn (dVar 2) (dVar 1))) (dVar 2) [2]) dNil)))
def m_difference : List PyData → R PyData := runD 3 2 g_difference
def g_things_missing : Sn := (gRet (dArg m_difference (dCons (dOne bTupR1 (dVar 0)) (dCons (dVar 1) dNil))))
def m_things_missing : List PyData → R PyData := runD 2 2 g_things_missing
def g_put_in : Sn := (gRet (dArg bTuple (dCons (dArg bSorted (dCons (dTwo oAdd (dVar 0) (dTup (dCons (dVar 1) dNil))) dNil)) dNil)))
def m_put_in : List PyData → R PyData := runD 2 2 g_put_in
def g_exchange : Sn := (gRet (dArg m_put_in (dCons (dArg m_leave_out (dCons (dVar 0) (dCons (dVar 1) dNil))) (dCons (dVar 2) dNil))))
def m_exchange : List PyData → R PyData := runD 3 3 g_exchange
def g_replacements : Sn := (gSeq (gSet (dArg m_things_missing (dCons (dTwo oIx (dVar 0) (dC (.int 0))) (dCons (dVar 2) dNil))) (.nm 4)) (gRet (dLc (dItems (dVar 4)) (.nm 5) (dAsB (dTwo oInT (dArg m_exchange (dCons (dVar 2) (dCons (dVar 3) (dCons (dVar 5) dNil)))) (dVar 1))) (dVar 5) [5])))
def m_replacements : List PyData → R PyData := runD 6 4 g_replacements
def b_first_fault_1 : Sn := (gIf (dAnd (dAsB (dTwo oNotIn (dVar 4) (dVar 6))) (dNot (dAsB (dAnyG true (dItems (dVar 6)) (.nm 7) dYes (dTwo oIn (dVar 7) (dVar 5)) [7])))) (gRet (dTup (dCons (dVar 3) (dCons (dVar 4) (dCons (dVar 6) dNil))))) gSkip)
def b_first_fault_2 : Sn := (gSeq (gSet (dArg m_replacements (dCons (dVar 0) (dCons (dVar 2) (dCons (dVar 3) (dCons (dVar 4) dNil))))) (.nm 5)) (gFor (dItems (dVar 1)) (.nm 6) b_first_fault_1))
def b_first_fault_3 : Sn := (gFor (dItems (dVar 3)) (.nm 4) b_first_fault_2)
def g_first_fault : Sn := (gSeq (gSet (dTwo oIx (dVar 0) (dC (.int 1))) (.nm 1)) (gSeq (gSet (dArg m_known_lots (dCons (dVar 0) dNil)) (.nm 2)) (gSeq (gFor (dItems (dVar 1)) (.nm 3) b_first_fault_3) (gRet (dC .none)))))
def m_first_fault : List PyData → R PyData := runD 8 1 g_first_fault
def g_is_smooth : Sn := (gRet (dOne (fun d => .ok (.bool (isNone d))) (dArg m_first_fault (dCons (dVar 0) dNil))))
def m_is_smooth : List PyData → R PyData := runD 1 1 g_is_smooth
def g_law_opened : Sn := (gRet (dArg bTuple (dCons (dTwo oAdd (dLc (dItems (dVar 0)) (.nm 2) (dAsB (dTwo oLt (dVar 2) (dVar 1))) (dVar 2) [2]) (dLc (dItems (dVar 0)) (.nm 2) (dAsB (dTwo oGe (dVar 2) (dVar 1))) (dTwo oAdd (dVar 2) (dC (.int 1))) [2])) dNil)))
def m_law_opened : List PyData → R PyData := runD 3 2 g_law_opened
def g_law_rank : Sn := (gRet (dArg bMax (dCons (dLc (dItems (dVar 1)) (.nm 2) dYes (dArg bLen (dCons (dLc (dItems (dVar 2)) (.nm 3) (dAsB (dTwo oIn (dVar 3) (dVar 0))) (dVar 3) [3]) dNil)) [2]) dNil)))
def m_law_rank : List PyData → R PyData := runD 4 2 g_law_rank
def b_law_ranks_fit_1 : Sn := (gSeq (gSet (dArg m_law_opened (dCons (dVar 4) (dCons (dVar 1) dNil))) (.nm 5)) (gSeq (gIf (dAsB (dTwo oNe (dArg m_law_rank (dCons (dVar 4) (dCons (dTwo oIx (dVar 2) (dC (.int 1))) dNil))) (dArg m_law_rank (dCons (dVar 5) (dCons (dTwo oIx (dVar 0) (dC (.int 1))) dNil))))) (gRet (dC (.bool false))) gSkip) (gIf (dAsB (dTwo oNe (dArg m_law_rank (dCons (dVar 4) (dCons (dTwo oIx (dVar 3) (dC (.int 1))) dNil))) (dTwo oSub (dArg m_law_rank (dCons (dTwo oAdd (dVar 5) (dTup (dCons (dVar 1) dNil))) (dCons (dTwo oIx (dVar 0) (dC (.int 1))) dNil))) (dArg m_law_rank (dCons (dTup (dCons (dVar 1) dNil)) (dCons (dTwo oIx (dVar 0) (dC (.int 1))) dNil)))))) (gRet (dC (.bool false))) gSkip)))
def g_law_ranks_fit : Sn := (gSeq (gFor (dItems (dArg m_law_parts_of (dCons (dTwo oSub (dTwo oIx (dVar 0) (dC (.int 0))) (dC (.int 1))) dNil))) (.nm 4) b_law_ranks_fit_1) (gRet (dC (.bool true))))
def m_law_ranks_fit : List PyData → R PyData := runD 6 4 g_law_ranks_fit
def g_law_in_both_orders : Sn := (gSeq (gSet (dTwo oIx (dVar 0) (dC (.int 0))) (.nm 3)) (gSeq (gSet (dArg m_without (dCons (dVar 0) (dCons (dVar 1) dNil))) (.nm 4)) (gSeq (gSet (dArg m_holding (dCons (dVar 0) (dCons (dVar 1) dNil))) (.nm 5)) (gSeq (gIf (dOr (dNot (dAsB (dArg m_law_is_some_offer (dCons (dVar 4) (dCons (dTwo oSub (dVar 3) (dC (.int 1))) dNil))))) (dNot (dAsB (dArg m_law_is_some_offer (dCons (dVar 5) (dCons (dTwo oSub (dVar 3) (dC (.int 1))) dNil)))))) (gRet (dC (.bool false))) gSkip) (gSeq (gIf (dOr (dAsB (dOne (fun d => .ok (.bool (!isNone d))) (dArg m_law_fault (dCons (dTwo oIx (dVar 4) (dC (.int 1))) dNil)))) (dAsB (dOne (fun d => .ok (.bool (!isNone d))) (dArg m_law_fault (dCons (dTwo oIx (dVar 5) (dC (.int 1))) dNil))))) (gRet (dC (.bool false))) gSkip) (gSeq (gIf (dOr (dAsB (dTwo oIsNot (dArg m_is_smooth (dCons (dVar 4) dNil)) (dC (.bool true)))) (dOr (dAsB (dTwo oIsNot (dArg m_is_smooth (dCons (dVar 5) dNil)) (dC (.bool true)))) (dNot (dAsB (dArg m_law_ranks_fit (dCons (dVar 0) (dCons (dVar 1) (dCons (dVar 4) (dCons (dVar 5) dNil))))))))) (gRet (dC (.bool false))) gSkip) (gSeq (gSet (dArg m_without (dCons (dVar 4) (dCons (dTwo oSub (dVar 2) (dC (.int 1))) dNil))) (.nm 6)) (gSeq (gSet (dArg m_holding (dCons (dVar 5) (dCons (dTwo oSub (dVar 2) (dC (.int 1))) dNil))) (.nm 7)) (gSeq (gSet (dArg m_without (dCons (dVar 5) (dCons (dTwo oSub (dVar 2) (dC (.int 1))) dNil))) (.nm 8)) (gSeq (gSet (dArg m_holding (dCons (dVar 4) (dCons (dTwo oSub (dVar 2) (dC (.int 1))) dNil))) (.nm 9)) (gSeq (gIf (dNot (dAsB (dArg bAll (dCons (dLc (dItems (dLst (dCons (dVar 6) (dCons (dVar 7) (dCons (dVar 8) (dCons (dVar 9) dNil)))))) (.nm 10) dYes (dArg m_law_is_some_offer (dCons (dVar 10) (dCons (dTwo oSub (dVar 3) (dC (.int 2))) dNil))) [10]) dNil)))) (gRet (dC (.bool false))) gSkip) (gSeq (gIf (dOr (dAsB (dTwo oNe (dVar 6) (dArg m_without (dCons (dArg m_without (dCons (dVar 0) (dCons (dVar 2) dNil))) (dCons (dVar 1) dNil))))) (dAsB (dTwo oNe (dVar 7) (dArg m_holding (dCons (dArg m_holding (dCons (dVar 0) (dCons (dVar 2) dNil))) (dCons (dVar 1) dNil)))))) (gRet (dC (.bool false))) gSkip) (gRet (dAndV (dTwo oEq (dVar 8) (dArg m_holding (dCons (dArg m_without (dCons (dVar 0) (dCons (dVar 2) dNil))) (dCons (dVar 1) dNil)))) (dTwo oEq (dVar 9) (dArg m_without (dCons (dArg m_holding (dCons (dVar 0) (dCons (dVar 2) dNil))) (dCons (dVar 1) dNil))))))))))))))))))
def m_law_in_both_orders : List PyData → R PyData := runD 11 3 g_law_in_both_orders
def g_opposite : Sn := (gSeq (gSet (dVar 0) (.tp [(.nm 1), (.nm 2)])) (gRet (dTup (dCons (dVar 1) (dCons (dArg bTuple (dCons (dArg bSorted (dCons (dLc (dItems (dVar 2)) (.nm 3) dYes (dArg m_things_missing (dCons (dVar 1) (dCons (dVar 3) dNil))) [3]) dNil)) dNil)) dNil)))))
def m_opposite : List PyData → R PyData := runD 4 1 g_opposite
def b_law_mirrored_1 : Sn := (gSeq (gSet (dArg m_opposite (dCons (dArg m_without (dCons (dVar 0) (dCons (dVar 3) dNil))) dNil)) (.nm 4)) (gSeq (gIf (dOr (dNot (dAsB (dArg m_law_is_some_offer (dCons (dVar 4) (dCons (dTwo oSub (dVar 1) (dC (.int 1))) dNil))))) (dAsB (dTwo oNe (dVar 4) (dArg m_holding (dCons (dVar 2) (dCons (dVar 3) dNil)))))) (gRet (dC (.bool false))) gSkip) (gSeq (gSet (dArg m_opposite (dCons (dArg m_holding (dCons (dVar 0) (dCons (dVar 3) dNil))) dNil)) (.nm 4)) (gIf (dOr (dNot (dAsB (dArg m_law_is_some_offer (dCons (dVar 4) (dCons (dTwo oSub (dVar 1) (dC (.int 1))) dNil))))) (dAsB (dTwo oNe (dVar 4) (dArg m_without (dCons (dVar 2) (dCons (dVar 3) dNil)))))) (gRet (dC (.bool false))) gSkip))))
def g_law_mirrored : Sn := (gSeq (gSet (dTwo oIx (dVar 0) (dC (.int 0))) (.nm 1)) (gSeq (gSet (dArg m_opposite (dCons (dVar 0) dNil)) (.nm 2)) (gSeq (gFor (dRng1 (dCons (dVar 1) dNil)) (.nm 3) b_law_mirrored_1) (gRet (dC (.bool true))))))
def m_law_mirrored : List PyData → R PyData := runD 5 1 g_law_mirrored
def g_law_k32 : Sn := (gSeq (gSet (dArg m_law_draws (dCons (dArg m_law_cell (dCons (dVar 0) (dCons (dC (.int 0)) dNil))) (dCons (dC (.int 4)) dNil))) (.nm 1)) (gSeq (gSet (dTwo oIx (dTup (dCons (dC (.int 4)) (dCons (dC (.int 5)) (dCons (dC (.int 3)) (dCons (dC (.int 4)) (dCons (dC (.int 2)) dNil)))))) (dTwo oMod (dArg bInt (dCons (dTwo oIx (dVar 1) (dC (.int 0))) dNil)) (dC (.int 5)))) (.nm 2)) (gSeq (gSet (dTwo oMod (dArg bInt (dCons (dTwo oIx (dVar 1) (dC (.int 1))) dNil)) (dTwo oSub (dVar 2) (dC (.int 1)))) (.nm 3)) (gSeq (gSet (dTwo oAdd (dTwo oAdd (dVar 3) (dC (.int 1))) (dTwo oMod (dArg bInt (dCons (dTwo oIx (dVar 1) (dC (.int 2))) dNil)) (dTwo oSub (dTwo oSub (dVar 2) (dC (.int 1))) (dVar 3)))) (.nm 4)) (gSeq (gSet (dTup (dCons (dVar 2) (dCons (dArg m_law_smooth_lots (dCons (dArg m_law_cell (dCons (dVar 0) (dCons (dC (.int 1)) dNil))) (dCons (dVar 2) dNil))) dNil))) (.nm 5)) (gSeq (gSet (dTwo oIx (dTup (dCons (dC (.int 4)) (dCons (dC (.int 3)) (dCons (dC (.int 4)) (dCons (dC (.int 2)) (dCons (dC (.int 1)) dNil)))))) (dTwo oMod (dArg bInt (dCons (dTwo oIx (dVar 1) (dC (.int 3))) dNil)) (dC (.int 5)))) (.nm 6)) (gSeq (gSet (dTup (dCons (dVar 6) (dCons (dArg m_law_lots (dCons (dArg m_law_cell (dCons (dVar 0) (dCons (dC (.int 2)) dNil))) (dCons (dVar 6) dNil))) dNil))) (.nm 7)) (gRet (dAndV (dArg m_law_in_both_orders (dCons (dVar 5) (dCons (dVar 3) (dCons (dVar 4) dNil)))) (dAndV (dArg m_law_mirrored (dCons (dVar 7) dNil)) (dArg m_law_mirrored (dCons (dVar 5) dNil))))))))))))
def m_law_k32 : List PyData → R PyData := runD 8 1 g_law_k32
end LW

set_option Elab.async false
set_option linter.all false
set_option maxRecDepth 100000
set_option maxHeartbeats 4000000
namespace LW
open PySem PySem.Spec PyProof.Rows L2 PD
def b_law_left_lots_1 : Sn := (gIf (dThawB (dAsB (dTwo oGt (dArg bLen (dCons (dVar 2) dNil)) (dC (.int 1))))) (gPopAt 2 (dThaw (dTwo oMod (dArg bInt (dCons (dTwo oAdd (dTwo oIx (dVar 0) (dC (.int 1))) (dVar 3)) dNil)) (dArg bLen (dCons (dVar 2) dNil))))) gSkip)
def g_law_left_lots : Sn := (gSeq (gOwn (dArg bList (dCons (dVar 1) dNil)) 2) (gSeq (gFor (dRng1 (dCons (dTwo oAdd (dC (.int 1)) (dTwo oMod (dArg bInt (dCons (dTwo oIx (dVar 0) (dC (.int 0))) dNil)) (dC (.int 2)))) dNil)) (.nm 3) b_law_left_lots_1) (gFrz 2 (gRet (dArg bTuple (dCons (dVar 2) dNil))))))
def m_law_left_lots : List PyData → R PyData := runD 4 2 g_law_left_lots
def b_law_bounded_lots_1 : Sn := (gIf (dAsB (dArg bAll (dCons (dLc (dRng1 (dCons (dC (.int 3)) dNil)) (.nm 9) dYes (dTwo oLe (dArg m_law_count (dCons (dVar 5) (dCons (dVar 2) (dCons (dVar 9) dNil)))) (dTwo oIx (dVar 3) (dVar 9))) [9]) dNil))) (gApp 4 (dVar 5)) gSkip)
def g_law_bounded_lots : Sn := (gSeq (gSet (dLc (dRng1 (dCons (dVar 1) dNil)) (.nm 8) dYes (dTwo oMod (dArg bInt (dCons (dTwo oIx (dVar 0) (dTwo oAdd (dC (.int 3)) (dVar 8))) dNil)) (dC (.int 3))) [8]) (.nm 2)) (gSeq (gSet (dLst (dCons (dTwo oAdd (dC (.int 1)) (dTwo oMod (dArg bInt (dCons (dTwo oIx (dVar 0) (dC (.int 2))) dNil)) (dC (.int 2)))) (dCons (dTwo oAdd (dC (.int 1)) (dTwo oMod (dTwo oDiv (dArg bInt (dCons (dTwo oIx (dVar 0) (dC (.int 2))) dNil)) (dC (.int 2))) (dC (.int 2)))) (dCons (dTwo oMod (dTwo oDiv (dArg bInt (dCons (dTwo oIx (dVar 0) (dC (.int 2))) dNil)) (dC (.int 4))) (dC (.int 3))) dNil)))) (.nm 3)) (gSeq (gOwn (dLst dNil) 4) (gSeq (gFor (dItems (dArg m_law_parts_of (dCons (dVar 1) dNil))) (.nm 5) b_law_bounded_lots_1) (gFrz 4 (gSeq (gSet (dArg bMax (dCons (dLc (dItems (dVar 4)) (.nm 5) dYes (dArg bLen (dCons (dVar 5) dNil)) [5]) dNil)) (.nm 6)) (gSeq (gSet (dArg bMin2 (dCons (dVar 6) (dCons (dTwo oIx (dTup (dCons (dC (.int 2)) (dCons (dC (.int 1)) (dCons (dC (.int 2)) (dCons (dC (.int 3)) (dCons (dC (.int 1)) (dCons (dC (.int 2)) (dCons (dC (.int 0)) (dCons (dC (.int 3)) dNil))))))))) (dTwo oMod (dArg bInt (dCons (dTwo oIx (dVar 0) (dC (.int 1))) dNil)) (dC (.int 8)))) dNil))) (.nm 7)) (gRet (dArg bTuple (dCons (dLc (dItems (dVar 4)) (.nm 5) (dAsB (dTwo oEq (dArg bLen (dCons (dVar 5) dNil)) (dVar 7))) (dVar 5) [5]) dNil))))))))))
def m_law_bounded_lots : List PyData → R PyData := runD 10 2 g_law_bounded_lots
def b_law_is_forest_1 : Sn := (gSeq (gSet (dTwo oIx (dVar 3) (dTwo oIx (dTwo oIx (dVar 1) (dVar 4)) (dC (.int 0)))) (.nm 5)) (gSeq (gSet (dTwo oIx (dVar 3) (dTwo oIx (dTwo oIx (dVar 1) (dVar 4)) (dC (.int 1)))) (.nm 6)) (gSeq (gIf (dAsB (dTwo oEq (dVar 5) (dVar 6))) (gRet (dC (.bool false))) gSkip) (gSet (dLc (dItems (dVar 3)) (.nm 7) dYes (dIf (dAsB (dTwo oEq (dVar 7) (dVar 5))) (dVar 6) (dVar 7)) [7]) (.nm 3)))))
def g_law_is_forest : Sn := (gSeq (gSet (dOne bLstR1 (dVar 2)) (.nm 3)) (gSeq (gFor (dItems (dVar 0)) (.nm 4) b_law_is_forest_1) (gRet (dC (.bool true)))))
def m_law_is_forest : List PyData → R PyData := runD 8 3 g_law_is_forest
def b_law_forest_lots_1 : Sn := (gSeq (gSet (dArg bInt (dCons (dTwo oIx (dVar 0) (dTwo oAdd (dC (.int 2)) (dVar 4))) dNil)) (.nm 5)) (gApp 3 (dTup (dCons (dTwo oMod (dVar 5) (dVar 2)) (dCons (dTwo oMod (dTwo oDiv (dVar 5) (dVar 2)) (dVar 2)) dNil)))))
def g_law_forest_lots : Sn := (gSeq (gSet (dTwo oAdd (dC (.int 2)) (dTwo oMod (dArg bInt (dCons (dTwo oIx (dVar 0) (dC (.int 1))) dNil)) (dC (.int 3)))) (.nm 2)) (gSeq (gOwn (dLst dNil) 3) (gSeq (gFor (dRng1 (dCons (dVar 1) dNil)) (.nm 4) b_law_forest_lots_1) (gFrz 3 (gSeq (gSet (dLc (dItems (dArg m_law_parts_of (dCons (dVar 1) dNil))) (.nm 8) (dAsB (dArg m_law_is_forest (dCons (dVar 8) (dCons (dVar 3) (dCons (dVar 2) dNil))))) (dVar 8) [8]) (.nm 6)) (gSeq (gSet (dArg bMax (dCons (dLc (dItems (dVar 6)) (.nm 8) dYes (dArg bLen (dCons (dVar 8) dNil)) [8]) dNil)) (.nm 7)) (gRet (dArg bTuple (dCons (dLc (dItems (dVar 6)) (.nm 8) (dAsB (dTwo oEq (dArg bLen (dCons (dVar 8) dNil)) (dVar 7))) (dVar 8) [8]) dNil)))))))))
def m_law_forest_lots : List PyData → R PyData := runD 9 2 g_law_forest_lots
def g_law_rest_of : Sn := (gRet (dArg bTuple (dCons (dLc (dRng1 (dCons (dVar 1) dNil)) (.nm 2) (dAsB (dTwo oNotIn (dVar 2) (dVar 0))) (dVar 2) [2]) dNil)))
def m_law_rest_of : List PyData → R PyData := runD 3 2 g_law_rest_of
def g_law_smooth_lots_k03 : Sn := (gSeq (gSet (dArg m_law_draws (dCons (dVar 0) (dCons (dTwo oAdd (dC (.int 3)) (dVar 1)) dNil))) (.nm 2)) (gSeq (gSet (dTwo oMod (dArg bInt (dCons (dTwo oIx (dVar 2) (dC (.int 0))) dNil)) (dC (.int 6))) (.nm 3)) (gSeq (gIf (dAsB (dTwo oLt (dVar 3) (dC (.int 4)))) (gSet (dArg m_law_bounded_lots (dCons (dVar 2) (dCons (dVar 1) dNil))) (.nm 4)) (gSet (dArg m_law_forest_lots (dCons (dVar 2) (dCons (dVar 1) dNil))) (.nm 4))) (gSeq (gIf (dOr (dAsB (dTwo oEq (dVar 3) (dC (.int 3)))) (dAsB (dTwo oEq (dVar 3) (dC (.int 5))))) (gSet (dArg bTuple (dCons (dArg bSorted (dCons (dLc (dItems (dVar 4)) (.nm 5) dYes (dArg m_law_rest_of (dCons (dVar 5) (dCons (dVar 1) dNil))) [5]) dNil)) dNil)) (.nm 4)) gSkip) (gRet (dVar 4))))))
def m_law_smooth_lots_k03 : List PyData → R PyData := runD 6 2 g_law_smooth_lots_k03
def g_law_any_lots_k03 : Sn := (gSeq (gSet (dArg m_law_draws (dCons (dVar 0) (dCons (dTwo oAdd (dC (.int 15)) (dVar 1)) dNil))) (.nm 2)) (gSeq (gSet (dTwo oMod (dArg bInt (dCons (dTwo oIx (dVar 2) (dC (.int 12))) dNil)) (dC (.int 4))) (.nm 3)) (gSeq (gIf (dAsB (dTwo oEq (dVar 3) (dC (.int 1)))) (gRet (dArg m_law_left_lots (dCons (dCut (dVar 2) (dPart (dC (.int 13))) dNoP) (dCons (dArg m_law_smooth_lots_k03 (dCons (dVar 0) (dCons (dVar 1) dNil))) dNil)))) gSkip) (gSeq (gIf (dAnd (dAsB (dTwo oEq (dVar 3) (dC (.int 2)))) (dAsB (dTwo oGt (dVar 1) (dC (.int 2))))) (gSeq (gSet (dLc (dRng1 (dCons (dVar 1) dNil)) (.nm 7) dYes (dTwo oMod (dArg bInt (dCons (dTwo oIx (dVar 2) (dTwo oAdd (dC (.int 15)) (dVar 7))) dNil)) (dC (.int 3))) [7]) (.nm 4)) (gSeq (gSet (dLc (dRng1 (dCons (dC (.int 3)) dNil)) (.nm 8) dYes (dArg bTuple (dCons (dLc (dRng1 (dCons (dVar 1) dNil)) (.nm 7) (dAsB (dTwo oEq (dTwo oIx (dVar 4) (dVar 7)) (dVar 8))) (dVar 7) [7]) dNil)) [8]) (.nm 5)) (gRet (dArg m_law_antichain (dCons (dVar 5) dNil))))) gSkip) (gSeq (gSet (dArg m_law_parts_of (dCons (dVar 1) dNil)) (.nm 6)) (gSeq (gSet (dLc (dRng1 (dCons (dTwo oAdd (dC (.int 1)) (dTwo oMod (dArg bInt (dCons (dTwo oIx (dVar 2) (dC (.int 0))) dNil)) (dC (.int 6)))) dNil)) (.nm 9) dYes (dTwo oIx (dVar 6) (dTwo oMod (dArg bInt (dCons (dTwo oIx (dVar 2) (dTwo oAdd (dC (.int 1)) (dVar 9))) dNil)) (dArg bLen (dCons (dVar 6) dNil)))) [9]) (.nm 5)) (gRet (dArg m_law_antichain (dCons (dVar 5) dNil)))))))))
def m_law_any_lots_k03 : List PyData → R PyData := runD 10 2 g_law_any_lots_k03
def g_law_lots_k03 : Sn := (gSeq (gIf (dAsB (dTwo oEq (dTwo oMod (dArg bInt (dCons (dTwo oIx (dArg m_law_draws (dCons (dVar 0) (dCons (dC (.int 12)) dNil))) (dC (.int 11))) dNil)) (dC (.int 2))) (dC (.int 0)))) (gRet (dArg m_law_smooth_lots_k03 (dCons (dVar 0) (dCons (dVar 1) dNil)))) gSkip) (gRet (dArg m_law_any_lots_k03 (dCons (dVar 0) (dCons (dVar 1) dNil)))))
def m_law_lots_k03 : List PyData → R PyData := runD 2 2 g_law_lots_k03
def g_count_common : Sn := (gRet (dArg bLen (dCons (dLc (dItems (dVar 0)) (.nm 2) (dAsB (dTwo oIn (dVar 2) (dVar 1))) (dVar 2) [2]) dNil)))
def m_count_common : List PyData → R PyData := runD 3 2 g_count_common
def g_rank : Sn := (gRet (dArg bMax (dCons (dLc (dItems (dTwo oIx (dVar 0) (dC (.int 1)))) (.nm 2) dYes (dArg m_count_common (dCons (dVar 1) (dCons (dVar 2) dNil))) [2]) dNil)))
def m_rank : List PyData → R PyData := runD 3 2 g_rank
def g_lies_within : Sn := (gRet (dAnyG false (dItems (dVar 0)) (.nm 2) dYes (dTwo oIn (dVar 2) (dVar 1)) [2]))
def m_lies_within : List PyData → R PyData := runD 3 2 g_lies_within
def g_is_free : Sn := (gRet (dAnyG true (dItems (dTwo oIx (dVar 0) (dC (.int 1)))) (.nm 2) dYes (dArg m_lies_within (dCons (dVar 1) (dCons (dVar 2) dNil))) [2]))
def m_is_free : List PyData → R PyData := runD 3 2 g_is_free
def b_law_k03_1 : Sn := (gSeq (gSet (dArg bMax (dCons (dLc (dItems (dTwo oIx (dVar 3) (dC (.int 1)))) (.nm 8) dYes (dArg bLen (dCons (dLc (dItems (dVar 8)) (.nm 9) (dAsB (dTwo oIn (dVar 9) (dVar 4))) (dVar 9) [9]) dNil)) [8]) dNil)) (.nm 5)) (gSeq (gSet (dArg m_rank (dCons (dVar 3) (dCons (dVar 4) dNil))) (.nm 6)) (gSeq (gIf (dOr (dNot (dAsB (dArg m_law_is_integer (dCons (dVar 6) dNil)))) (dAsB (dTwo oNe (dVar 6) (dVar 5)))) (gRet (dC (.bool false))) gSkip) (gSeq (gSet (dArg m_is_free (dCons (dVar 3) (dCons (dVar 4) dNil))) (.nm 7)) (gSeq (gIf (dOr (dNot (dAsB (dOne (oIsi "bool") (dVar 7)))) (dAsB (dTwo oNe (dVar 7) (dArg bAny (dCons (dLc (dItems (dTwo oIx (dVar 3) (dC (.int 1)))) (.nm 8) dYes (dArg m_law_within (dCons (dVar 4) (dCons (dVar 8) dNil))) [8]) dNil))))) (gRet (dC (.bool false))) gSkip) (gIf (dAsB (dTwo oNe (dVar 7) (dTwo oEq (dVar 5) (dArg bLen (dCons (dVar 4) dNil))))) (gRet (dC (.bool false))) gSkip))))))
def g_law_k03 : Sn := (gSeq (gSet (dArg m_law_draws (dCons (dArg m_law_cell (dCons (dVar 0) (dCons (dC (.int 0)) dNil))) (dCons (dC (.int 1)) dNil))) (.nm 1)) (gSeq (gSet (dTwo oIx (dTup (dCons (dC (.int 4)) (dCons (dC (.int 3)) (dCons (dC (.int 5)) (dCons (dC (.int 2)) (dCons (dC (.int 6)) (dCons (dC (.int 1)) (dCons (dC (.int 0)) (dCons (dC (.int 4)) dNil))))))))) (dTwo oMod (dArg bInt (dCons (dTwo oIx (dVar 1) (dC (.int 0))) dNil)) (dC (.int 8)))) (.nm 2)) (gSeq (gSet (dTup (dCons (dVar 2) (dCons (dArg m_law_lots_k03 (dCons (dArg m_law_cell (dCons (dVar 0) (dCons (dC (.int 1)) dNil))) (dCons (dVar 2) dNil))) dNil))) (.nm 3)) (gSeq (gFor (dItems (dArg m_law_parts_of (dCons (dVar 2) dNil))) (.nm 4) b_law_k03_1) (gRet (dC (.bool true)))))))
def m_law_k03 : List PyData → R PyData := runD 10 1 g_law_k03
end LW

set_option Elab.async false
set_option linter.all false
set_option maxRecDepth 100000
set_option maxHeartbeats 4000000
namespace LW
open PySem PySem.Spec PyProof.Rows L2 PD
def b_law_drawn_set_1 : Sn := (gSeq (gIf (dAsB (dTwo oEq (dTwo oMod (dVar 2) (dC (.int 2))) (dC (.int 1)))) (gApp 3 (dVar 4)) gSkip) (gSet (dTwo oDiv (dVar 2) (dC (.int 2))) (.nm 2)))
def g_law_drawn_set : Sn := (gSeq (gSet (dArg bInt (dCons (dVar 0) dNil)) (.nm 2)) (gSeq (gOwn (dLst dNil) 3) (gSeq (gFor (dRng1 (dCons (dVar 1) dNil)) (.nm 4) b_law_drawn_set_1) (gFrz 3 (gRet (dArg bTuple (dCons (dVar 3) dNil)))))))
def m_law_drawn_set : List PyData → R PyData := runD 5 2 g_law_drawn_set
def g_law_drawn_lots : Sn := (gSeq (gSet (dArg m_law_draws (dCons (dVar 0) (dCons (dC (.int 7)) dNil))) (.nm 2)) (gRet (dArg m_law_antichain (dCons (dLc (dRng1 (dCons (dTwo oAdd (dC (.int 1)) (dTwo oMod (dArg bInt (dCons (dTwo oIx (dVar 2) (dC (.int 0))) dNil)) (dC (.int 6)))) dNil)) (.nm 3) dYes (dArg m_law_drawn_set (dCons (dTwo oIx (dVar 2) (dTwo oAdd (dC (.int 1)) (dVar 3))) (dCons (dVar 1) dNil))) [3]) dNil))))
def m_law_drawn_lots : List PyData → R PyData := runD 4 2 g_law_drawn_lots
def g_law_closed : Sn := (gRet (dArg bTuple (dCons (dTwo oAdd (dLc (dItems (dVar 0)) (.nm 2) (dAsB (dTwo oLt (dVar 2) (dVar 1))) (dVar 2) [2]) (dLc (dItems (dVar 0)) (.nm 2) (dAsB (dTwo oGt (dVar 2) (dVar 1))) (dTwo oSub (dVar 2) (dC (.int 1))) [2])) dNil)))
def m_law_closed : List PyData → R PyData := runD 3 2 g_law_closed
def g_law_smaller : Sn := (gSeq (gIf (dAsB (dTwo oEq (dArg bLen (dCons (dVar 1) dNil)) (dC (.int 0)))) (gRet (dArg bTuple (dCons (dArg bSorted (dCons (dLc (dItems (dVar 0)) (.nm 3) dYes (dArg m_law_closed (dCons (dVar 3) (dCons (dVar 2) dNil))) [3]) dNil)) dNil))) gSkip) (gRet (dArg bTuple (dCons (dArg bSorted (dCons (dLc (dItems (dVar 1)) (.nm 3) dYes (dArg m_law_closed (dCons (dVar 3) (dCons (dVar 2) dNil))) [3]) dNil)) dNil))))
def m_law_smaller : List PyData → R PyData := runD 4 3 g_law_smaller
def b_law_is_offer_1 : Sn := (gIf (dNot (dAsB (dArg m_law_is_set (dCons (dVar 3) (dCons (dVar 1) dNil))))) (gRet (dC (.bool false))) gSkip)
def g_law_is_offer : Sn := (gSeq (gIf (dOr (dNot (dAsB (dOne (oIsi "tuple") (dVar 0)))) (dOr (dAsB (dTwo oNe (dArg bLen (dCons (dVar 0) dNil)) (dC (.int 2)))) (dOr (dNot (dAsB (dArg m_law_is_integer (dCons (dTwo oIx (dVar 0) (dC (.int 0))) dNil)))) (dAsB (dTwo oNe (dTwo oIx (dVar 0) (dC (.int 0))) (dVar 1)))))) (gRet (dC (.bool false))) gSkip) (gSeq (gIf (dOr (dNot (dAsB (dOne (oIsi "tuple") (dTwo oIx (dVar 0) (dC (.int 1)))))) (dAsB (dTwo oNe (dTwo oIx (dVar 0) (dC (.int 1))) (dVar 2)))) (gRet (dC (.bool false))) gSkip) (gSeq (gFor (dItems (dTwo oIx (dVar 0) (dC (.int 1)))) (.nm 3) b_law_is_offer_1) (gRet (dC (.bool true))))))
def m_law_is_offer : List PyData → R PyData := runD 4 3 g_law_is_offer
def b_law_tells_k31_1 : Sn := (gSeq (gSet (dArg m_law_smaller (dCons (dTwo oIx (dVar 0) (dC (.int 1))) (dCons (dLc (dItems (dTwo oIx (dVar 0) (dC (.int 1)))) (.nm 4) (dAsB (dTwo oNotIn (dVar 2) (dVar 4))) (dVar 4) [4]) (dCons (dVar 2) dNil)))) (.nm 3)) (gSeq (gIf (dNot (dAsB (dArg m_law_is_offer (dCons (dArg m_without (dCons (dVar 0) (dCons (dVar 2) dNil))) (dCons (dTwo oSub (dVar 1) (dC (.int 1))) (dCons (dVar 3) dNil)))))) (gRet (dC (.bool false))) gSkip) (gSeq (gSet (dArg m_law_smaller (dCons (dTwo oIx (dVar 0) (dC (.int 1))) (dCons (dLc (dItems (dTwo oIx (dVar 0) (dC (.int 1)))) (.nm 4) (dAsB (dTwo oIn (dVar 2) (dVar 4))) (dVar 4) [4]) (dCons (dVar 2) dNil)))) (.nm 3)) (gIf (dNot (dAsB (dArg m_law_is_offer (dCons (dArg m_holding (dCons (dVar 0) (dCons (dVar 2) dNil))) (dCons (dTwo oSub (dVar 1) (dC (.int 1))) (dCons (dVar 3) dNil)))))) (gRet (dC (.bool false))) gSkip))))
def g_law_tells_k31 : Sn := (gSeq (gSet (dTwo oIx (dVar 0) (dC (.int 0))) (.nm 1)) (gSeq (gFor (dRng1 (dCons (dVar 1) dNil)) (.nm 2) b_law_tells_k31_1) (gRet (dC (.bool true)))))
def m_law_tells_k31 : List PyData → R PyData := runD 5 1 g_law_tells_k31
def g_law_k31 : Sn := (gSeq (gSet (dArg m_law_draws (dCons (dArg m_law_cell (dCons (dVar 0) (dCons (dC (.int 0)) dNil))) (dCons (dC (.int 2)) dNil))) (.nm 1)) (gSeq (gSet (dTwo oIx (dTup (dCons (dC (.int 4)) (dCons (dC (.int 3)) (dCons (dC (.int 5)) (dCons (dC (.int 2)) (dCons (dC (.int 4)) (dCons (dC (.int 1)) dNil))))))) (dTwo oMod (dArg bInt (dCons (dTwo oIx (dVar 1) (dC (.int 0))) dNil)) (dC (.int 6)))) (.nm 2)) (gSeq (gSet (dTwo oAdd (dC (.int 6)) (dTwo oMod (dArg bInt (dCons (dTwo oIx (dVar 1) (dC (.int 1))) dNil)) (dC (.int 7)))) (.nm 3)) (gSeq (gSet (dTup (dCons (dVar 2) (dCons (dArg m_law_lots (dCons (dArg m_law_cell (dCons (dVar 0) (dCons (dC (.int 1)) dNil))) (dCons (dVar 2) dNil))) dNil))) (.nm 4)) (gSeq (gSet (dTup (dCons (dVar 3) (dCons (dArg m_law_drawn_lots (dCons (dArg m_law_cell (dCons (dVar 0) (dCons (dC (.int 2)) dNil))) (dCons (dVar 3) dNil))) dNil))) (.nm 5)) (gRet (dAndV (dArg m_law_tells_k31 (dCons (dVar 4) dNil)) (dAndV (dArg m_law_tells_k31 (dCons (dVar 5) dNil)) (dArg m_law_tells_k31 (dCons (dVar 4) dNil))))))))))
def m_law_k31 : List PyData → R PyData := runD 6 1 g_law_k31
end LW

set_option Elab.async false
set_option linter.all false
set_option maxRecDepth 100000
/-! # Facts of classes from what the written part says -/
namespace PD
open PySem PySem.Spec PySem.W PyProof.Rows
theorem kit_ref {K : Frag} {t : Value} {C : Addr} {v : Bool} (h2 : (clsIn K C).isSome = true) (h3 : typeIn K (.ref C) = some (.type "type")) (h4 : subIn K t (.ref C) = some v) (d : (t == .ref C) = true → v = true) :
    kitOne K t (.ref C) = some v := by
  unfold kitOne
  by_cases q : (t == .ref C) = true
  · rw [if_pos q, d q]
  · rw [if_neg q]
    have e2 : ((clsIn K C).isSome && typeIn K (.ref C) == some (.type "type")) = true := by rw [h2, h3] <;> rfl
    show (if ((clsIn K C).isSome && typeIn K (.ref C) == some (.type "type")) = true then subIn K t (.ref C) else none) = some v
    rw [if_pos e2]; exact h4
theorem kit_ty {K : Frag} {t : Value} {T : String} {v : Bool} (h2 : kitMeta T = true) (h4 : subIn K t (.type T) = some v) (d : (t == .type T) = false) :
    kitOne K t (.type T) = some v := by
  unfold kitOne
  rw [if_neg (by rw [d]; exact Bool.false_ne_true)]
  show (if kitMeta T = true then subIn K t (.type T) else none) = some v
  rw [if_pos h2]; exact h4
theorem exm_ref {K : Frag} {t : Value} {C : Addr} {v : Bool} (h1 : subIn K (.ref C) (.type "BaseException") = some true) (h2 : (clsIn K C).isSome = true) (h3 : typeIn K (.ref C) = some (.type "type")) (h4 : subIn K t (.ref C) = some v) :
    exmOne K t (.ref C) = some v := by
  have e1 : (subIn K (.ref C) (.type "BaseException") == some true) = true := by rw [h1] <;> rfl
  have e2 : ((clsIn K C).isSome && typeIn K (.ref C) == some (.type "type")) = true := by rw [h2, h3] <;> rfl
  show (if (subIn K (.ref C) (.type "BaseException") == some true) = true then (if ((clsIn K C).isSome && typeIn K (.ref C) == some (.type "type")) = true then subIn K t (.ref C) else none) else none) = some v
  rw [if_pos e1, if_pos e2]; exact h4
theorem clsIn_some {K : Frag} {C : Addr} (h : isClsIn K C = true) : (clsIn K C).isSome = true := h
end PD

set_option Elab.async false
set_option linter.all false
set_option maxRecDepth 100000
/-! # x.append(y.pop(e)): both own lists -/
namespace PD
open PySem PySem.Spec PyProof.Rows L2
def gAppPop (i j : Nat) (f : Dn) : Sn := fun ρ => ownAt ρ i fun ds => ownAt ρ j fun es => oR (f ρ) ρ fun d => match d with
  | .int k => match seqIndex? k es.length with
    | some q => if -(2 ^ 63) ≤ k ∧ k < 2 ^ 63 ∧ q < es.length ∧ ds.length < sizeLine then (match es[q]? with
        | some y => .nx ((ρ.set j (some (.own (es.eraseIdx q)))).set i (some (.own (ds ++ [y]))))
        | none => .bad) else .bad
    | none => .bad
  | _ => .bad
section
variable {X : Cx} {Tb : List Addr} {W : WX} {e : Expr} {es : List Expr} {f : Dn} {gl : DnL} {pos p : Pos} {x x2 : Str}
theorem fs_appPop {i j : Nat} {apos npos cpos apos2 npos2 cpos2 : Pos} (hij : i ≠ j) (ho : X.N[i]? = some x) (hv : Vis X.env.scope x) (hd : (x == ("__debug__" : Str)) = false) (hcd : (x == ("__classdict__" : Str)) = false)
    (ho2 : X.N[j]? = some x2) (hv2 : Vis X.env.scope x2) (hd2 : (x2 == ("__debug__" : Str)) = false) (hcd2 : (x2 == ("__classdict__" : Str)) = false) (ha : PE X e (tD X.K Tb W f))
    (hse2 : starEach [e] X.env = (false, eval e X.env) :: starEach [] X.env) (hbase2 : attributeBase (.Name x2 npos2) "pop" X.env (eval (.Name x2 npos2) X.env) = eval (.Name x2 npos2) X.env)
    (hfew2 : ((backTo cpos2 (starEach [e] X.env)).all (fun x => !x.1) && (backToKw cpos2 (keywordEach [] X.env)).all (fun x => x.1.isSome)
      && decide (([e] : List Expr).length + ([] : List Keyword).length + (if ([] : List Keyword).isEmpty then 0 else 1) < 30)) = true)
    (hline2 : (apos2.endLine == cpos2.line) = true) (hplain2 : (backTo cpos2 (starEach [] X.env)).any (·.1) = false)
    (hse : starEach [(.Call (.Attribute (.Name x2 npos2) "pop" apos2) [e] [] cpos2)] X.env = (false, eval (.Call (.Attribute (.Name x2 npos2) "pop" apos2) [e] [] cpos2) X.env) :: starEach [] X.env) (hbase : attributeBase (.Name x npos) "append" X.env (eval (.Name x npos) X.env) = eval (.Name x npos) X.env)
    (hfew : ((backTo cpos (starEach [(.Call (.Attribute (.Name x2 npos2) "pop" apos2) [e] [] cpos2)] X.env)).all (fun x => !x.1) && (backToKw cpos (keywordEach [] X.env)).all (fun x => x.1.isSome)
      && decide (([(.Call (.Attribute (.Name x2 npos2) "pop" apos2) [e] [] cpos2)] : List Expr).length + ([] : List Keyword).length + (if ([] : List Keyword).isEmpty then 0 else 1) < 30)) = true)
    (hline : (apos.endLine == cpos.line) = true) (hplain : (backTo cpos (starEach [] X.env)).any (·.1) = false)
    (hs : swapsWith (.Call (.Attribute (.Name x npos) "append" apos) [(.Call (.Attribute (.Name x2 npos2) "pop" apos2) [e] [] cpos2)] [] cpos) none pos.line X.env = pure false) :
    PS X (.Expr (.Call (.Attribute (.Name x npos) "append" apos) [(.Call (.Attribute (.Name x2 npos2) "pop" apos2) [e] [] cpos2)] [] cpos) pos) (tS X.K Tb W (gAppPop i j f)) :=
  (ps_expr (pe_bm PySem.F.plainAttrs_list PySem.F.slot_list_append PySem.F.type_list_append mt_append (pe_var ho hv hd hcd) (pa_cons (pe_bm PySem.F.plainAttrs_list PySem.F.slot_list_pop PySem.F.type_list_pop mt_popAt (pe_var ho2 hv2 hd2 hcd2) (pa_cons ha pa_nil hse2) hbase2 hfew2 hline2 hse2 hplain2) pa_nil hse) hbase hfew hline hse hplain) hs).by fun D σ H ⟨H0, O0, O, ρ, st, h⟩ => by
    obtain ⟨ds, p, vs, e1, e2, hp, z, r, h⟩ := own_at st h
    obtain ⟨es, p', vs', e1', e2', hp', z', r', h⟩ := own_at st h
    refine ⟨.ref p, e2, .inl ⟨rfl, vs, .of hp⟩, .ref p', e2', .inl ⟨rfl, vs', .of hp'⟩, H0, O0, O, ρ, st, oR_post st h fun d v H1 ex rv k => ?_⟩
    have pne : p ≠ p' := fun e => by
      subst e
      exact hij (st.inj i j p (.own ds) (.own es) trivial trivial e1 e1' e2 e2')
    split at k
    · rename_i kk
      cases rv
      split at k
      · rename_i q hq
        split at k
        · rename_i hl
          split at k
          · rename_i y hy
            obtain ⟨u, hu, ru⟩ := r'.get' hy
            have hp1 := ex.keep p _ hp (fun _ q => by cases q)
            have hp1' := ex.keep p' _ hp' (fun _ q => by cases q)
            obtain ⟨_, h1q, p2, vs2, rfl, mO, m0, _⟩ := st.slot j _ e1'
            rw [e2'] at h1q
            cases h1q
            have s1 := (st.step ex).ownSet (ds' := es.eraseIdx q) (vs' := vs'.eraseIdx q) e1' e2' (Nat.le_trans (List.length_eraseIdx_le _ _) z') ((r'.mono (Sub.hide ex.keep)).erase q)
            refine ⟨p', vs', kk, q, u, rfl, rfl, hp1', hl.1, hl.2.1, by rw [r'.length]; exact hq, hu, p, vs, u, rfl, rfl, ?_, by rw [r.length]; exact hl.2.2.2, ?_⟩
            · rw [upd_ne pne]; exact hp1
            · refine k O σ _ (s1.ownSet (ds := ds) (by rw [List.getElem?_set_ne hij.symm]; exact e1) e2 ?_ ?_)
              · rw [List.length_append]; simp; exact hl.2.2.2
              · rw [hide_upd mO]
                exact (r.mono (Sub.hide ex.keep)).append (.one (ru.mono (Sub.hide ex.keep)))
          · exact k.elim
        · exact k.elim
      · exact k.elim
    · exact k.elim
end
end PD

set_option Elab.async false
set_option linter.all false
set_option maxRecDepth 100000
set_option maxHeartbeats 1000000
/-! # isinstance(e, (X, Y)), e the exception that the suite holds -/
namespace PD
open PySem PySem.Spec PyProof.Rows L2
theorem kit_any2 {K : PySem.W.Frag} {t u1 u2 : Value} {b1 b2 : Bool} (h1 : PySem.W.kitOne K t u1 = some b1) (h2 : PySem.W.kitOne K t u2 = some b2) : PySem.W.kitAny K t [u1, u2] = some (b1 || b2) := by
  unfold PySem.W.kitAny
  rw [h1]
  cases b1 with
  | true => rfl
  | false =>
    show PySem.W.kitAny K t [u2] = _
    unfold PySem.W.kitAny
    rw [h2]
    cases b2 <;> rfl
def rIsiE2 (K : PySem.W.Frag) (a : Addr) (cls : Value) (d : Option Addr) : List V → Hp → VK → Prop := fun xs H Q => ∃ (tp : Addr) (c1 c2 : V) (C : Addr) (u1 u2 : Value) (b : Bool), xs = [.ref a, .ref tp] ∧ SqT K H tp [c1, c2] ∧ ClsV c1 u1 ∧ ClsV c2 u2 ∧ cls = .ref C ∧ ExcC K C ∧ PySem.W.kitAny K (.ref C) [u1, u2] = some b ∧ (d = none ∨ ∃ dd fs, d = some dd ∧ H dd = some (.xd fs)) ∧ Q (.bl b) H
section
variable {X : Cx} {Tb : List Addr} {W : WX} {a : Addr} {oe : Obj} {cls : Value} {d : Option Addr} {pn : List (Addr × Obj)}
theorem call_isiE2 (hz : Zc cls d oe) (hf : ∃ vs, oe.data = .fields vs) : CallR (X.suite a ((a, oe) :: pn)) (.builtin "isinstance") (rIsiE2 X.K a cls d) := by
  intro pins s σ H xs us Q I r h
  obtain ⟨tp, c1, c2, C, w1, w2, b, rfl, hT, k1, k2, rfl, E, e, hd, q⟩ := h
  obtain ⟨u1, u2, rfl, r1, r2⟩ := vals2 r
  cases (show u1 = Value.ref a from r1)
  cases (show u2 = Value.ref tp from r2)
  obtain ⟨its, rv, ⟨o, g, gc, n, gd⟩, _⟩ := I.tuple hT
  obtain ⟨i1, i2, rfl, s1, s2⟩ := vals2 rv
  cases k1.eq s1
  cases k2.eq s2
  obtain ⟨oc, odd, odt, osl⟩ := o
  dsimp only at gc gd
  subst gc gd
  obtain ⟨ha, _⟩ := I.pin (a, oe) (List.mem_append_left _ List.mem_cons_self)
  obtain ⟨vs, hdat⟩ := hf
  have J : ∃ od, PySem.W.InstAt s.heap a oe C od := by
    rcases hd with rfl | ⟨dd, fs, rfl, hdd⟩
    · exact ⟨none, ha, hz.1, by unfold PySem.W.notCls; rw [hdat] <;> rfl, by rw [hz.2]; trivial⟩
    · have hx : ObjOk X.prog X.w H s.heap dd (.xd fs) := I.hok dd _ hdd
      obtain ⟨mA, hns, hr⟩ := hx
      obtain ⟨od, ho, hl⟩ := lookIn_ns hns
      exact ⟨some od, ha, hz.1, by unfold PySem.W.notCls; rw [hdat] <;> rfl, by rw [hz.2]; exact ho⟩
  obtain ⟨od, J⟩ := J
  exact PySem.W.kia_tup (PySem.W.kitx_exc E.cl E.ga E.gt E.b E.ca E.sp E.tk E.mo) I.kIn J g e (fun z => nomatch z) fun tk => ⟨.bl b, H, I.tok tk, rfl, q⟩
theorem e_isiE2 {i : Nat} {x y1 y2 : Str} {u1 u2 : Value} {cv1 cv2 : V} {bs : List (Addr × Bool)} {p p1 py1 py2 pt pos : Pos} {nt : Nat} (hz : Zc cls d oe) (hf : ∃ vs, oe.data = .fields vs) (B : Bi X.mg) (hbs : ∀ q ∈ bs, ExcC X.K q.1 ∧ PySem.W.kitAny X.K (.ref q.1) [u1, u2] = some q.2) (hcv1 : ClsV cv1 u1) (hcv2 : ClsV cv2 u2)
    (hy1 : PE (X.suite a ((a, oe) :: pn)) (.Name y1 py1) (tC cv1)) (hy2 : PE (X.suite a ((a, oe) :: pn)) (.Name y2 py2) (tC cv2)) (ho : X.N[i]? = some x) (hv : Vis X.env.scope x) (hd : (x == ("__debug__" : Str)) = false := by decide) (hcd : (x == ("__classdict__" : Str)) = false := by decide) (hg : Gl X "isinstance" := by rfl)
    (he : starEach [.Name x p1, .Tuple [.Name y1 py1, .Name y2 py2] nt pt] X.env = (false, eval (.Name x p1) X.env) :: starEach [.Tuple [.Name y1 py1, .Name y2 py2] nt pt] X.env := by rfl) (he2 : starEach [.Tuple [.Name y1 py1, .Name y2 py2] nt pt] X.env = (false, eval (.Tuple [.Name y1 py1, .Name y2 py2] nt pt) X.env) :: starEach [] X.env := by rfl)
    (he3 : starEach [.Name y1 py1, .Name y2 py2] X.env = (false, eval (.Name y1 py1) X.env) :: starEach [.Name y2 py2] X.env := by rfl) (he4 : starEach [.Name y2 py2] X.env = (false, eval (.Name y2 py2) X.env) :: starEach [] X.env := by rfl)
    (hpl : (backTo pos (starEach [.Tuple [.Name y1 py1, .Name y2 py2] nt pt] X.env)).any (·.1) = false := by rfl) :
    PE (X.suite a ((a, oe) :: pn)) (.Call (.Name "isinstance" p) [.Name x p1, .Tuple [.Name y1 py1, .Name y2 py2] nt pt] [] pos) (tD X.K Tb W (dIsiE i bs a cls d)) :=
  (pe_callB (X := X.suite a ((a, oe) :: pn)) (call_isiE2 hz hf) hg B.isinstance boot_isinstance (pa_cons (pe_var ho hv hd hcd) (pa_cons (pe_tup (pa_cons hy1 (pa_cons hy2 pa_nil he4) he3)) pa_nil he2) he) (by decide) (by decide) he hpl).by fun σ H Q ⟨H0, O0, O, ρ, st, h⟩ => by
    unfold dIsiE at h
    split at h
    · rename_i ex heq
      obtain ⟨v, h1, rfl, hx1, hx2⟩ := st.slot i _ (exnOf_is heq)
      split at h
      · rename_i b hb
        obtain ⟨E, kb⟩ := hbs _ (lookup_mem hb)
        refine ⟨.ref a, h1, (by show 2 ≤ sizeLine; rw [sizeLine_eq]; decide), fun p hp => ⟨p, cv1, cv2, ex.cls, u1, u2, b, rfl, .inl (.of upd_same), hcv1, hcv2, hx1, E, kb, ?_, h (.bl b) _ (Ext.new hp) (.bl b)⟩⟩
        rcases hx2 with ⟨_, z⟩ | ⟨dd, fs, z1, z2, _⟩
        · exact .inl z
        · refine .inr ⟨dd, fs, z1, ?_⟩
          rw [upd_ne (fun w => by rw [w, hp] at z2; cases z2)]
          exact z2
      · exact h.elim
    · exact h.elim
/-- two classes of the program -/
theorem e_isiOO {i : Nat} {x y1 y2 : Str} {C1 C2 : Addr} {bs : List (Addr × Bool)} {p p1 py1 py2 pt pos : Pos} {nt : Nat} (hz : Zc cls d oe) (hf : ∃ vs, oe.data = .fields vs) (B : Bi X.mg) (hbs : ∀ q ∈ bs, ExcC X.K q.1 ∧ PySem.W.kitAny X.K (.ref q.1) [.ref C1, .ref C2] = some q.2) (gy1 : X.mg y1 = some (.ref C1)) (hgy1 : Gl X y1) (gy2 : X.mg y2 = some (.ref C2)) (hgy2 : Gl X y2)
    (ho : X.N[i]? = some x) (hv : Vis X.env.scope x) (hdy1 : (y1 == ("__debug__" : Str)) = false := by decide) (hdy2 : (y2 == ("__debug__" : Str)) = false := by decide) (hd : (x == ("__debug__" : Str)) = false := by decide) (hcd : (x == ("__classdict__" : Str)) = false := by decide) (hg : Gl X "isinstance" := by rfl)
    (he : starEach [.Name x p1, .Tuple [.Name y1 py1, .Name y2 py2] nt pt] X.env = (false, eval (.Name x p1) X.env) :: starEach [.Tuple [.Name y1 py1, .Name y2 py2] nt pt] X.env := by rfl) (he2 : starEach [.Tuple [.Name y1 py1, .Name y2 py2] nt pt] X.env = (false, eval (.Tuple [.Name y1 py1, .Name y2 py2] nt pt) X.env) :: starEach [] X.env := by rfl)
    (he3 : starEach [.Name y1 py1, .Name y2 py2] X.env = (false, eval (.Name y1 py1) X.env) :: starEach [.Name y2 py2] X.env := by rfl) (he4 : starEach [.Name y2 py2] X.env = (false, eval (.Name y2 py2) X.env) :: starEach [] X.env := by rfl)
    (hpl : (backTo pos (starEach [.Tuple [.Name y1 py1, .Name y2 py2] nt pt] X.env)).any (·.1) = false := by rfl) :
    PE (X.suite a ((a, oe) :: pn)) (.Call (.Name "isinstance" p) [.Name x p1, .Tuple [.Name y1 py1, .Name y2 py2] nt pt] [] pos) (tD X.K Tb W (dIsiE i bs a cls d)) :=
  e_isiE2 hz hf B hbs (.own C1) (.own C2) (pe_glob (X := X.suite a ((a, oe) :: pn)) hgy1 gy1 rfl hdy1) (pe_glob (X := X.suite a ((a, oe) :: pn)) hgy2 gy2 rfl hdy2) ho hv hd hcd hg he he2 he3 he4 hpl
end
end PD

set_option Elab.async false
set_option linter.all false
set_option maxRecDepth 100000
set_option maxHeartbeats 1000000
/-! # Own error classes with a field: `Base.__init__(self, 'text')` in their __init__ -/
namespace PD
open PySem PySem.Spec PySem.W PySem.Calls PyProof.Rows
/-- an error of class C with its args at t and no dict -/
abbrev errO (C t : Addr) : Obj := excRec (.ref C) t none .none .none (.bool false)
/-- what an error's class says of itself -/
abbrev ClsO (h : Heap) (C : Addr) : Prop := ∃ nm q N bs bm hdct sn sub ab col dd k0 k1 k2 k3 k5, h.get? C = some (excClassObj nm q C N bs bm hdct sn sub ab col dd k0 k1 k2 k3 k5 "ValueError.__new__")
theorem check_init {M : Model} {A : Around} {E : Value → Shared → Prop} {Q : Unit → Shared → Prop} {s : Shared} {x C : Addr} {o : Obj} {v : Value} (hC : ClsO s.heap C) (hx : s.heap.get? x = some o) (hc : o.cls = .ref C) (hi : Looks M s.heap (isInstance (.ref x) (.type "ValueError")) true) (q : Q () s) :
    wpAny M A (checkBuiltinCall "ValueError.__init__" ⟨[.ref x, v], []⟩) Q E s := by
  have F := PySem.F.excBase_ValueError
  have hshort := F.noStar
  obtain ⟨nm, qn, N, bs, bm, hdct, sn, sub, ab, col, dd, k0, k1, k2, k3, k5, hC⟩ := hC
  simp only [checkBuiltinCall, F.initKind, F.initSplit, F.initRow]
  refine wpAny_bind (hi.here ?_)
  obtain ⟨h, g, d, t, os⟩ := s
  repeat (first | (with_reducible refine wpAny_loadPart_at hx ?_; rw [hc]) | (with_reducible refine wpAny_loadPart_at hC ?_) | wp_step)
  exact q
/-- the built-in __init__ of ValueError, called with the new error and a text: only its args are laid anew -/
theorem base_init {prog : Program} {w : World} {A : Around} {E : Value → Shared → Prop} {Q : Value → Shared → Prop} {h : Heap} {g : Array GenState} {d : Drawn} {tk : Nat} {os : OsState} {C x t0 : Addr} {v : Value}
    (hC : ClsO h C) (hx : h.get? x = some (errO C t0)) (hi : Looks (model prog w) h (isInstance (.ref x) (.type "ValueError")) true)
    (hq : ∀ h', (∀ b o, b ≠ x → h.get? b = some o → h'.get? b = some o) → h'.get? x = some (errO C h.objs.size) → (∃ o, h'.get? h.objs.size = some o) → Q .none ⟨h', g, d, tk, os⟩) :
    wpAny (model prog w) A (call (.builtin "ValueError.__init__") [.ref x, v]) Q E ⟨h, g, d, tk, os⟩ := by
  refine wpAny_call (codeAny_call_builtin PySem.F.excBase_ValueError.init.plain PySem.F.excBase_ValueError.initEntry ?_)
  refine check_init hC hx rfl hi ?_
  refine exc_init_tree (e := x) (t0 := t0) (cls := .ref C) (dv := none) (c2 := .none) (c3 := .none) (b4 := .bool false) (rest := [v]) hx ?_ ?_
  · show 1 ≤ sizeLine
    rw [sizeLine_eq]
    decide
  · intro h' k e t
    exact hq h' k e ⟨_, t⟩
/-- it is read off a class of the program, as it stands -/
theorem init_of_class {prog : Program} {w : World} {A : Around} {E : Value → Shared → Prop} {Q : Value × List Value → Shared → Prop} {s : Shared} {K : Frag} {BC : Addr} {pl : Sem Bool} (X : K.In s.heap) (hg : specialIn K (.ref BC) "__getattribute__" = some (some (.builtin "type.__getattribute__")))
    (hr : readsIn K BC (.type "type") = true) (e : findCls K (.ref BC) (.type "type") "__init__" = some (.val (.builtin "ValueError.__init__"))) (h : Q (.builtin "ValueError.__init__", []) { s with toks := s.toks + 1 }) :
    wpAny (model prog w) A (getMethod (.ref BC) "__init__" pl) Q E s := method_cls X hg (cls_value X hr e rfl h)
end PD

set_option Elab.async false
set_option linter.all false
set_option maxRecDepth 100000
set_option maxHeartbeats 1000000
namespace PD
open PySem PySem.Spec PySem.W PySem.Calls PyProof.Rows
/-- o.name(e, ..), o a class of the program, name found as a built-in -/
theorem ev_cls_call {prog : Program} {w : World} {A : Around} {E : Value → Shared → Prop} {s : Shared} {env : Env} {o : Expr} {name : Str} {apos pos : Pos} {args : List Expr} {Q : Value → Shared → Prop}
    (hbase : attributeBase o name env (eval o env) = eval o env)
    (hfew : ((backTo pos (starEach args env)).all (fun x => !x.1) && (backToKw pos (keywordEach [] env)).all (fun x => x.1.isSome)
      && decide (args.length + ([] : List Keyword).length + (if ([] : List Keyword).isEmpty then 0 else 1) < 30)) = true)
    (hline : (apos.endLine == pos.line) = true)
    (h : wpAny (model prog w) A (eval o env) (fun ov s₁ => ∃ f : Value, ∀ pl, wpAny (model prog w) A (getMethod ov name pl) (fun r s₂ => r = (f, []) ∧ wpAny (model prog w) A (callWith pos f [] (backTo pos (starEach args env)) []) Q E s₂) E s₁) E s) :
    wpAny (model prog w) A (eval (.Call (.Attribute o name apos) args [] pos) env) Q E s := by
  rw [arm_eval_Call, hbase]
  refine wpAny_bind (wpAny_mono h (fun ov s₁ h₁ => ?_) fun _ _ e => e)
  obtain ⟨f, hm⟩ := h₁
  refine wpAny_bind (wpAny_standAt ?_)
  have hform : methodCallForm (args.length + ([] : List Keyword).length) (backTo pos (starEach args env)) (backToKw pos (keywordEach [] env)) = true := hfew
  have hpos : methodCallPos true o env apos pos = pure pos := by unfold methodCallPos; simp [hline]
  unfold methodCall
  rw [hform]
  refine wpAny_bind (wpAny_holding (wpAny_mono (hm _) (fun r s₂ hr => ?_) fun _ _ e => e))
  obtain ⟨rfl, hc⟩ := hr
  exact wpAny_bind (wpAny_of_eq hpos hc)
/-- Base.__init__(self, 'text'), as a statement -/
theorem base_stmt {prog : Program} {w : World} {A : Around} {E : Value → Shared → Prop} {s : Shared} {env : Env} {base sf : Str} {text : Str} {j : Nat} {p p1 p2 apos pos pos2 : Pos} {K : Frag} {BC C x t0 : Addr} {Q : Flow → Shared → Prop}
    (X : K.In s.heap) (hg : specialIn K (.ref BC) "__getattribute__" = some (some (.builtin "type.__getattribute__"))) (hr : readsIn K BC (.type "type") = true) (e : findCls K (.ref BC) (.type "type") "__init__" = some (.val (.builtin "ValueError.__init__")))
    (hC : ClsO s.heap C) (hx : s.heap.get? x = some (errO C t0)) (hi : Looks (model prog w) s.heap (isInstance (.ref x) (.type "ValueError")) true)
    (hB : ∀ {Q : Value → Shared → Prop} {s' : Shared}, s'.heap = s.heap → Q (.ref BC) s' → wpAny (model prog w) A (eval (.Name base p) env) Q E s')
    (hS : ∀ {Q : Value → Shared → Prop} {s' : Shared}, s'.heap = s.heap → Q (.ref x) s' → wpAny (model prog w) A (eval (.Name sf p1) env) Q E s')
    (hbase : attributeBase (.Name base p) "__init__" env (eval (.Name base p) env) = eval (.Name base p) env)
    (hfew : ((backTo pos (starEach [.Name sf p1, .Constant (.str text) j p2] env)).all (fun x => !x.1) && (backToKw pos (keywordEach [] env)).all (fun x => x.1.isSome)
      && decide (([.Name sf p1, .Constant (.str text) j p2] : List Expr).length + ([] : List Keyword).length + (if ([] : List Keyword).isEmpty then 0 else 1) < 30)) = true)
    (hline : (apos.endLine == pos.line) = true)
    (he : starEach [.Name sf p1, .Constant (.str text) j p2] env = (false, eval (.Name sf p1) env) :: starEach [.Constant (.str text) j p2] env)
    (he2 : starEach [.Constant (.str text) j p2] env = (false, eval (.Constant (.str text) j p2) env) :: starEach [] env)
    (hpl : (backTo pos (starEach [.Constant (.str text) j p2] env)).any (·.1) = false) (hint : interactive env = false) (hsw : swapsWith (.Call (.Attribute (.Name base p) "__init__" apos) [.Name sf p1, .Constant (.str text) j p2] [] pos) none pos2.line env = pure false)
    (hq : ∀ h' tk, (∀ b o, b ≠ x → s.heap.get? b = some o → h'.get? b = some o) → h'.get? x = some (errO C s.heap.objs.size) → (∃ o, h'.get? s.heap.objs.size = some o) → Q .next { s with heap := h', toks := tk }) :
    wpAny (model prog w) A (exec (.Expr (.Call (.Attribute (.Name base p) "__init__" apos) [.Name sf p1, .Constant (.str text) j p2] [] pos) pos2) env) Q E s := by
  obtain ⟨h, g, d, tk, os⟩ := s
  refine wpAny_Expr_any (ev_cls_call hbase hfew hline (hB rfl ⟨.builtin "ValueError.__init__", fun pl => init_of_class X hg hr e ⟨rfl, ?_⟩⟩)) hint hsw
  refine callWith_builtin1 (args_cons (hS rfl (args_cons (Constant_str (args_nil ?_)) he2)) he) he hpl
  exact base_init hC hx hi fun h' k1 k2 k3 => hq h' _ k1 k2 k3
/-- self.x = x, behind it -/
theorem store_stmt {prog : Program} {w : World} {A : Around} {E : Value → Shared → Prop} {s : Shared} {env : Env} {sf fld : Str} {p1 p2 apos pos : Pos} {K : Frag} {C x t0 : Addr} {cd : ClassData} {v : Value} {Q : Flow → Shared → Prop}
    (X : K.In s.heap) (hx : s.heap.get? x = some (errO C t0)) (hcd : clsIn K C = some cd) (hm : PySem.HandSPX.refsVE cd.mro = true) (hh : cd.hasDict = true) (ha : findIn K (.ref C) fld = some none)
    (hs : findIn K (.ref C) "__setattr__" = some (some (.builtin "object.__setattr__")))
    (hS : ∀ {Q : Value → Shared → Prop} {s' : Shared}, s'.heap = s.heap → Q (.ref x) s' → wpAny (model prog w) A (eval (.Name sf p1) env) Q E s')
    (hV : ∀ {Q : Value → Shared → Prop} {s' : Shared}, s'.heap = s.heap → Q v s' → wpAny (model prog w) A (eval (.Name fld p2) env) Q E s')
    (hsw : swapsWith (.Name fld p2) (some (.Attribute (.Name sf p1) fld apos)) pos.line env = pure false)
    (hq : ∀ h' tk dx, (∀ b o, b ≠ x → s.heap.get? b = some o → h'.get? b = some o) → s.heap.objs.size ≤ dx → dx ≠ x → h'.get? x = some { cls := .ref C, dict := some dx, data := (errO C t0).data } → h'.Ns1 dx (fun y => if y = fld then some v else none) → Q .next { s with heap := h', toks := tk }) :
    wpAny (model prog w) A (exec (.Assign [.Attribute (.Name sf p1) fld apos] (.Name fld p2) pos) env) Q E s := by
  obtain ⟨h, g, d, tk, os⟩ := s
  refine plainObj_wpAny_Assign_Attribute (hV rfl (hS rfl ?_)) hsw
  refine set_plain X (ox := errO C t0) (od := none) ⟨hx, rfl, rfl, trivial⟩ hs ?_
  exact PySem.HandSPX.exc_osa X hx hcd hm hh ha fun h' tk' dx k dn dne hx' hn => hq h' tk' dx k dn dne hx' hn
end PD

set_option Elab.async false
set_option linter.all false
set_option maxRecDepth 100000
set_option maxHeartbeats 1000000
namespace PD
open PySem PySem.Spec PySem.W PySem.Calls PyProof.Rows
/-- the text of `def __init__(self, fld): base.__init__(self, text); self.fld = fld` -/
def initArgs (fld : Str) (q1 q2 : Pos) : Arguments := { posonlyargs := [], args := [{ arg := "self", annotation := none, pos := q1 }, { arg := fld, annotation := none, pos := q2 }], vararg := none, kwonlyargs := [], kw_defaults := [], kwarg := none, defaults := [] }
/-- what the written part says of an error class with one field -/
structure ErrF (K : Frag) (C BC fI : Addr) (base fld : Str) : Prop where
  k : keepIn K (.ref C) = true
  b : subIn K (.ref C) (.type "BaseException") = some true
  v : subIn K (.ref C) (.type "ValueError") = some true
  t : typeIn K (.ref C) = some (.type "type")
  cls : ∃ nm q N bs bm sn sub ab col dd k0 k1 k2 k3 k5, K.lookup C = some (excClassObj nm q C N bs bm true sn sub ab col dd k0 k1 k2 k3 k5 "ValueError.__new__") ∧ PySem.HandSPX.refsVE bm = true
  noF : findIn K (.ref C) fld = some none
  sa : findIn K (.ref C) "__setattr__" = some (some (.builtin "object.__setattr__"))
  ini : findIn K (.ref C) "__init__" = some (some (.ref fI))
  fn : typeIn K (.ref fI) = some (.type "function")
  gB : specialIn K (.ref BC) "__getattribute__" = some (some (.builtin "type.__getattribute__"))
  rB : readsIn K BC (.type "type") = true
  iB : findCls K (.ref BC) (.type "type") "__init__" = some (.val (.builtin "ValueError.__init__"))
theorem fld_init {prog : Program} {w : World} {A : Around} {R : Result → Shared → Prop} {s : Shared} {K : Frag} {mg : Str → Option Value} {C BC fI x t0 : Addr} {base fld text qual : Str} {v : Value} {j : Nat} {p1 p2 p3 p4 p5 p6 p7 p8 p9 p10 : Pos} {ar : Arguments} {sc : Scope}
    {oc doc pm cdv ct : Value} {od an : Option Addr} {osl : Array (Option Value)} (T : ErrF K C BC fI base fld) (X : K.In s.heap) (G : s.heap.Ns mainGlobals mg) (gB : mg base = some (.ref BC)) (hlim : s.heap.NoLimit) (hx : s.heap.get? x = some (errO C t0)) (hnx : K.lookup x = none) (hxm : mainGlobals ≠ x) (hroom : A.depth < recursionLimit)
    (ho : K.lookup fI = some ⟨oc, od, .func (fnOf "__init__" qual ar [.Expr (.Call (.Attribute (.Name base p1) "__init__" p2) [.Name "self" p3, .Constant (.str text) j p4] [] p5) p6, .Assign [.Attribute (.Name "self" p7) fld p8] (.Name fld p9) p10] sc .none .none doc pm an cdv ct), osl⟩) (hcd : codeIn K cdv qual = true)
    (hbind : BindsTo s (fnOf "__init__" qual ar [.Expr (.Call (.Attribute (.Name base p1) "__init__" p2) [.Name "self" p3, .Constant (.str text) j p4] [] p5) p6, .Assign [.Attribute (.Name "self" p7) fld p8] (.Name fld p9) p10] sc .none .none doc pm an cdv ct) ⟨[.ref x, v], []⟩ [("self", .ref x), (fld, v)])
    (hkind : (([("self", .ref x), (fld, v)] : List (Str × Value)).all fun y => sc.names.lookup y.1 == some .local || sc.names.lookup y.1 == some .cell) = true)
    (hco : sc.isCoroutine = false) (hgen : sc.isGenerator = false) (hk : sc.kind = .function)
    (lS : ∀ L, (envOfC qual sc L fI cdv).kindOf "self" = some .local) (lF : ∀ L, (envOfC qual sc L fI cdv).kindOf fld = some .local) (lB : ∀ L, (envOfC qual sc L fI cdv).kindOf base = some .globalImplicit)
    (mS : ∀ L, bindL (envOfC qual sc L fI cdv).kindOf [("self", .ref x), (fld, v)] (fun _ => none) "self" = some (.ref x)) (mF : ∀ L, bindL (envOfC qual sc L fI cdv).kindOf [("self", .ref x), (fld, v)] (fun _ => none) fld = some v)
    (dF : (fld == ("__debug__" : Str)) = false) (dB : (base == ("__debug__" : Str)) = false)
    (hbase : ∀ env, attributeBase (.Name base p1) "__init__" env (eval (.Name base p1) env) = eval (.Name base p1) env) (hline : (p2.endLine == p5.line) = true)
    (hfew : ∀ env, ((backTo p5 (starEach [.Name "self" p3, .Constant (.str text) j p4] env)).all (fun x => !x.1) && (backToKw p5 (keywordEach [] env)).all (fun x => x.1.isSome)
      && decide (([.Name "self" p3, .Constant (.str text) j p4] : List Expr).length + ([] : List Keyword).length + (if ([] : List Keyword).isEmpty then 0 else 1) < 30)) = true)
    (he : ∀ env, starEach [.Name "self" p3, .Constant (.str text) j p4] env = (false, eval (.Name "self" p3) env) :: starEach [.Constant (.str text) j p4] env)
    (he2 : ∀ env, starEach [.Constant (.str text) j p4] env = (false, eval (.Constant (.str text) j p4) env) :: starEach [] env)
    (hpl : ∀ env, (backTo p5 (starEach [.Constant (.str text) j p4] env)).any (·.1) = false) (hint : ∀ L, interactive (envOfC qual sc L fI cdv) = false)
    (hsw : ∀ L, swapsWith (.Call (.Attribute (.Name base p1) "__init__" p2) [.Name "self" p3, .Constant (.str text) j p4] [] p5) none p6.line (envOfC qual sc L fI cdv) = pure false)
    (hsw2 : ∀ L, swapsWith (.Name fld p9) (some (.Attribute (.Name "self" p7) fld p8)) p10.line (envOfC qual sc L fI cdv) = pure false)
    (hq : ∀ h' tk dx t1, (∀ b o, b ≠ x → s.heap.get? b = some o → h'.get? b = some o) → s.heap.objs.size ≤ dx → dx ≠ x → h'.get? x = some { cls := .ref C, dict := some dx, data := (errO C t1).data } → h'.Ns1 dx (fun y => if y = fld then some v else none) → R (.ok (.ret .none)) { s with heap := h', toks := tk }) :
    codeAny (model prog w) A (.call (.ref fI) ⟨[.ref x, v], []⟩) R s := by
  obtain ⟨nm, q, N, bs, bm, sn, sub, ab, col, dd, k0, k1, k2, k3, k5, hC, hbm⟩ := T.cls
  have hcl : clsIn K C = some { name := nm, bases := bs, mro := .ref C :: bm, ns := N, qualname := q, hasDict := true, slotNames := sn, subclasses := sub, abstract := ab, collection := col, hasDel := false } := by unfold clsIn; rw [hC] <;> rfl
  refine Att.call_fn (binds := [("self", .ref x), (fld, v)]) X hlim ho hcd hroom hbind hkind (fun s₁ IC => ?_) hco hgen hk
  have hn := IC.toInCall.ns
  obtain ⟨h₁, tk₁, rfl, kp⟩ := IC.done
  have hxL : s.heap.objs.size ≠ x := Nat.ne_of_gt (Heap.lt_size hx)
  have X₁ : K.In h₁ := X.keeps kp
  have hx₁ := kp _ _ hx
  have C₁ : ClsO h₁ C := ⟨nm, q, N, bs, bm, true, sn, sub, ab, col, dd, k0, k1, k2, k3, k5, X₁ _ _ hC⟩
  have I₁ : InstAt h₁ x (errO C t0) C none := ⟨hx₁, rfl, rfl, trivial⟩
  have z : s.heap.objs.size < h₁.objs.size := hn.lt
  show wpAny _ _ (execs [_, _] _) _ _ _
  refine wpAny_execs_cons (base_stmt (s := { s with heap := h₁, toks := tk₁ }) X₁ T.gB T.rB T.iB C₁ hx₁ (I₁.type.andThen (looks_subIn X₁ T.v))
    (fun hh qq => Calls.Name_function_global hk (lB _) (Calls.loadGlobal_global (by rw [hh]; exact G.keeps kp) gB qq) dB)
    (fun hh qq => wpAny_Name (wpAny_loadName_local hk (lS _) (by rw [hh]; exact hn) (mS _) qq) (by decide))
    (hbase _) (hfew _) hline (he _) (he2 _) (hpl _) (hint _) (hsw _) fun h₂ tk₂ kp2 hx₂ _ => ?_)
  have X₂ : K.In h₂ := fun a o e => kp2 a o (fun w => by rw [w, hnx] at e; cases e) (X₁ a o e)
  have hn₂ := hn.at (h' := h₂) fun o e => kp2 _ _ hxL e
  refine wpAny_execs_cons (store_stmt (s := { s with heap := h₂, toks := tk₂ }) X₂ hx₂ hcl (show PySem.HandSPX.refsVE (.ref C :: bm) = true from hbm) rfl T.noF T.sa
    (fun hh qq => wpAny_Name (wpAny_loadName_local hk (lS _) (by rw [hh]; exact hn₂) (mS _) qq) (by decide))
    (fun hh qq => wpAny_Name (wpAny_loadName_local hk (lF _) (by rw [hh]; exact hn₂) (mF _) qq) dF)
    (hsw2 _) fun h₃ tk₃ dx kp3 dn dne hx₃ hn₃ => ?_)
  exact wpAny_execs_nil (hq h₃ tk₃ dx _ (fun b o hb e => kp3 b o hb (kp2 b o hb (kp b o e))) (Nat.le_of_lt (Nat.lt_of_lt_of_le hn₂.lt dn)) dne hx₃ hn₃)
end PD

set_option Elab.async false
set_option linter.all false
set_option maxRecDepth 100000
set_option maxHeartbeats 1000000
namespace PD
open PySem PySem.Spec PySem.W PySem.Calls PyProof.Rows
/-- what an error's __init__ leaves: the error has a new dict, whose only entry is the field -/
structure InitEnd (h h' : Heap) (x C : Addr) (fld : Str) (v : Value) (dx t1 : Addr) : Prop where
  keep : ∀ b o, b ≠ x → h.get? b = some o → h'.get? b = some o
  big : h.objs.size ≤ dx
  ne : dx ≠ x
  obj : h'.get? x = some { cls := .ref C, dict := some dx, data := (errO C t1).data }
  ns : h'.Ns1 dx (fun y => if y = fld then some v else none)
/-- an error class with one field: its facts, and its __init__ runs -/
structure ErrC (K : Frag) (mg : Str → Option Value) (C BC fI : Addr) (base fld : Str) : Prop extends ErrF K C BC fI base fld where
  run : ∀ {prog : Program} {w : World} {A : Around} {R : Result → Shared → Prop} {s : Shared} {x t0 : Addr} {v : Value}, K.In s.heap → s.heap.Ns mainGlobals mg → s.heap.NoLimit → s.heap.get? x = some (errO C t0) → K.lookup x = none → mainGlobals ≠ x → A.depth < recursionLimit →
    (∀ h' tk dx t1, InitEnd s.heap h' x C fld v dx t1 → R (.ok (.ret .none)) { s with heap := h', toks := tk }) → codeAny (model prog w) A (.call (.ref fI) ⟨[.ref x, v], []⟩) R s
/-- a made error -/
structure ErrMade (h h' : Heap) (C : Addr) (fld : Str) (v : Value) (e d : Addr) : Prop where
  keep : ∀ b o, h.get? b = some o → h'.get? b = some o
  new : h.objs.size ≤ e
  obj : ∃ oe vs, h'.get? e = some oe ∧ oe.cls = .ref C ∧ oe.dict = some d ∧ oe.data = .fields vs ∧ vs[1]? = some .none ∧ vs[2]? = some .none
  big : h.objs.size ≤ d
  ne : d ≠ e
  ns : h'.Ns1 d (fun y => if y = fld then some v else none)
theorem err_made {prog : Program} {w : World} {A : Around} {R : Result → Shared → Prop} {s : Shared} {K : Frag} {mg : Str → Option Value} {C BC fI : Addr} {base fld : Str} {v : Value} (T : ErrC K mg C BC fI base fld) (X : K.In s.heap) (G : s.heap.Ns mainGlobals mg) (hlim : s.heap.NoLimit) (hroom : A.depth + 1 < recursionLimit)
    (hq : ∀ h' tk e d, ErrMade s.heap h' C fld v e d → R (.ok (.ret (.ref e))) { s with heap := h', toks := tk }) : codeAny (model prog w) A (.call (.ref C) ⟨[v], []⟩) R s := by
  obtain ⟨nm, q, N, bs, bm, sn, sub, ab, col, dd, k0, k1, k2, k3, k5, hC, hbm⟩ := T.cls
  obtain ⟨hp, g, dr, tk, os⟩ := s
  have old : ∀ b o, hp.get? b = some o → ((hp.push (kdv_tup [v])).push (errO C hp.objs.size)).get? b = some o := fun b o e => Heap.get?_push_of_some _ (Heap.get?_push_of_some _ e)
  have at1 : ((hp.push (kdv_tup [v])).push (errO C hp.objs.size)).get? (hp.objs.size + 1) = some (errO C hp.objs.size) := by heap_get
  have out : K.lookup (hp.objs.size + 1) = none := by
    cases e : K.lookup (hp.objs.size + 1) with
    | none => rfl
    | some o =>
      exact absurd (Nat.lt_of_succ_lt (Heap.lt_size (X _ _ e : hp.get? (hp.objs.size + 1) = some o))) (Nat.lt_irrefl _)
  have mg1 : mainGlobals ≠ hp.objs.size + 1 := fun e => by
    have this : mainGlobals < hp.objs.size := G.lt
    rw [e] at this
    exact absurd (Nat.lt_of_succ_lt this) (Nat.lt_irrefl _)
  refine PySem.HandSPX.call_own PySem.F.excBase_ValueError (fun X => PySem.HandSPX.refsVE_contains X bm hbm) (X _ _ hC) (looks_findIn X T.ini) (fun self => PySem.W.bind_fn X self T.fn) (by show 1 ≤ sizeLine; rw [sizeLine_eq]; decide) ?_
  refine T.run (s := ⟨(hp.push (kdv_tup [v])).push (errO C hp.objs.size), g, dr, tk, os⟩) (X.keeps old) (G.keeps old) (hlim.keeps old) at1 out mg1 hroom fun h' tk' dx t1 Z => ?_
  have z : hp.objs.size + 1 + 1 ≤ dx := by
    have := Z.big
    rw [Heap.size_push, Heap.size_push] at this
    exact this
  refine ⟨rfl, hq h' tk' (hp.objs.size + 1) dx ⟨fun b o e => Z.keep b o (Nat.ne_of_lt (Nat.lt_succ_of_lt (Heap.lt_size e))) (old b o e), Nat.le_succ _, ⟨_, _, Z.obj, rfl, rfl, rfl, rfl, rfl⟩, Nat.le_trans (Nat.le_trans (Nat.le_succ _) (Nat.le_succ _)) z, Z.ne, Z.ns⟩⟩
end PD

set_option Elab.async false
set_option linter.all false
set_option maxRecDepth 100000
set_option maxHeartbeats 1000000
namespace PD
open PySem PySem.Spec PyProof.Rows L2
/-! ### raise C(e) -/
theorem fld_rel {v : V} {v' : Value} {fld : Str} (r : RelV v v') (f : Str) : RelO (List.lookup f [(fld, v)]) (if f = fld then some v' else none) := by
  have q : List.lookup f [(fld, v)] = if f = fld then some v else none := by
    rw [List.lookup_cons]
    by_cases h : f = fld
    · rw [if_pos h, h, beq_self_eq_true]
    · rw [if_neg h, beq_eq_false_iff_ne.mpr h]
      rfl
  rw [q]
  split
  · exact r
  · trivial
def tMkE (C : Addr) (fld : Str) (te : TE) : L2.St → Hp → XK → Prop := fun σ H Q => te σ H fun v H1 => ∀ d, H1 d = none → Q (.ref C) (some d) (upd H1 d (.xd [(fld, v)]))
theorem pmk_err {X : Cx} {C BC fI : Addr} {base fld nmC : Str} {a : Expr} {te : TE} {p pos : Pos} {k : Nat} (T : ErrC X.K X.mg C BC fI base fld) (gC : X.mg nmC = some (.ref C)) (hr : Room k X.A) (ha : PE X a te) (hg : Gl X nmC) (hdb : (nmC == ("__debug__" : Str)) = false)
    (he : starEach [a] X.env = (false, eval a X.env) :: starEach [] X.env := by rfl) (hpl : (backTo pos (starEach [] X.env)).any (·.1) = false := by rfl) :
    L2N.PMk X (.Call (.Name nmC p) [a] [] pos) (tMkE C fld te) := by
  intro pins s σ H Q I h
  refine wpAny_Call_Name_kw (ld_glob I hg gC ?_ hdb)
  refine PySem.W.callWith_K (h₀ := X.base) I.ok.mod.kin T.k (args_cons (thn (ha.run pins s σ H _ I h) fun u s1 hh => args_nil ?_) he) he hpl
  obtain ⟨v, H1, I1, rv, q1⟩ := hh
  refine ⟨I1.kIn, ?_⟩
  show wpAny _ _ (call (.ref C) [u]) _ _ _
  have hlim := I1.nolimit
  have G : s1.heap.Ns mainGlobals X.mg := I1.mod.glob.keeps I1.bk
  obtain ⟨hp, g, dr, tk, os⟩ := s1
  refine wpAny_call (err_made T I1.kIn G hlim (by have := hr.dp; omega) fun h' tk' e d M => ?_)
  show L2N.MkP X pins σ Q (.ref e) ⟨h', g, dr, tk', os⟩
  obtain ⟨oe, fv, hoe, hc, hd, hdat, h1, h2⟩ := M.obj
  obtain ⟨G', g1, g2⟩ := restrict h' fun b => decide (b ≠ e)
  have gk : ∀ b, b ≠ e → G'.get? b = h'.get? b := fun b hb => g1 b (decide_eq_true hb)
  have ge : G'.get? e = none := g2 e (by simp)
  have old : ∀ b o, hp.get? b = some o → G'.get? b = some o := fun b o q => (gk b (Nat.ne_of_lt (Nat.lt_of_lt_of_le (Heap.lt_size q) M.new))).trans (M.keep b o q)
  have ob : ObjOk X.prog X.w (upd H1 d (.xd [(fld, v)])) G' d (.xd [(fld, v)]) := ⟨_, M.ns.at (fun o q => (gk d M.ne).trans q), fun f => fld_rel rv f⟩
  have J : Inv X pins σ (upd H1 d (.xd [(fld, v)])) ⟨G', g, dr, tk', os⟩ := I1.laid (t' := tk') old M.big ob
  refine ⟨e, oe, fv, ⟨G', g, dr, tk', os⟩, _, .ref C, some d, rfl, J, fun b o q => ?_, ge, hoe, ⟨hc, hd, fun vs' e' => by rw [hdat] at e'; cases e'; exact h2⟩, hdat, h1, ?_, rfl, I1.bare, raises_own T.b T.t, q1 d (I1.hok.fresh M.big)⟩
  · by_cases hb : b = e
    · have q' : G'.get? b = some o := q
      rw [hb, ge] at q'
      cases q'
    · exact (gk b hb).symm.trans q
  · rw [upd_ne (Ne.symm M.ne)]
    exact I1.hok.fresh M.new
/-- raise C(e), in data -/
def gRaise1 (C : Addr) (fld : Str) (f : Dn) : Sn := fun ρ => oR (f ρ) ρ fun d => .exc ⟨C, [(fld, d)]⟩ ρ
theorem fs_raise1 {X : Cx} {Tb : List Addr} {W : WX} {C BC fI : Addr} {base fld nmC : Str} {a : Expr} {f : Dn} {p pos pos2 : Pos} {k : Nat} (hc : X.calm = true) (tk : L2N.Takes X W) (T : ErrC X.K X.mg C BC fI base fld) (gC : X.mg nmC = some (.ref C)) (hr : Room k X.A) (ha : PE X a (tD X.K Tb W f)) (hg : Gl X nmC) (hdb : (nmC == ("__debug__" : Str)) = false := by decide)
    (he : starEach [a] X.env = (false, eval a X.env) :: starEach [] X.env := by rfl) (hpl : (backTo pos (starEach [] X.env)).any (·.1) = false := by rfl) :
    PS X (.Raise (some (.Call (.Name nmC p) [a] [] pos)) none pos2) (tS X.K Tb W (gRaise1 C fld f)) :=
  (L2N.ps_raise hc tk (pmk_err T gC hr ha hg hdb he hpl)).by fun D σ H ⟨H0, O0, O, ρ, st, h⟩ => by
    refine ⟨H0, O0, O, ρ, st, oR_post st h fun d v H1 ex rv k => fun dd hdd => ?_⟩
    have e2 := Ext.new (o := .xd [(fld, v)]) hdd
    refine k O σ _ (.ref C) (some dd) ((st.step ex).step e2) ⟨rfl, .inr ⟨dd, [(fld, v)], rfl, upd_same, rfl, ?_⟩⟩
    exact .cons (rv.mono (Sub.hide e2.keep)) .nil
end PD

set_option Elab.async false
set_option linter.all false
set_option maxRecDepth 100000
set_option maxHeartbeats 1000000
namespace PD
open PySem PySem.Spec PyProof.Rows L2
/-! ### e.x, e the exception that the suite holds -/
/-- what the written part says of a class for the reading of its field -/
structure ErrG (K : PySem.W.Frag) (C : Addr) (fld : Str) : Prop where
  ga : PySem.W.findIn K (.ref C) "__getattribute__" = some (some (.builtin "BaseException.__getattribute__"))
  gt : PySem.W.findIn K (.ref C) "__getattr__" = some none
  b : PySem.W.subIn K (.ref C) (.type "BaseException") = some true
  hd : PySem.W.hasDictIn K C = true
  no : PySem.W.findIn K (.ref C) fld = some none
noncomputable def dFld (i : Nat) (cs : List Addr) (fld : Str) (a : Addr) (c : Value) (d : Option Addr) : Dn := fun ρ => match exnOf ρ i a c d with
  | some e => if e.cls ∈ cs then (match e.fs.lookup fld with | some y => .ok y | none => .bad) else .bad
  | none => .bad
theorem lookup_rel {K : PySem.W.Frag} {G : Hp} {fld : Str} : ∀ {fs : List (Str × V)} {gs : List (Str × PyData)} {y : PyData}, fs.map (·.1) = gs.map (·.1) → RpAll K G (fs.map (·.2)) (gs.map (·.2)) → gs.lookup fld = some y → ∃ v, fs.lookup fld = some v ∧ Rp K G v y
  | [], [], y, _, _, h => by cases h
  | [], _ :: _, _, h, _, _ => by cases h
  | _ :: _, [], _, h, _, _ => by cases h
  | (n, v) :: fs, (m, z) :: gs, y, h, r, e => by
    rw [List.map_cons, List.map_cons] at h r
    injection h with h1 h2
    have h1 : n = m := h1
    subst h1
    cases r with
    | cons r0 rr =>
      rw [List.lookup_cons] at e ⊢
      cases q : fld == n with
      | true =>
        rw [q] at e
        cases e
        exact ⟨v, rfl, r0⟩
      | false =>
        rw [q] at e
        exact lookup_rel h2 rr e
theorem e_fld {X : Cx} {Tb : List Addr} {W : WX} {a : Addr} {oe : Obj} {cls : Value} {d : Option Addr} {pn : List (Addr × Obj)} {i : Nat} {cs : List Addr} {x fld : Str} {p1 pos : Pos} (hz : Zc cls d oe) (hf : ∃ vs, oe.data = .fields vs) (hT : ∀ C ∈ cs, ErrG X.K C fld)
    (ho : X.N[i]? = some x) (hv : Vis X.env.scope x) (hd : (x == ("__debug__" : Str)) = false := by decide) (hcd : (x == ("__classdict__" : Str)) = false := by decide)
    (hb : attributeBase (.Name x p1) fld X.env (eval (.Name x p1) X.env) = eval (.Name x p1) X.env := by rfl) :
    PE (X.suite a ((a, oe) :: pn)) (.Attribute (.Name x p1) fld pos) (tD X.K Tb W (dFld i cs fld a cls d)) := by
  refine ⟨fun pins s σ H Q I h => ?_⟩
  obtain ⟨H0, O0, O, ρ, st, h⟩ := h
  unfold dFld at h
  split at h
  · rename_i ex heq
    split at h
    · rename_i hcs
      split at h
      · rename_i y hy
        obtain ⟨u0, h1, rfl, hx1, hx2⟩ := st.slot i _ (exnOf_is heq)
        have T := hT _ hcs
        refine attr_of hb (thn ((pe_var (X := X.suite a ((a, oe) :: pn)) ho hv hd hcd).run pins s σ H (fun v H1 => v = .ref a ∧ H1 = H) I ⟨_, h1, rfl, rfl⟩) fun u s1 hh => ?_)
        obtain ⟨xv, H1, I1, rx, ex1, rfl⟩ := hh
        subst ex1
        obtain rfl : u = Value.ref a := rx
        rcases hx2 with ⟨e0, _⟩ | ⟨dd, fs, rfl, hdd, hk, hr⟩
        · rw [e0] at hy; cases hy
        · obtain ⟨v, hv1, rv⟩ := lookup_rel hk hr hy
          obtain ⟨ha, _⟩ := I1.pin (a, oe) (List.mem_append_left _ List.mem_cons_self)
          obtain ⟨vs, hdat⟩ := hf
          have hob : ObjOk X.prog X.w H1 s1.heap dd (.xd fs) := I1.hok dd _ hdd
          obtain ⟨mA, hns, hrel⟩ := hob
          obtain ⟨od, hod, hl⟩ := lookIn_ns hns
          obtain ⟨u2, hu, ru⟩ := RelO.some_of (v := v) (o := mA fld) (by rw [← hv1]; exact hrel fld)
          have J : PySem.W.InstAt s1.heap a oe ex.cls (some od) := ⟨ha, by rw [hz.1]; exact hx1, by unfold PySem.W.notCls; rw [hdat] <;> rfl, by rw [hz.2]; exact hod⟩
          exact PySem.HandSPX.exc_get I1.kIn J T.ga T.gt T.b (PySem.W.findObj_own T.hd T.no rfl (by rw [hl, hu])) (handed_of ru) ⟨v, H1, I1.tok _, ru, h v H1 (Ext.refl H1) rv⟩
      · exact h.elim
    · exact h.elim
  · exact h.elim
end PD

set_option Elab.async false
set_option linter.all false
set_option maxRecDepth 100000
set_option maxHeartbeats 1000000
namespace PD
open PySem PySem.Spec PyProof.Rows L2
/-- an error class with one field, whatever its base and its __init__ -/
def ErrX (K : PySem.W.Frag) (mg : Str → Option Value) (C : Addr) (fld : Str) : Prop := ∃ (BC fI : Addr) (base : Str), ErrC K mg C BC fI base fld
theorem fs_raiseX {X : Cx} {Tb : List Addr} {W : WX} {C : Addr} {fld nmC : Str} {a : Expr} {f : Dn} {p pos pos2 : Pos} {k : Nat} (hc : X.calm = true) (tk : L2N.Takes X W) (T : ErrX X.K X.mg C fld) (gC : X.mg nmC = some (.ref C)) (hr : Room k X.A) (ha : PE X a (tD X.K Tb W f)) (hg : Gl X nmC) (hdb : (nmC == ("__debug__" : Str)) = false := by decide)
    (he : starEach [a] X.env = (false, eval a X.env) :: starEach [] X.env := by rfl) (hpl : (backTo pos (starEach [] X.env)).any (·.1) = false := by rfl) :
    PS X (.Raise (some (.Call (.Name nmC p) [a] [] pos)) none pos2) (tS X.K Tb W (gRaise1 C fld f)) := by
  obtain ⟨BC, fI, base, T⟩ := T
  exact fs_raise1 hc tk T gC hr ha hg hdb he hpl
end PD

set_option Elab.async false
set_option linter.all false
set_option maxRecDepth 100000
set_option maxHeartbeats 1000000
/-! # Calls of defs from an except suite -/
namespace PD
open PySem PySem.Spec PyProof.Rows L2 HotX L2H
section
variable {P : Program} {w : World} {K : PySem.W.Frag} {mg : Str → Option Value} {base : Heap} {Tb : List Addr}
/-- a def, by its body, where an exception is being handled -/
theorem fn_okH {x qual : Str} {st : Stmt} {f : Addr} {fd : FuncData} {N ps : List Str} {k : Nat} {g : Sn} (F : Fun K x qual st f fd) (S : FnScope N ps (defScope st))
    (hb : ∀ (cdv : Value) (A : Around) (outer : List Env) (s : Shared) (H : Hp) (E : XK) (p : Addr × Obj), Hot1 A p → RoomH k (A.deeper (envOfC qual (defScope st) s.heap.objs.size f cdv)) →
      PSs (cxH (L2N.CX P w) P w K mg base N qual (defScope st) f cdv A outer s H E p) (defBody st) (tS K Tb (WE E) g)) :
    FnH P w K mg base (L2N.CX P w) (k + 1) f fd ps (spD K Tb (runD N.length ps.length g)) := by
  obtain ⟨oc, od, kV, doc, pm, an, cdv, ct, osl, rfl, lk, hcd⟩ := F.ex
  refine fn_ofH lk hcd S (fun vs H Q E h => ?_) fun A outer s H vs Q E p hot hr h => ⟨_, hb cdv A outer s H E p hot hr, ?_⟩
  · obtain ⟨O, ds, al, tb, r, h⟩ := h
    unfold runD at h
    split at h
    · rename_i e
      rw [r.length]; exact e
    · exact h.elim
  · obtain ⟨O, ds, al, tb, r, h⟩ := h
    unfold runD at h
    split at h
    · rename_i e
      have st := St0.init (N.length - ds.length) al tb r
      refine ⟨H, O, O, startR N.length ds, ?_, ?_⟩
      · unfold L2.start startR
        rw [r.length]
        exact st
      · cases q : g (startR N.length ds) with
        | nx ρ => rw [q] at h; exact fun O' σ' H' st' => h .non H' st'.ext .non
        | rt d => rw [q] at h; exact fun v H' e' r' => h v H' e' r'
        | exc x ρ => rw [q] at h; exact fun O' σ' H' c d st' ex => h c d H' st'.ext (by
            obtain ⟨h1, h2⟩ := ex
            refine ⟨h1, ?_⟩
            rcases h2 with h2 | ⟨dd, fs, h3, h4, h5, h6⟩
            · exact .inl h2
            · exact .inr ⟨dd, fs, h3, h4, h5, h6.mono (Sub.less st'.sub)⟩)
        | bk ρ => rw [q] at h; exact h.elim
        | ct ρ => rw [q] at h; exact h.elim
        | bad => rw [q] at h; exact h.elim
    · exact h.elim
/-- what a def of the program promises where an exception is being handled -/
def FnDH (P : Program) (w : World) (K : PySem.W.Frag) (mg : Str → Option Value) (base : Heap) (Tb : List Addr) (x : Str) (k : Nat) (m : List PyData → R PyData) : Prop :=
  ∃ (f : Addr) (fd : FuncData) (ps : List Str), FnH P w K mg base (L2N.CX P w) k f fd ps (spD K Tb m) ∧ mg x = some (.ref f) ∧ PySem.W.keepIn K (.ref f) = true ∧ Binds K fd ps []
end
end PD
namespace PD
open PySem PySem.Spec PyProof.Rows L2 HotX L2H
section
variable {X : Cx} {Tb : List Addr} {W : WX} {k j : Nat} {m : List PyData → R PyData} {x : Str} {p pos : Pos} {e : Expr} {es : List Expr} {gl : DnL}
theorem e_callH (F : FnDH X.prog X.w X.K X.mg X.base Tb x k m) (hx : ∀ σ, PassesAt (L2N.CX X.prog X.w) X σ (L2.WE W σ)) (hr : RoomH j X.A) (hc : HotC X) (ha : PA X (e :: es) (tDs X.K Tb W gl)) (hj : k ≤ j := by decide) (hg : Gl X x := by rfl)
    (hdb : (x == ("__debug__" : Str)) = false := by decide) (he : starEach (e :: es) X.env = (false, eval e X.env) :: starEach es X.env := by rfl) (hpl : (backTo pos (starEach es X.env)).any (·.1) = false := by rfl) :
    PE X (.Call (.Name x p) (e :: es) [] pos) (tD X.K Tb W (dArg m gl)) := by
  obtain ⟨f, fd, ps, h, g, kp, b⟩ := F
  exact (pe_callH h (hr.mono hj) hc hg g kp b hx ha hdb he hpl).by fun σ H Q ⟨H0, O0, O, ρ, st, h⟩ => ⟨H0, O0, O, ρ, st, by
    refine Post.then h fun ds vs H1 ex r k => ?_
    exact ⟨O, ds, (st.step ex).al, (st.step ex).tab, r, k⟩⟩
end
end PD

set_option Elab.async false
set_option linter.all false
set_option maxRecDepth 100000
set_option maxHeartbeats 1000000
/-! # In a suite: defs of the program are called, isinstance(e, (X, Y, Z)) -/
namespace PD
open PySem PySem.Spec PyProof.Rows L2 HotX L2H
section
variable {X : Cx} {a : Addr} {oe : Obj} {cls : Value} {d : Option Addr} {pn : List (Addr × Obj)} {k : Nat}
theorem hotC_suite (hz : L2N.Zn cls d oe) (hf : ∃ vs, oe.data = .fields vs) : HotC (X.suite a ((a, oe) :: pn)) := by
  obtain ⟨vs, e⟩ := hf
  exact ⟨(a, oe), ⟨rfl, vs, e, hz.2.2 vs e⟩, List.mem_cons_self⟩
theorem roomH_suite (r : Room k X.A) : RoomH k (X.suite a ((a, oe) :: pn)).A := ⟨r.dp, r.un⟩
end
theorem kit_any3 {K : PySem.W.Frag} {t u1 u2 u3 : Value} {b1 b2 b3 : Bool} (h1 : PySem.W.kitOne K t u1 = some b1) (h2 : PySem.W.kitOne K t u2 = some b2) (h3 : PySem.W.kitOne K t u3 = some b3) : PySem.W.kitAny K t [u1, u2, u3] = some (b1 || (b2 || b3)) := by
  have e := kit_any2 h2 h3
  unfold PySem.W.kitAny
  rw [h1]
  cases b1 with
  | true => rfl
  | false =>
    show PySem.W.kitAny K t [u2, u3] = _
    rw [e]; rfl
def rIsiE3 (K : PySem.W.Frag) (a : Addr) (cls : Value) (d : Option Addr) : List V → Hp → VK → Prop := fun xs H Q => ∃ (tp : Addr) (c1 c2 c3 : V) (C : Addr) (u1 u2 u3 : Value) (b : Bool), xs = [.ref a, .ref tp] ∧ SqT K H tp [c1, c2, c3] ∧ ClsV c1 u1 ∧ ClsV c2 u2 ∧ ClsV c3 u3 ∧ cls = .ref C ∧ ExcC K C ∧ PySem.W.kitAny K (.ref C) [u1, u2, u3] = some b ∧ (d = none ∨ ∃ dd fs, d = some dd ∧ H dd = some (.xd fs)) ∧ Q (.bl b) H
section
variable {X : Cx} {Tb : List Addr} {W : WX} {a : Addr} {oe : Obj} {cls : Value} {d : Option Addr} {pn : List (Addr × Obj)}
theorem vals3' {a b c : V} {us : List Value} (r : Vals [a, b, c] us) : ∃ u1 u2 u3, us = [u1, u2, u3] ∧ RelV a u1 ∧ RelV b u2 ∧ RelV c u3 := by
  cases r with
  | cons r1 r =>
    cases r with
    | cons r2 r =>
      cases r with
      | cons r3 r =>
        cases r
        exact ⟨_, _, _, rfl, r1, r2, r3⟩
theorem call_isiE3 (hz : Zc cls d oe) (hf : ∃ vs, oe.data = .fields vs) : CallR (X.suite a ((a, oe) :: pn)) (.builtin "isinstance") (rIsiE3 X.K a cls d) := by
  intro pins s σ H xs us Q I r h
  obtain ⟨tp, c1, c2, c3, C, w1, w2, w3, b, rfl, hT, k1, k2, k3, rfl, E, e, hd, q⟩ := h
  obtain ⟨u1, u2, rfl, r1, r2⟩ := vals2 r
  cases (show u1 = Value.ref a from r1)
  cases (show u2 = Value.ref tp from r2)
  obtain ⟨its, rv, ⟨o, g, gc, n, gd⟩, _⟩ := I.tuple hT
  obtain ⟨i1, i2, i3, rfl, s1, s2, s3⟩ := vals3' rv
  cases k1.eq s1
  cases k2.eq s2
  cases k3.eq s3
  obtain ⟨oc, odd, odt, osl⟩ := o
  dsimp only at gc gd
  subst gc gd
  obtain ⟨ha, _⟩ := I.pin (a, oe) (List.mem_append_left _ List.mem_cons_self)
  obtain ⟨vs, hdat⟩ := hf
  have J : ∃ od, PySem.W.InstAt s.heap a oe C od := by
    rcases hd with rfl | ⟨dd, fs, rfl, hdd⟩
    · exact ⟨none, ha, hz.1, by unfold PySem.W.notCls; rw [hdat] <;> rfl, by rw [hz.2]; trivial⟩
    · have hx : ObjOk X.prog X.w H s.heap dd (.xd fs) := I.hok dd _ hdd
      obtain ⟨mA, hns, hr⟩ := hx
      obtain ⟨od, ho, hl⟩ := lookIn_ns hns
      exact ⟨some od, ha, hz.1, by unfold PySem.W.notCls; rw [hdat] <;> rfl, by rw [hz.2]; exact ho⟩
  obtain ⟨od, J⟩ := J
  exact PySem.W.kia_tup (PySem.W.kitx_exc E.cl E.ga E.gt E.b E.ca E.sp E.tk E.mo) I.kIn J g e (fun z => nomatch z) fun tk => ⟨.bl b, H, I.tok tk, rfl, q⟩
theorem e_isiE3 {i : Nat} {x y1 y2 y3 : Str} {u1 u2 u3 : Value} {cv1 cv2 cv3 : V} {bs : List (Addr × Bool)} {p p1 py1 py2 py3 pt pos : Pos} {nt : Nat} (hz : Zc cls d oe) (hf : ∃ vs, oe.data = .fields vs) (B : Bi X.mg) (hbs : ∀ q ∈ bs, ExcC X.K q.1 ∧ PySem.W.kitAny X.K (.ref q.1) [u1, u2, u3] = some q.2) (hcv1 : ClsV cv1 u1) (hcv2 : ClsV cv2 u2) (hcv3 : ClsV cv3 u3)
    (hy1 : PE (X.suite a ((a, oe) :: pn)) (.Name y1 py1) (tC cv1)) (hy2 : PE (X.suite a ((a, oe) :: pn)) (.Name y2 py2) (tC cv2)) (hy3 : PE (X.suite a ((a, oe) :: pn)) (.Name y3 py3) (tC cv3)) (ho : X.N[i]? = some x) (hv : Vis X.env.scope x) (hd : (x == ("__debug__" : Str)) = false := by decide) (hcd : (x == ("__classdict__" : Str)) = false := by decide) (hg : Gl X "isinstance" := by rfl)
    (he : starEach [.Name x p1, .Tuple [.Name y1 py1, .Name y2 py2, .Name y3 py3] nt pt] X.env = (false, eval (.Name x p1) X.env) :: starEach [.Tuple [.Name y1 py1, .Name y2 py2, .Name y3 py3] nt pt] X.env := by rfl) (he2 : starEach [.Tuple [.Name y1 py1, .Name y2 py2, .Name y3 py3] nt pt] X.env = (false, eval (.Tuple [.Name y1 py1, .Name y2 py2, .Name y3 py3] nt pt) X.env) :: starEach [] X.env := by rfl)
    (he3 : starEach [.Name y1 py1, .Name y2 py2, .Name y3 py3] X.env = (false, eval (.Name y1 py1) X.env) :: starEach [.Name y2 py2, .Name y3 py3] X.env := by rfl) (he4 : starEach [.Name y2 py2, .Name y3 py3] X.env = (false, eval (.Name y2 py2) X.env) :: starEach [.Name y3 py3] X.env := by rfl) (he5 : starEach [.Name y3 py3] X.env = (false, eval (.Name y3 py3) X.env) :: starEach [] X.env := by rfl)
    (hpl : (backTo pos (starEach [.Tuple [.Name y1 py1, .Name y2 py2, .Name y3 py3] nt pt] X.env)).any (·.1) = false := by rfl) :
    PE (X.suite a ((a, oe) :: pn)) (.Call (.Name "isinstance" p) [.Name x p1, .Tuple [.Name y1 py1, .Name y2 py2, .Name y3 py3] nt pt] [] pos) (tD X.K Tb W (dIsiE i bs a cls d)) :=
  (pe_callB (X := X.suite a ((a, oe) :: pn)) (call_isiE3 hz hf) hg B.isinstance boot_isinstance (pa_cons (pe_var ho hv hd hcd) (pa_cons (pe_tup (pa_cons hy1 (pa_cons hy2 (pa_cons hy3 pa_nil he5) he4) he3)) pa_nil he2) he) (by decide) (by decide) he hpl).by fun σ H Q ⟨H0, O0, O, ρ, st, h⟩ => by
    unfold dIsiE at h
    split at h
    · rename_i ex heq
      obtain ⟨v, h1, rfl, hx1, hx2⟩ := st.slot i _ (exnOf_is heq)
      split at h
      · rename_i b hb
        obtain ⟨E, kb⟩ := hbs _ (lookup_mem hb)
        refine ⟨.ref a, h1, (by show 3 ≤ sizeLine; rw [sizeLine_eq]; decide), fun p hp => ⟨p, cv1, cv2, cv3, ex.cls, u1, u2, u3, b, rfl, .inl (.of upd_same), hcv1, hcv2, hcv3, hx1, E, kb, ?_, h (.bl b) _ (Ext.new hp) (.bl b)⟩⟩
        rcases hx2 with ⟨_, z⟩ | ⟨dd, fs, z1, z2, _⟩
        · exact .inl z
        · refine .inr ⟨dd, fs, z1, ?_⟩
          rw [upd_ne (fun w => by rw [w, hp] at z2; cases z2)]
          exact z2
      · exact h.elim
    · exact h.elim
/-- three classes of the program -/
theorem e_isiOOO {i : Nat} {x y1 y2 y3 : Str} {C1 C2 C3 : Addr} {bs : List (Addr × Bool)} {p p1 py1 py2 py3 pt pos : Pos} {nt : Nat} (hz : Zc cls d oe) (hf : ∃ vs, oe.data = .fields vs) (B : Bi X.mg) (hbs : ∀ q ∈ bs, ExcC X.K q.1 ∧ PySem.W.kitAny X.K (.ref q.1) [.ref C1, .ref C2, .ref C3] = some q.2) (gy1 : X.mg y1 = some (.ref C1)) (hgy1 : Gl X y1) (gy2 : X.mg y2 = some (.ref C2)) (hgy2 : Gl X y2) (gy3 : X.mg y3 = some (.ref C3)) (hgy3 : Gl X y3)
    (ho : X.N[i]? = some x) (hv : Vis X.env.scope x) (hdy1 : (y1 == ("__debug__" : Str)) = false := by decide) (hdy2 : (y2 == ("__debug__" : Str)) = false := by decide) (hdy3 : (y3 == ("__debug__" : Str)) = false := by decide) (hd : (x == ("__debug__" : Str)) = false := by decide) (hcd : (x == ("__classdict__" : Str)) = false := by decide) (hg : Gl X "isinstance" := by rfl)
    (he : starEach [.Name x p1, .Tuple [.Name y1 py1, .Name y2 py2, .Name y3 py3] nt pt] X.env = (false, eval (.Name x p1) X.env) :: starEach [.Tuple [.Name y1 py1, .Name y2 py2, .Name y3 py3] nt pt] X.env := by rfl) (he2 : starEach [.Tuple [.Name y1 py1, .Name y2 py2, .Name y3 py3] nt pt] X.env = (false, eval (.Tuple [.Name y1 py1, .Name y2 py2, .Name y3 py3] nt pt) X.env) :: starEach [] X.env := by rfl)
    (he3 : starEach [.Name y1 py1, .Name y2 py2, .Name y3 py3] X.env = (false, eval (.Name y1 py1) X.env) :: starEach [.Name y2 py2, .Name y3 py3] X.env := by rfl) (he4 : starEach [.Name y2 py2, .Name y3 py3] X.env = (false, eval (.Name y2 py2) X.env) :: starEach [.Name y3 py3] X.env := by rfl) (he5 : starEach [.Name y3 py3] X.env = (false, eval (.Name y3 py3) X.env) :: starEach [] X.env := by rfl)
    (hpl : (backTo pos (starEach [.Tuple [.Name y1 py1, .Name y2 py2, .Name y3 py3] nt pt] X.env)).any (·.1) = false := by rfl) :
    PE (X.suite a ((a, oe) :: pn)) (.Call (.Name "isinstance" p) [.Name x p1, .Tuple [.Name y1 py1, .Name y2 py2, .Name y3 py3] nt pt] [] pos) (tD X.K Tb W (dIsiE i bs a cls d)) :=
  e_isiE3 hz hf B hbs (.own C1) (.own C2) (.own C3) (pe_glob (X := X.suite a ((a, oe) :: pn)) hgy1 gy1 rfl hdy1) (pe_glob (X := X.suite a ((a, oe) :: pn)) hgy2 gy2 rfl hdy2) (pe_glob (X := X.suite a ((a, oe) :: pn)) hgy3 gy3 rfl hdy3) ho hv hd hcd hg he he2 he3 he4 he5 hpl
end
end PD

set_option Elab.async false
set_option linter.all false
set_option maxRecDepth 100000
set_option maxHeartbeats 1000000
/-! # sorted(xs, reverse=True), xs a list of ints -/
namespace PD
open PySem PySem.Spec PyProof.Rows L2
def sortDown (l : List Int) : List Int := l.mergeSort fun x y => decide (y ≤ x)
theorem sortDown_perm (l : List Int) : (sortDown l).Perm l := List.mergeSort_perm _ _
theorem sortDown_ord (l : List Int) : (sortDown l).Pairwise (· ≥ ·) := by
  have h := List.pairwise_mergeSort (le := fun x y : Int => decide (y ≤ x)) (fun a b c h1 h2 => by simp only [decide_eq_true_eq] at *; omega) (fun a b => by simp only [Bool.or_eq_true, decide_eq_true_eq]; omega) l
  exact h.imp fun {a b} q => of_decide_eq_true q
theorem down_uniq {a b l : List Int} (ha : a.Perm l) (hb : b.Perm l) (oa : a.Pairwise (· ≥ ·)) (ob : b.Pairwise (· ≥ ·)) : a = b :=
  List.Perm.eq_of_pairwise (le := fun x y : Int => x ≥ y) (fun x y _ _ h1 h2 => by omega) oa ob (ha.trans hb.symm)
def bSortRev : PyData → R PyData
  | .list xs => ofO (asInts xs) fun ns => .ok (.list ((sortDown ns).map .int))
  | _ => .bad
section
variable {X : Cx} {Tb : List Addr} {W : WX} {e : Expr} {f : Dn} {p pos pk kp : Pos} {j : Nat}
theorem fd_sortRev (B : Bi X.mg) (he : PE X e (tD X.K Tb W f)) (hg : Gl X "sorted" := by rfl) (n1 : starEach [e] X.env = (false, eval e X.env) :: starEach [] X.env := by rfl)
    (n2 : backTo pos (starEach [e] X.env) = (false, eval e X.env) :: backTo pos (starEach [] X.env) := by rfl) (n3 : (backTo pos (starEach [e] X.env)).any (·.1) = false := by rfl)
    (hall : (backToKw pos (keywordEach [⟨some "reverse", .Constant (.bool true) j kp, pk⟩] X.env)).all (·.1.isSome) = true := by rfl) (hnone : (backToKw pos (keywordEach [⟨some "reverse", .Constant (.bool true) j kp, pk⟩] X.env)).any (·.1.isNone) = false := by rfl) (hks : (backToKw pos (keywordEach [⟨some "reverse", .Constant (.bool true) j kp, pk⟩] X.env)).filterMap (·.1) = [Str.ofString "reverse"] := by rfl) :
    PE X (.Call (.Name "sorted" p) [e] [⟨some "reverse", .Constant (.bool true) j kp, pk⟩] pos) (tD X.K Tb W (dOne bSortRev f)) :=
  (pe_callBK cr_sortedRev hg B.sorted boot_sorted (pa_cons he pa_nil n1) (pk_cons pe_bl pk_nil) (by decide) (by decide) n2 n3 hall hnone hks).by fun σ H Q ⟨H0, O0, O, ρ, st, h⟩ => ⟨H0, O0, O, ρ, st, by
    refine Post.then h fun d v H1 ex rv k => ?_
    unfold bSortRev at k
    split at k
    · rename_i xs
      cases en : asInts xs with
      | none => rw [en] at k; exact k.elim
      | some ns =>
        rw [en] at k
        unfold ofO at k
        dsimp only at k
        cases rv with
        | lst h1 z1 a1 =>
          have ev := ints_rp a1 en
          subst ev
          refine ⟨_, ns, rfl, rfl, Sub.unhide.sqL h1, fun ns' q pm ord hq => ?_⟩
          have e1 : ns' = sortDown ns := down_uniq pm (sortDown_perm ns) ord (sortDown_ord ns)
          subst e1
          have al := (st.step ex).al
          refine k _ _ (Ext.new hq) (.lst (xs := (sortDown ns).map V.int) (.of ?_) ?_ (rp_ints _))
          · rw [hide_out (fun m => al q m hq)]
            exact upd_same
          · have z : xs.length = ns.length := by
              have := a1.length
              simpa using this.symm
            rw [List.length_map, (sortDown_perm ns).length_eq, ← z]
            exact z1
    · exact k.elim⟩
end
end PD

set_option Elab.async false
set_option linter.all false
set_option maxRecDepth 100000
set_option maxHeartbeats 1000000
/-! # The facts of an error class with one field, from what the written part says -/
namespace PD
open PySem PySem.Spec PySem.W PySem.Calls PyProof.Rows L2
def clsStm (s : Stmt) (j : Nat) : Stmt := match s with
  | .ClassDef _ _ _ body _ _ _ _ _ _ _ => body.getD j (.Pass ⟨0, 0, 0, 0⟩)
  | _ => .Pass ⟨0, 0, 0, 0⟩
theorem errX_mk {K : Frag} {mg : Str → Option Value} {C BC fI : Addr} {base fld text qual : Str} {j : Nat} {p1 p2 p3 p4 p5 p6 p7 p8 p9 p10 : Pos} {ar : Arguments} {sc : Scope} {bd : List Stmt}
    {oc doc pm cdv ct : Value} {od an : Option Addr} {osl : Array (Option Value)} (T : ErrF K C BC fI base fld) (gB : mg base = some (.ref BC))
    (ho : K.lookup fI = some ⟨oc, od, .func (fnOf "__init__" qual ar bd sc .none .none doc pm an cdv ct), osl⟩) (hcd : codeIn K cdv qual = true)
    (eb : bd = [.Expr (.Call (.Attribute (.Name base p1) "__init__" p2) [.Name "self" p3, .Constant (.str text) j p4] [] p5) p6, .Assign [.Attribute (.Name "self" p7) fld p8] (.Name fld p9) p10])
    (hbind : ∀ (s : Shared) (x v : Value), BindsTo s (fnOf "__init__" qual ar bd sc .none .none doc pm an cdv ct) ⟨[x, v], []⟩ [("self", x), (fld, v)])
    (hkind : ∀ (x v : Value), (([("self", x), (fld, v)] : List (Str × Value)).all fun y => sc.names.lookup y.1 == some .local || sc.names.lookup y.1 == some .cell) = true)
    (hco : sc.isCoroutine = false) (hgen : sc.isGenerator = false) (hk : sc.kind = .function)
    (lS : ∀ L, (envOfC qual sc L fI cdv).kindOf "self" = some .local) (lF : ∀ L, (envOfC qual sc L fI cdv).kindOf fld = some .local) (lB : ∀ L, (envOfC qual sc L fI cdv).kindOf base = some .globalImplicit)
    (mS : ∀ L (x v : Value), bindL (envOfC qual sc L fI cdv).kindOf [("self", x), (fld, v)] (fun _ => none) "self" = some x) (mF : ∀ L (x v : Value), bindL (envOfC qual sc L fI cdv).kindOf [("self", x), (fld, v)] (fun _ => none) fld = some v)
    (dF : (fld == ("__debug__" : Str)) = false) (dB : (base == ("__debug__" : Str)) = false)
    (hbase : ∀ env, attributeBase (.Name base p1) "__init__" env (eval (.Name base p1) env) = eval (.Name base p1) env) (hline : (p2.endLine == p5.line) = true)
    (hfew : ∀ env, ((backTo p5 (starEach [.Name "self" p3, .Constant (.str text) j p4] env)).all (fun x => !x.1) && (backToKw p5 (keywordEach [] env)).all (fun x => x.1.isSome)
      && decide (([.Name "self" p3, .Constant (.str text) j p4] : List Expr).length + ([] : List Keyword).length + (if ([] : List Keyword).isEmpty then 0 else 1) < 30)) = true)
    (he : ∀ env, starEach [.Name "self" p3, .Constant (.str text) j p4] env = (false, eval (.Name "self" p3) env) :: starEach [.Constant (.str text) j p4] env)
    (he2 : ∀ env, starEach [.Constant (.str text) j p4] env = (false, eval (.Constant (.str text) j p4) env) :: starEach [] env)
    (hpl : ∀ env, (backTo p5 (starEach [.Constant (.str text) j p4] env)).any (·.1) = false) (hint : ∀ L, interactive (envOfC qual sc L fI cdv) = false)
    (hsw : ∀ L, swapsWith (.Call (.Attribute (.Name base p1) "__init__" p2) [.Name "self" p3, .Constant (.str text) j p4] [] p5) none p6.line (envOfC qual sc L fI cdv) = pure false)
    (hsw2 : ∀ L, swapsWith (.Name fld p9) (some (.Attribute (.Name "self" p7) fld p8)) p10.line (envOfC qual sc L fI cdv) = pure false) : ErrX K mg C fld := by
  subst eb
  exact ⟨BC, fI, base, { toErrF := T, run := fun X G hl hx hnx hxm hr hq => fld_init T X G gB hl hx hnx hxm hr ho hcd (hbind _ _ _) (hkind _ _) hco hgen hk lS lF lB (fun L => mS L _ _) (fun L => mF L _ _) dF dB hbase hline hfew he he2 hpl hint hsw hsw2 fun h' tk dx t1 k1 k2 k3 k4 k5 => hq h' tk dx t1 ⟨k1, k2, k3, k4, k5⟩ }⟩
end PD

set_option Elab.async false
set_option linter.all false
set_option maxRecDepth 100000
set_option maxHeartbeats 1000000
/-! # x = x[a:b], x an own list; enumerate(xs, start=k) -/
namespace PD
open PySem PySem.Spec PyProof.Rows L2
/-- a slice of the list that slot i owns -/
def dOwnCut (i : Nat) (fl fh : DnO) : Dn := fun ρ => match ρ[i]? with
  | some (some (.own ds)) => fl ρ >>= fun l => fh ρ >>= fun u => .ok (.list (cutD ds l u))
  | _ => .bad
section
variable {X : Cx} {Tb : List Addr} {W : WX}
theorem fn_ownCut {i : Nat} {x : Str} {p p2 pos : Pos} {lo hi : Option Expr} {fl fh : DnO} (ho : X.N[i]? = some x) (hv : Vis X.env.scope x) (hd : (x == ("__debug__" : Str)) = false) (hcd : (x == ("__classdict__" : Str)) = false) (hl : PO X lo (tDO X.K Tb W fl)) (hh : PO X hi (tDO X.K Tb W fh)) :
    PE X (.Subscript (.Name x p) (.Slice lo hi none p2) pos) (tN X.K Tb W (dOwnCut i fl fh)) := (pe_slice sl_list (pe_var ho hv hd hcd) hl hh).by fun σ H Q ⟨H0, O0, O, ρ, st, h⟩ => by
  unfold dOwnCut at h
  cases hs : ρ[i]? with
  | none => rw [hs] at h; exact h.elim
  | some o =>
    rw [hs] at h
    cases o with
    | none => exact h.elim
    | some sl =>
      cases sl with
      | d x => exact h.elim
      | dct ks => exact h.elim
      | exn a c d e => exact h.elim
      | own ds =>
        obtain ⟨v, h1, p, vs, rfl, m, m0, hp, z, r⟩ := st.slot i _ hs
        refine ⟨.ref p, h1, H0, O0, O, ρ, st, ?_⟩
        dsimp only at h
        cases el : fl ρ with
        | bad => rw [el] at h; exact h.elim
        | exc y => rw [el] at h; exact h
        | ok l =>
          rw [el, R.bind_ok] at h
          intro l' H2 e2 r2
          cases (show l' = l from r2)
          refine ⟨H0, O0, O, ρ, st.step e2, ?_⟩
          cases eh : fh ρ with
          | bad => rw [eh] at h; exact h.elim
          | exc y => rw [eh] at h; exact fun c d H1 ex rr => h c d H1 (e2.trans ex) rr
          | ok u =>
            rw [eh, R.bind_ok] at h
            intro u' H3 e3 r3
            cases (show u' = u from r3)
            have e23 := e2.trans e3
            refine ⟨p, vs, rfl, .inl (.inl (e23.keep p _ hp fun _ q => by cases q)), fun q hq => h q _ _ (e23.trans (Ext.new hq)) ?_ upd_same (Nat.le_trans (cutD_length _ _ _) z) ?_⟩
            · cases q2 : H q with
              | none => rfl
              | some o => exact absurd hq (e23.al q (by rw [q2]; simp))
            · exact (cut_rp _ _ (r.mono (Sub.hide e23.keep))).beside ((st.step e2).step e3).al hq
end
/-! enumerate(xs, start=k) -/
theorem callWith_type_kw {M : Model} {A : Around} {E : Value → Shared → Prop} {s : Shared} {pos : Pos} {T : String} {first : List Value} {args : List (Bool × Sem Value)} {keywords : List (Option Str × Sem Value)} {Q : Value → Shared → Prop}
    (hplain : args.any (·.1) = false) (hkw : keywords.any (·.1.isNone) = false)
    (h : wpAny M A (evalArgs (.type T) true args keywords) (fun a s₁ => wpAny M A (call (.type T) (first ++ a.pos) a.kw) Q E s₁) E s) :
    wpAny M A (callWith pos (.type T) first args keywords) Q E s := by
  unfold callWith
  refine wpAny_bind (wpAny_holding (wpAny_mono h (fun a s₁ h₁ => wpAny_bind (wpAny_standAt ?_)) fun _ _ x => x))
  simp only [hplain, hkw, Bool.or_false]
  refine wpAny_bind (wpAny_pure ?_)
  exact wpAny_bind (wpAny_mono h₁ (fun r s₂ hr => wpAny_bind (wpAny_holding (wpAny_point (wpAny_pure hr)))) fun _ _ x => x)
def iEnumK (K : PySem.W.Frag) (k : Int) (ta : TA) : TI := fun σ H R => ta σ H fun vs H1 => ∃ tp a xs, vs = [.ref a] ∧ SqX K H1 tp a xs ∧ R (Ige K tp a k) H1
theorem pi_enumK {X : Cx} {e : Expr} {ta : TA} {p pos tpos pk kp : Pos} {elts : List Expr} {kk j : Nat} {k : Int} (hk0 : -(2 ^ 63) ≤ k) (hk1 : k < 2 ^ 63) (hg : Gl X "enumerate") (hm : X.mg "enumerate" = none) (ha : PA X [e] ta)
    (he : backTo pos (starEach [e] X.env) = (false, eval e X.env) :: backTo pos (starEach [] X.env) := by rfl) (hpl : (backTo pos (starEach [e] X.env)).any (·.1) = false := by rfl)
    (hall : (backToKw pos (keywordEach [⟨some "start", .Constant (.int k) j kp, pk⟩] X.env)).all (·.1.isSome) = true := by rfl) (hnone : (backToKw pos (keywordEach [⟨some "start", .Constant (.int k) j kp, pk⟩] X.env)).any (·.1.isNone) = false := by rfl) (hks : (backToKw pos (keywordEach [⟨some "start", .Constant (.int k) j kp, pk⟩] X.env)).filterMap (·.1) = [Str.ofString "start"] := by rfl) :
    PI X (.Tuple elts kk tpos) (.Call (.Name "enumerate" p) [e] [⟨some "start", .Constant (.int k) j kp, pk⟩] pos) (iEnumK X.K k ta) := by
  refine ⟨fun pins s σ H R I h => ?_⟩
  refine wpAny_Call_Name_kw (ld_blt I hg hm boot_enumerate ?_)
  refine callWith_type_kw hpl hnone ?_
  rw [he]
  refine evalArgs_kwB hall ?_
  rw [← he]
  refine thn (ha.run pos pins s σ H _ I h) fun us s1 ⟨vs, H1, I1, r1, q1⟩ => ?_
  have pkk : PK X [⟨some "start", .Constant (.int k) j kp, pk⟩] (tCons (tC (.int k)) tNil) := pk_cons pe_int pk_nil
  refine thn (pkk.run pos pins s1 σ H1 (fun zs H2 => zs = [.int k] ∧ H2 = H1) I1 ⟨rfl, rfl⟩) fun ws s2 ⟨zs, H2, I2, r2, ez, eH⟩ => ?_
  subst ez eH
  rw [hks]
  obtain ⟨w1, rfl, w2⟩ := vals1 r2
  obtain ⟨tk, rfl⟩ := w2
  obtain ⟨tp, a, xs, rfl, hq, q⟩ := q1
  cases r1 with
  | cons r rr =>
    cases rr
    cases r
    obtain ⟨its, rv, p'⟩ := sqX_read I2 hq
    have la := p'.lt
    refine enum_begins_start (beginsX tp a its.toArray) p' hk0 hk1 fun h' he' hit _ hk => wpAny_pyIter_enum he' ?_
    have I3 : Inv X pins σ H2 { s2 with heap := h' } := I2.kept (t' := s2.toks) hk
    refine ⟨s2.heap.objs.size + 1, [s2.heap.objs.size + 1, s2.heap.objs.size], _, _, H2, rfl, I3, turn_enumX (e := s2.heap.objs.size + 1) (it := s2.heap.objs.size) (k := k) (Nat.succ_ne_self _) (Nat.ne_of_lt la) (Nat.ne_of_lt (Nat.lt_succ_of_lt la)), ⟨⟨.none, by simpa using he'⟩, itX_new hit⟩, fun b hb => ?_, q⟩
    have hle : s2.heap.objs.size ≤ b := by
      rcases List.mem_cons.mp hb with z | z
      · rw [z]; exact Nat.le_succ _
      · rw [List.mem_singleton.mp z]; exact Nat.le_refl _
    exact I2.fpOk hle (I2.hok.fresh hle)
def enumAk (k : Int) : List PyData → R (List PyData)
  | [d] => items d >>= fun ds => .ok (enumF k ds)
  | _ => .bad
def dEnumK (k : Int) (g : DnL) : DnL := fun ρ => g ρ >>= enumAk k
theorem fi_enumK {X : Cx} {Tb : List Addr} {W : WX} {e : Expr} {g : DnL} {p pos tpos pk kp : Pos} {elts : List Expr} {kk j : Nat} {k : Int} (hk0 : -(2 ^ 63) ≤ k) (hk1 : k < 2 ^ 63) (hg : Gl X "enumerate") (hm : X.mg "enumerate" = none) (ha : PA X [e] (tDs X.K Tb W g))
    (he : backTo pos (starEach [e] X.env) = (false, eval e X.env) :: backTo pos (starEach [] X.env) := by rfl) (hpl : (backTo pos (starEach [e] X.env)).any (·.1) = false := by rfl)
    (hall : (backToKw pos (keywordEach [⟨some "start", .Constant (.int k) j kp, pk⟩] X.env)).all (·.1.isSome) = true := by rfl) (hnone : (backToKw pos (keywordEach [⟨some "start", .Constant (.int k) j kp, pk⟩] X.env)).any (·.1.isNone) = false := by rfl) (hks : (backToKw pos (keywordEach [⟨some "start", .Constant (.int k) j kp, pk⟩] X.env)).filterMap (·.1) = [Str.ofString "start"] := by rfl) :
    PI X (.Tuple elts kk tpos) (.Call (.Name "enumerate" p) [e] [⟨some "start", .Constant (.int k) j kp, pk⟩] pos) (tI X.K Tb W (dEnumK k g)) := (pi_enumK hk0 hk1 hg hm ha he hpl hall hnone hks).by fun σ H R ⟨H0, O0, O, ρ, st, h⟩ => ⟨H0, O0, O, ρ, st, by
  refine Post.then h fun d v H1 ex r k => ?_
  unfold enumAk at k
  split at k
  · rename_i d0
    cases r with
    | cons r1 r2 =>
      cases r2
      cases hi : items d0 with
      | bad => rw [hi] at k; exact k.elim
      | exc x => exact absurd hi items_no
      | ok ds =>
        rw [hi] at k
        obtain ⟨tp, a, xs, rfl, h1, z1, a1⟩ := rp_items r1 hi
        exact ⟨tp, a, xs, rfl, h1.step Sub.unhide, k _ H1 (Ext.refl _) (itd_enum h1 z1 a1)⟩
  · exact k.elim⟩
end PD

set_option Elab.async false
set_option linter.all false
set_option maxRecDepth 100000
set_option maxHeartbeats 1000000
/-! # x = {(): True}, and list(x) of an own dict -/
namespace PD
open PySem PySem.Spec PyProof.Rows L2
def tDOneC : TE := fun _ H Q => ∀ D q ep, H D = none → H q = none → D ≠ q → Q (.ref D) (upd (upd (upd H D (dctO D 0 [])) q (.tup [])) D (dctO D ep [([], q)]))
section
variable {X : Cx} {pos kp tp : Pos} {kk tj : Nat}
theorem pe_dOne (hu : X.A.units + 65 < cLine) : PE X (.Dict [some (.Tuple [] kk kp)] [.Constant (.bool true) tj tp] pos) tDOneC := ⟨fun pins s σ H Q I h => by
  have hx : (evalEachOpt [some (.Tuple [] kk kp)] X.env).zip ((evalEach [.Constant (.bool true) tj tp] X.env).map fun v => do let x ← v; standAt pos; pure x) = [(some (eval (.Tuple [] kk kp) X.env), (do let x ← eval (.Constant (.bool true) tj tp) X.env; standAt pos; pure x))] := by rfl
  have hy := dictDisplay_pairs [(eval (.Tuple [] kk kp) X.env, (do let x ← eval (.Constant (.bool true) tj tp) X.env; standAt pos; pure x))] (by simp) (by simp)
  rw [arm_eval_Dict, hx]
  rw [show [(some (eval (.Tuple [] kk kp) X.env), (do let x ← eval (.Constant (.bool true) tj tp) X.env; standAt pos; pure x))] = ([(eval (.Tuple [] kk kp) X.env, (do let x ← eval (.Constant (.bool true) tj tp) X.env; standAt pos; pure x))] : List (Sem Value × Sem Value)).map (fun p => (some p.1, p.2)) from rfl, hy]
  refine wpAny_bind (wpAny_standAt (wpAny_bind ?_))
  refine wpAny_subDictH (knd := ikt X.prog X.w) (show X.A.units < cLine by omega) (by simp) ?_
  refine evalPairs_cons ?_
  have fr : H s.heap.objs.size = none := I.hok.fresh (Nat.le_refl _)
  have I1 : Inv X pins σ (upd H s.heap.objs.size (dctO s.heap.objs.size 0 [])) { s with heap := s.heap.push { cls := .type "dict", data := .dict #[] } } :=
    I.laid (a := s.heap.objs.size) (o := dctO s.heap.objs.size 0 []) (t' := s.toks) (fun _ _ q => Heap.get?_push_of_some _ q) (Nat.le_refl _) (dct_new s.heap I.big)
  refine thn ((pe_tup pa_nil).run pins _ σ _ (fun v H2 => ∃ q, v = .ref q ∧ H q = none ∧ s.heap.objs.size ≠ q ∧ H2 = upd (upd H s.heap.objs.size (dctO s.heap.objs.size 0 [])) q (.tup [])) I1 ?_) ?_
  · refine ⟨Nat.zero_le _, fun q hq => ?_⟩
    have ne : s.heap.objs.size ≠ q := fun e => by rw [← e, upd_same] at hq; cases hq
    exact ⟨q, rfl, by rwa [upd_ne (fun e => ne e.symm)] at hq, ne, rfl⟩
  · rintro u s2 ⟨v, H2, I2, r2, q, rfl, hq, ne, rfl⟩
    cases r2
    have hD : (upd (upd H s.heap.objs.size (dctO s.heap.objs.size 0 [])) q (.tup [])) s.heap.objs.size = some (dctO s.heap.objs.size 0 []) := by rw [upd_ne ne, upd_same]
    have hT : SqT X.K (upd (upd H s.heap.objs.size (dctO s.heap.objs.size 0 [])) q (.tup [])) q (([] : List Int).map V.int) := .inl (.inl upd_same)
    refine wpAny_bind (Constant_bool (wpAny_bind (wpAny_standAt (wpAny_pure (evalPairs_nil ?_)))))
    obtain ⟨h1, _, d0⟩ := dct_at I2 hD (fun x hx => nomatch hx)
    refine ⟨[([], q, .bool true)], ⟨rfl, rfl, key_is I2 hT, trivial⟩, d0, fun h' tk dd sb => wpAny_pure ?_⟩
    have dd : h'.DictOfH (ikt X.prog X.w) s.heap.objs.size (kvT [([], q)]) := dd
    have he : ∃ z, h'.get? s.heap.objs.size = some z := let ⟨z, _, _, hz, _⟩ := dd; ⟨z, hz⟩
    obtain ⟨ep, ok⟩ := dct_ok (P := X.prog) (w := X.w) (H' := upd (upd H s.heap.objs.size (dctO s.heap.objs.size 0 [])) q (.tup [])) h1 (by simp [sizeLine_eq]) dd
    exact ⟨.ref s.heap.objs.size, _, I2.write (x := s.heap.objs.size) (e := s.heap.objs.size) (by rw [hD]; trivial) (.inl rfl) (fun b z hb e => (sb.2 b hb).trans e) he (dct_any ok), rfl, h _ q ep fr hq ne⟩⟩
end
/-- x = {(): True} -/
def gNewD1 (i : Nat) : Sn := fun ρ => .nx (ρ.set i (some (.dct [[]])))
/-- list(x), x an own dict -/
def dOwnKeys (i : Nat) : Dn := fun ρ => match ρ[i]? with
  | some (some (.dct ks)) => if ks.length ≤ sizeLine ∧ (ks.all fun k => decide (k.length ≤ sizeLine)) = true then .ok (.list (ks.map fun k => .tuple (k.map .int))) else .bad
  | _ => .bad
theorem call_list_dct {X : Cx} (hc : X.calm = true) : CallR X (.type "list") (fun xs H Q => ∃ d ep ks, xs = [V.ref d] ∧ H d = some (dctO d ep ks) ∧ ∀ l, H l = none → Q (.ref l) (upd H l (.lst (ks.map fun x => V.ref x.2)))) := by
  intro pins s σ H xs us Q I r h
  obtain ⟨d, ep, ks, rfl, hd, q⟩ := h
  obtain ⟨u, rfl, rx⟩ := r.one
  cases rx
  obtain ⟨hs, o, es, ho, hx, hdt, hsz, ent⟩ := dct_obj I hd
  have hz : ks.length ≤ sizeLine := by
    obtain ⟨⟨_, z, _⟩, _, _⟩ := I.hok d _ hd
    exact z
  refine PySem.W.kdl_call (kdl_raw hs hx hdt) (I.ok.hd hc) ho (by rw [hsz]; exact hz) fun h' tk acc c' kp e it => ?_
  have hl : acc.toList.length = ks.length := by rw [Array.length_toList, it.1, hsz]
  have eb : acc.toList = (ks.map fun x => x.2).map Value.ref := by
    apply List.ext_getElem?
    intro j
    cases hj : acc.toList[j]? with
    | none => rw [List.getElem?_eq_none (by simp only [List.length_map]; have := List.getElem?_eq_none_iff.mp hj; omega)]
    | some v =>
      obtain ⟨en, hen, rfl⟩ := it.2 j v (by rw [← Array.getElem?_toList]; exact hj)
      have lt : j < ks.length := by have := (List.getElem?_eq_some_iff.mp hj).1; omega
      obtain ⟨en', hen', hk⟩ := ent j ks[j].1 ks[j].2 (List.getElem?_eq_getElem lt)
      rw [hen] at hen'
      cases hen'
      rw [hk, List.getElem?_map, List.getElem?_map, List.getElem?_eq_getElem lt]
      rfl
  have ev : (ks.map fun x => V.ref x.2) = (ks.map fun x => x.2).map V.ref := by rw [List.map_map]; rfl
  refine ⟨.ref s.heap.objs.size, _, I.laid (t' := tk) (o := .lst (ks.map fun x => V.ref x.2)) kp (Nat.le_refl _) ?_, rfl, q _ (I.hok.fresh (Nat.le_refl _))⟩
  exact ⟨by rw [List.length_map]; exact hz, acc.toList, c', by rw [eb, ev]; exact vals_refs _, by rw [Array.toArray_toList]; exact e⟩
section
variable {X : Cx} {Tb : List Addr} {W : WX} {pos p : Pos} {x : Str}
theorem fs_newD1 {i k : Nat} {pos' dpos kp tp : Pos} {kk tj : Nat} (hr : Room k X.A) (hN : X.N.Nodup) (hi : X.N[i]? = some x) (hx : Loc X.env.scope x) (hs : swapsWith (.Dict [some (.Tuple [] kk kp)] [.Constant (.bool true) tj tp] dpos) (some (.Name x pos')) pos.line X.env = pure false := by rfl)
    (hf : X.fn x = true ∨ X.env.scope.names.lookup x = some .local := by first | exact .inl rfl | exact .inr rfl | assumption) : PS X (.Assign [.Name x pos'] (.Dict [some (.Tuple [] kk kp)] [.Constant (.bool true) tj tp] dpos) pos) (tS X.K Tb W (gNewD1 i)) := (ps_set hN hi hx (pe_dOne hr.u65) hs hf).by fun D σ H ⟨H0, O0, O, ρ, st, h⟩ => fun D q ep hD hq ne => by
  have e : upd (upd (upd H D (dctO D 0 [])) q (.tup [])) D (dctO D ep [([], q)]) = upd (upd H q (.tup [])) D (dctO D ep [([], q)]) := by
    funext b
    by_cases hb : b = D
    · rw [hb, upd_same, upd_same]
    · rw [upd_ne hb, upd_ne hb]
      by_cases hc : b = q
      · rw [hc, upd_same, upd_same]
      · rw [upd_ne hc, upd_ne hc, upd_ne hb]
  have hD2 : (upd H q (.tup [])) D = none := by rw [upd_ne ne]; exact hD
  rw [e]
  refine h (D :: O) _ _ (st.holdNew ((Ext.new hq).trans (Ext.new hD2)) hD upd_same (plain_dct D ep _) ⟨D, ep, _, rfl, List.mem_cons_self, fun m => st.fresh hD (st.sub D m), upd_same, rfl, fun y hy => ?_⟩)
  rw [List.mem_singleton.mp hy]
  refine .inl (.inl ?_)
  rw [hide_out (by rw [List.mem_cons, not_or]; exact ⟨fun z => ne z.symm, st.fresh hq⟩), upd_ne (fun z => ne z.symm), upd_same]
  rfl
theorem fd_ownKeys {i : Nat} {npos : Pos} (hc : X.calm = true) (hg : Gl X "list") (hm : X.mg "list" = none) (ho : X.N[i]? = some x) (hv : Vis X.env.scope x) (hd : (x == ("__debug__" : Str)) = false) (hcd : (x == ("__classdict__" : Str)) = false)
    (he : starEach [.Name x npos] X.env = (false, eval (.Name x npos) X.env) :: starEach [] X.env := by rfl) (hpl : (backTo pos (starEach [] X.env)).any (·.1) = false := by rfl) :
    PE X (.Call (.Name "list" p) [.Name x npos] [] pos) (tD X.K Tb W (dOwnKeys i)) :=
  (pe_callTy (call_list_dct hc) hg hm boot_list (pa_cons (pe_var ho hv hd hcd) pa_nil he) (by decide) (by decide) he hpl).by fun σ H Q ⟨H0, O0, O, ρ, st, h⟩ => by
    unfold dOwnKeys at h
    split at h
    · rename_i ks hs
      split at h
      · rename_i hz
        obtain ⟨v, h1, D, ep, xs, rfl, m, m0, hp, z, r⟩ := st.slot i _ hs
        refine ⟨.ref D, h1, D, ep, xs, rfl, hp, fun l hl => ?_⟩
        refine h (.ref l) _ (Ext.new hl) ?_
        have hl2 : l ∉ O := st.fresh hl
        have ek : ks.map (fun k => PyData.tuple (k.map .int)) = xs.map fun x => PyData.tuple (x.1.map .int) := by rw [← z, List.map_map]; rfl
        rw [ek]
        refine .lst (xs := xs.map fun x => V.ref x.2) (.inl (.inl ?_)) (by rw [List.length_map]; rw [← z, List.length_map] at hz; exact hz.1) ?_
        · rw [hide_out hl2, upd_same]
        · have all : ∀ x ∈ xs, SqT X.K (hide O (upd H l (.lst (xs.map fun x => V.ref x.2)))) x.2 (x.1.map V.int) ∧ x.1.length ≤ sizeLine := fun x hx => ⟨(Sub.hide (Ext.new hl).keep).sqT (r x hx), by
            have := List.all_eq_true.mp hz.2 x.1 (by rw [← z]; exact List.mem_map.mpr ⟨x, hx, rfl⟩)
            exact of_decide_eq_true this⟩
          generalize hide O (upd H l (.lst (xs.map fun x => V.ref x.2))) = G at all
          clear z ek hp r hz hs h
          induction xs with
          | nil => exact .nil
          | cons y ys ih =>
            have a := all y List.mem_cons_self
            exact .cons (.tup a.1 (by rw [List.length_map]; exact a.2) (rp_intsV y.1)) (ih fun x hx => all x (List.mem_cons_of_mem _ hx))
      · exact h.elim
    · exact h.elim
end
end PD

set_option Elab.async false
set_option linter.all false
set_option maxRecDepth 100000
set_option maxHeartbeats 1000000
/-! # return tuple([x.pop(e) for y in l]), x an own list -/
namespace PD
open PySem PySem.Spec PyProof.Rows L2
/-- the item that goes, and what is left -/
def popR (ds : List PyData) (d : PyData) : Option (PyData × List PyData) := match d with
  | .int k => match seqIndex? k ds.length with
    | some j => if -(2 ^ 63) ≤ k ∧ k < 2 ^ 63 then (ds[j]?).map fun y => (y, ds.eraseIdx j) else none
    | none => none
  | _ => none
def popGo (i j : Nat) (fe : Dn) (ρ : Rho) : List PyData → List PyData → R (List PyData)
  | _, [] => .ok []
  | own, d :: ds => nx (fe (((ρ.set j none).set i (some (.own own))).set j (some (.d d)))) fun k => match popR own k with
    | some (y, own') => nx (popGo i j fe ρ own' ds) fun ys => .ok (y :: ys)
    | none => .bad
def gRetPops (i j : Nat) (fi : DnL) (fe : Dn) : Sn := fun ρ => ownAt ρ i fun own => oR (fi ρ) ρ fun ds => match popGo i j fe ρ own ds with
  | .ok ys => .rt (.tuple ys)
  | _ => .bad
def tPop (K : PySem.W.Frag) (Tb : List Addr) (i : Nat) (fe : Dn) : TE := fun σ H Q => ∃ H0 O0 O ρ ds p d y ds', St0 K Tb H0 O0 O H σ ρ ∧ ρ[i]? = some (some (.own ds)) ∧ σ[i]? = some (some (.ref p)) ∧ fe ρ = .ok d ∧ popR ds d = some (y, ds') ∧
  ∀ v H1 vs vs', Ext H H1 → H1 p = some (.lst vs) → St0 K Tb H0 O0 O (upd H1 p (.lst vs')) σ (ρ.set i (some (.own ds'))) → Rp K (hide O H1) v y → Q v (upd H1 p (.lst vs'))
section
variable {X : Cx} {Tb : List Addr} {W : WX} {e : Expr} {fe : Dn} {pos : Pos} {x : Str}
theorem pe_pops {i : Nat} {apos npos cpos : Pos} (ho : X.N[i]? = some x) (hv : Vis X.env.scope x) (hd : (x == ("__debug__" : Str)) = false) (hcd : (x == ("__classdict__" : Str)) = false) (ha : PE X e (tD X.K Tb W0 fe))
    (hse : starEach [e] X.env = (false, eval e X.env) :: starEach [] X.env) (hbase : attributeBase (.Name x npos) "pop" X.env (eval (.Name x npos) X.env) = eval (.Name x npos) X.env)
    (hfew : ((backTo cpos (starEach [e] X.env)).all (fun x => !x.1) && (backToKw cpos (keywordEach [] X.env)).all (fun x => x.1.isSome)
      && decide (([e] : List Expr).length + ([] : List Keyword).length + (if ([] : List Keyword).isEmpty then 0 else 1) < 30)) = true)
    (hline : (apos.endLine == cpos.line) = true) (hplain : (backTo cpos (starEach [] X.env)).any (·.1) = false) :
    PE X (.Call (.Attribute (.Name x npos) "pop" apos) [e] [] cpos) (tPop X.K Tb i fe) :=
  (pe_bm PySem.F.plainAttrs_list PySem.F.slot_list_pop PySem.F.type_list_pop mt_popAt (pe_var ho hv hd hcd) (pa_cons ha pa_nil hse) hbase hfew hline hse hplain).by fun σ H Q ⟨H0, O0, O, ρ, ds, p, d, y, ds', st, e1, e2, ef, ep, h⟩ => by
    obtain ⟨v, h1, p', vs, rfl, m, m0, hp, z, r⟩ := st.slot i _ e1
    rw [e2] at h1
    cases h1
    refine ⟨.ref p, e2, .inl ⟨rfl, vs, .of hp⟩, H0, O0, O, ρ, st, ?_⟩
    rw [ef]
    intro v H1 ex rv
    unfold popR at ep
    split at ep
    · rename_i kk
      cases rv
      split at ep
      · rename_i j hj
        split at ep
        · rename_i hl
          cases hy : ds[j]? with
          | none => rw [hy] at ep; cases ep
          | some y0 =>
            rw [hy] at ep
            cases ep
            obtain ⟨w, hw, rw⟩ := r.get' hy
            have hp1 := ex.keep p _ hp (fun _ q => by cases q)
            refine ⟨p, vs, kk, j, w, rfl, rfl, hp1, hl.1, hl.2, by rw [r.length]; exact hj, hw, ?_⟩
            exact h w H1 vs _ ex hp1 ((st.step ex).ownSet e1 e2 (Nat.le_trans (List.length_eraseIdx_le _ _) z) ((r.mono (Sub.hide ex.keep)).erase j)) (rw.mono (Sub.hide ex.keep))
        · cases ep
      · cases ep
    · cases ep
end
theorem pops_turns {K : PySem.W.Frag} {Tb : List Addr} {i j : Nat} {fe : Dn} {σ : L2.St} {ρ : Rho} {H0 H1 : Hp} {O0 O : List Addr} {J : It} {ds ys own0 : List PyData} {p : Addr} {Q : VK} (hij : i ≠ j)
    (st1 : St0 K Tb H0 O0 O H1 σ ρ) (ei : ρ[i]? = some (some (.own own0))) (ep : σ[i]? = some (some (.ref p))) (it : ItD K (hide O H1) J ds) (hys : popGo i j fe ρ own0 ds = .ok ys)
    (fin : ∀ D acc H', Ext H0 H' → Al (D :: O) H' → D ∉ O → D ∉ O0 → H' D = some (.lst acc) → ys.length ≤ sizeLine → RpAll K (hide (D :: O) H') acc ys → Q (.ref D) H') :
    ∀ D, H1 D = none → ∃ W : Nat → Nat → Hp → Prop, (∃ m, W 0 m (upd H1 D (.lst []))) ∧ ∀ n m H, W n m H →
      (J.stop n H ∧ Q (.ref D) H) ∨ (J.go n H ∧ ∃ Nx : Hp → Prop, (∀ H', Nx H' → ∃ m', m' < m ∧ W (n + 1) m' H') ∧ ∀ x H', J.yld n H x H' → tG K Tb (.nm j) x (L2.wipe σ [j]) H' fun σ2 H2 => L2.wipe σ2 [j] = L2.wipe σ [j] ∧ tDT K Tb W0 dYes σ2 H2 fun b H3 =>
        if b = true then tPop K Tb i fe σ2 H3 fun y H4 => ∃ acc, H4 D = some (.lst acc) ∧ acc.length < sizeLine ∧ Nx (upd H4 D (.lst (acc ++ [y]))) else Nx H3) := by
  intro D nD
  have il : i < ρ.length := (List.getElem?_eq_some_iff.mp ei).1
  have aD : D ∉ O := st1.fresh nD
  have aD0 : D ∉ O0 := fun m => aD (st1.sub D m)
  obtain ⟨pO, p0⟩ := st1.hold (show (Sl.own own0).Hold from trivial) ei ep
  have pD : p ≠ D := fun e => aD (e ▸ pO)
  have hv : ∀ k ∈ (Tg.nm j).ixs, k ∈ [j] := fun k hk => hk
  have iv : i ∉ [j] := by simpa using hij
  have ini : (ρ.set j none).set i (some (.own own0)) = wipeR ρ [j] := by
    show _ = ρ.set j none
    apply List.ext_getElem?
    intro k
    by_cases hk : i = k
    · subst hk
      rw [List.getElem?_set_self (by rw [List.length_set]; exact il), List.getElem?_set_ne (fun e => hij e.symm), ei]
    · rw [List.getElem?_set_ne hk]
  have stw : St0 K Tb H0 O0 (D :: O) (upd H1 D (.lst [])) (L2.wipe σ [j]) ((ρ.set j none).set i (some (.own own0))) := by
    rw [ini]
    exact (st1.wiped [j]).more nD (plain_lst [])
  have own : ∀ (o : List PyData) (k : Nat) (s : Sl), s.Hold → ((ρ.set j none).set i (some (.own o)))[k]? = some (some s) → (L2.wipe σ [j])[k]? ≠ some (some (.ref D)) := fun o k s hs h1 h2 => by
    by_cases hk : i = k
    · subst hk
      rw [wipe_out iv, ep] at h2
      cases h2
      exact pD rfl
    · rw [List.getElem?_set_ne hk] at h1
      exact aD ((st1.wiped [j]).hold hs (show (wipeR ρ [j])[k]? = _ from h1) h2).1
  have nO : ∀ b ∈ D :: O, hide O H1 b = none := fun b hb => by
    rcases List.mem_cons.mp hb with rfl | hb
    · exact hide_none nD
    · exact hide_in hb
  refine ⟨fun n m H' => n ≤ ds.length ∧ m = ds.length - n ∧ ∃ o acc accD rest, St0 K Tb H0 O0 (D :: O) H' (L2.wipe σ [j]) ((ρ.set j none).set i (some (.own o))) ∧ Ext (hide O H1) H' ∧ H' D = some (.lst acc) ∧ RpAll K (hide (D :: O) H') acc accD ∧ acc.length ≤ n ∧ popGo i j fe ρ o (ds.drop n) = .ok rest ∧ accD ++ rest = ys,
    ⟨ds.length, Nat.zero_le _, by simp, own0, [], [], ys, stw, Ext.unhide.trans (Ext.new nD), upd_same, .nil, Nat.le_refl _, hys, rfl⟩, ?_⟩
  rintro n m H' ⟨hn, rfl, o, acc, accD, rest, s1, eG, hD, ra, la, go, ey⟩
  by_cases hlt : n < ds.length
  · refine .inr ⟨it.go n H' eG hlt, fun H2 => n + 1 ≤ ds.length ∧ ∃ o acc accD rest, St0 K Tb H0 O0 (D :: O) H2 (L2.wipe σ [j]) ((ρ.set j none).set i (some (.own o))) ∧ Ext (hide O H1) H2 ∧ H2 D = some (.lst acc) ∧ RpAll K (hide (D :: O) H2) acc accD ∧ acc.length ≤ n + 1 ∧ popGo i j fe ρ o (ds.drop (n + 1)) = .ok rest ∧ accD ++ rest = ys,
      fun H2 q => ⟨ds.length - (n + 1), by omega, q.1, rfl, q.2⟩, fun x H2 y => ?_⟩
    obtain ⟨e2, d, hd, rx⟩ := it.yld n H' (D :: O) x H2 eG nO s1.al hlt y
    have hdr : ds.drop n = d :: ds.drop (n + 1) := by
      obtain ⟨hl, hd'⟩ := List.getElem?_eq_some_iff.mp hd
      rw [List.drop_eq_getElem_cons hl, hd']
    rw [hdr] at go
    unfold popGo at go
    obtain ⟨kd, ek, go⟩ := nx_ok go
    cases er : popR o kd with
    | none => rw [er] at go; cases go
    | some q =>
      obtain ⟨yd, o'⟩ := q
      rw [er] at go
      obtain ⟨rs, ers, go⟩ := nx_ok go
      cases go
      have s2 := s1.step e2
      refine ⟨H0, O0, D :: O, (ρ.set j none).set i (some (.own o)), ((ρ.set j none).set i (some (.own o))).set j (some (.d d)), d, s2, rx, rfl, fun σ' st' ag => ⟨(ag.wipe hv).trans wipe_wipe, H0, O0, D :: O, _, st', ?_⟩⟩
      intro b' H3 e3 r3
      cases (show b' = true from r3)
      have s3 := st'.step e3
      have wσ : L2.wipe σ' [j] = L2.wipe σ [j] := (ag.wipe hv).trans wipe_wipe
      have ep' : σ'[i]? = some (some (.ref p)) := by rw [← wipe_out iv, wσ, wipe_out iv, ep]
      have ei' : (((ρ.set j none).set i (some (.own o))).set j (some (.d d)))[i]? = some (some (.own o)) := by
        rw [List.getElem?_set_ne (fun e => hij e.symm), List.getElem?_set_self (by rw [List.length_set]; exact il)]
      refine ⟨H0, O0, D :: O, _, o, p, kd, yd, o', s3, ei', ep', ek, er, fun v H4 vs vs' e4 hp4 s4 r4 => ?_⟩
      have e24 := (e2.trans e3).trans e4
      have hD4 : H4 D = some (.lst acc) := e24.keep D _ hD (fun _ q => by cases q)
      have hD5 : (upd H4 p (.lst vs')) D = some (.lst acc) := by rw [upd_ne (fun e => pD e.symm)]; exact hD4
      have zl : acc.length < sizeLine := by have := it.len; omega
      have back : wipeR ((((ρ.set j none).set i (some (.own o))).set j (some (.d d))).set i (some (.own o'))) [j] = (ρ.set j none).set i (some (.own o')) := by
        show (((((ρ.set j none).set i (some (.own o))).set j (some (.d d))).set i (some (.own o'))).set j none) = _
        apply List.ext_getElem?
        intro k
        by_cases hk : j = k
        · subst hk
          by_cases hl : j < ρ.length
          · rw [List.getElem?_set_self (by simp only [List.length_set]; exact hl), List.getElem?_set_ne hij, List.getElem?_set_self hl]
          · rw [List.getElem?_eq_none (by simp only [List.length_set]; omega), List.getElem?_eq_none (by simp only [List.length_set]; omega)]
        · rw [List.getElem?_set_ne hk]
          by_cases hk2 : i = k
          · subst hk2
            rw [List.getElem?_set_self (by simp only [List.length_set]; exact il), List.getElem?_set_self (by simp only [List.length_set]; exact il)]
          · rw [List.getElem?_set_ne hk2, List.getElem?_set_ne hk2, List.getElem?_set_ne hk, List.getElem?_set_ne hk2]
      have s5 := s4.wiped [j]
      rw [wσ, back] at s5
      have pm : p ∈ D :: O := List.mem_cons_of_mem _ pO
      have eG5 : Ext (hide O H1) (upd H4 p (.lst vs')) := (eG.trans e24).updN (hide_in pO) (fun c q z => by rw [hp4] at z; exact (plain_lst vs).1 c q (Option.some.inj z))
      refine ⟨acc, hD5, zl, hlt, o', acc ++ [v], accD ++ [yd], rs, s5.hid List.mem_cons_self aD0 hD5 (own o'), eG5.updN (hide_none nD) (fun c q z => by rw [hD5] at z; exact (plain_lst acc).1 c q (Option.some.inj z)), upd_same, ?_, ?_, ers, ?_⟩
      · rw [hide_upd List.mem_cons_self, hide_upd pm]
        exact (ra.mono (Sub.hide e24.keep)).append (.one r4)
      · rw [List.length_append]; simp; exact la
      · rw [List.append_assoc]; exact ey
  · have en : n = ds.length := by omega
    subst en
    refine .inl ⟨it.stop H' eG, ?_⟩
    rw [List.drop_length] at go
    cases go
    rw [List.append_nil] at ey
    subst ey
    refine fin D acc H' s1.ext s1.al aD aD0 hD ?_ ra
    have := it.len
    have := ra.length
    omega
section
variable {X : Cx} {Tb : List Addr} {W : WX} {pos : Pos} {x : Str}
theorem fs_retPops {i j : Nat} {e tg iter : Expr} {scope : Scope} {own : List (Str × Nat)} {fi : DnL} {fe : Dn} {apos npos cpos lpos tpos tpos2 : Pos} (hij : i ≠ j) (ho : X.N[i]? = some x) (ow : own.map (·.2) = [j]) (hc : X.calm = true) (hN : X.N.Nodup) (hm : X.mg "tuple" = none) (hi : PI X tg iter (tI X.K Tb W fi)) (ok : BlkOk X.N X.env.scope scope own)
    (hg : ∀ (s : Shared) (H : Hp) (C : Addr) (cl : List (Str × Addr)) (fp : List Addr), PG (X.blk s H scope (compEnvC scope cl C X.env) fp) tg (tG X.K Tb (.nm j)))
    (he : ∀ (s : Shared) (H : Hp) (C : Addr) (cl : List (Str × Addr)) (fp : List Addr), PE (X.blk s H scope (compEnvC scope cl C X.env) fp) (.Call (.Attribute (.Name x npos) "pop" apos) [e] [] cpos) (tPop X.K Tb i fe))
    (hgt : Gl X "tuple" := by rfl) (hs : ∀ x, foldedSetIterable iter X.env x = pure x := by intro _; rfl)
    (hse : starEach [.ListComp (.Call (.Attribute (.Name x npos) "pop" apos) [e] [] cpos) [⟨tg, iter, [], 0⟩] scope lpos] X.env = (false, eval (.ListComp (.Call (.Attribute (.Name x npos) "pop" apos) [e] [] cpos) [⟨tg, iter, [], 0⟩] scope lpos) X.env) :: starEach [] X.env := by rfl) (hpl : (backTo tpos2 (starEach [] X.env)).any (·.1) = false := by rfl) :
    PS X (.Return (some (.Call (.Name "tuple" tpos) [.ListComp (.Call (.Attribute (.Name x npos) "pop" apos) [e] [] cpos) [⟨tg, iter, [], 0⟩] scope lpos] [] tpos2)) pos) (tS X.K Tb W (gRetPops i j fi fe)) :=
  (ps_ret (pe_callTy call_tuple_of hgt hm boot_tuple (pa_cons (pe_lc (tt := tDT X.K Tb W0 dYes) hc hN hi ok hg (fun _ _ _ _ _ => ft_yes) he hs) pa_nil hse) (by decide) (by decide) hse hpl)).by fun D σ H ⟨H0, O0, O, ρ, st, h⟩ => by
    unfold gRetPops at h
    obtain ⟨ds0, p, vs, e1, e2, hp, z, r, h⟩ := own_at st h
    rw [ow]
    refine ⟨H0, O0, O, ρ, st, oR_post st h fun ds J H1 ex it k => ?_⟩
    cases q : popGo i j fe ρ ds0 ds with
    | exc y => rw [q] at k; exact k.elim
    | bad => rw [q] at k; exact k.elim
    | ok ys =>
      rw [q] at k
      refine pops_turns (Q := fun x H1 => ∃ p ys, [x] = [V.ref p] ∧ ((SqL X.K H1 p ys ∧ ∀ l, H1 l = none → D.rt (V.ref l) (upd H1 l (.tup ys))) ∨ (SqT X.K H1 p ys ∧ D.rt (.ref p) H1))) hij (st.step ex) e1 e2 it q fun Dl acc H' eH al nO nO0 hD zy ra => ?_
      refine ⟨Dl, acc, rfl, .inl ⟨.of hD, fun t ht => ?_⟩⟩
      have tO : t ∉ Dl :: O := fun m => al t m ht
      have tO0 : t ∉ O0 := fun m => tO (List.mem_cons_of_mem _ ((st.step ex).sub t m))
      refine k (.ref t) _ (eH.trans (Ext.new ht)) (.tup (xs := acc) (.inl (.inl ?_)) zy ?_)
      · rw [hide_out tO0, upd_same]
      · refine ra.mono fun b o hb tb => ?_
        obtain ⟨n1, hb⟩ := hide_some hb
        rw [hide_out (fun m => n1 (List.mem_cons_of_mem _ ((st.step ex).sub b m))), upd_ne (ne_of_none hb ht)]
        exact hb
end
end PD

set_option Elab.async false
set_option linter.all false
set_option maxRecDepth 100000
set_option maxHeartbeats 1000000
namespace PD
open PySem PySem.Spec PyProof.Rows L2

/-! ### typed data -/
def tu (l : List Int) : PyData := .tuple (l.map .int)
def li (l : List Int) : PyData := .list (l.map .int)
def lt (ls : List (List Int)) : PyData := .list (ls.map tu)
def tt (ls : List (List Int)) : PyData := .tuple (ls.map tu)
@[simp] theorem tu_eq (l : List Int) : PyData.tuple (l.map PyData.int) = tu l := rfl
@[simp] theorem li_eq (l : List Int) : PyData.list (l.map PyData.int) = li l := rfl
@[simp] theorem lt_eq (ls : List (List Int)) : PyData.list (ls.map tu) = lt ls := rfl
@[simp] theorem tt_eq (ls : List (List Int)) : PyData.tuple (ls.map tu) = tt ls := rfl
@[simp] theorem tu_eq' {α : Type} (l : List α) (f : α → Int) : PyData.tuple (l.map fun x => PyData.int (f x)) = tu (l.map f) := by unfold tu; rw [List.map_map]; rfl
@[simp] theorem li_eq' {α : Type} (l : List α) (f : α → Int) : PyData.list (l.map fun x => PyData.int (f x)) = li (l.map f) := by unfold li; rw [List.map_map]; rfl
@[simp] theorem lt_eq' {α : Type} (l : List α) (f : α → List Int) : PyData.list (l.map fun x => tu (f x)) = lt (l.map f) := by unfold lt; rw [List.map_map]; rfl
@[simp] theorem tt_eq' {α : Type} (l : List α) (f : α → List Int) : PyData.tuple (l.map fun x => tu (f x)) = tt (l.map f) := by unfold tt; rw [List.map_map]; rfl
theorem tu_inj : ∀ {a b : List Int}, tu a = tu b → a = b := fun {a b} h => by
  have h : a.map PyData.int = b.map PyData.int := PyData.tuple.inj h
  exact (List.map_inj_right (fun _ _ e => PyData.int.inj e)).mp h
@[simp] theorem items_tu (l : List Int) : items (tu l) = .ok (l.map .int) := rfl
@[simp] theorem items_li (l : List Int) : items (li l) = .ok (l.map .int) := rfl
@[simp] theorem items_lt (l : List (List Int)) : items (lt l) = .ok (l.map tu) := rfl
@[simp] theorem items_tt (l : List (List Int)) : items (tt l) = .ok (l.map tu) := rfl
@[simp] theorem items_list (l : List PyData) : items (.list l) = .ok l := rfl
@[simp] theorem items_tuple (l : List PyData) : items (.tuple l) = .ok l := rfl

/-! ### shape -/
def dep (n : Nat) (d : PyData) : Prop := d.canLay0 = true ∧ d.depth ≤ n
theorem dep_int (i : Int) : dep 0 (.int i) := ⟨rfl, Nat.le_refl _⟩
theorem dep_bool (i : Bool) : dep 0 (.bool i) := ⟨rfl, Nat.le_refl _⟩
theorem dep_all {n : Nat} : ∀ {xs : List PyData}, (∀ x ∈ xs, dep n x) → PyData.canLayAll0 xs = true ∧ PyData.depthAll xs ≤ n
  | [], _ => ⟨rfl, Nat.zero_le _⟩
  | x :: xs, h => by
    obtain ⟨h1, h2⟩ := h x List.mem_cons_self
    obtain ⟨h3, h4⟩ := dep_all (xs := xs) fun y hy => h y (List.mem_cons_of_mem _ hy)
    refine ⟨?_, Nat.max_le.mpr ⟨h2, h4⟩⟩
    show (x.canLay0 && PyData.canLayAll0 xs) = true
    rw [h1, h3]; rfl
theorem dep_tuple {n : Nat} {xs : List PyData} (h : ∀ x ∈ xs, dep n x) : dep (n + 1) (.tuple xs) := ⟨(dep_all h).1, Nat.succ_le_succ (dep_all h).2⟩
theorem dep_list {n : Nat} {xs : List PyData} (h : ∀ x ∈ xs, dep n x) : dep (n + 1) (.list xs) := ⟨(dep_all h).1, Nat.succ_le_succ (dep_all h).2⟩
theorem dep_tu (l : List Int) : dep 1 (tu l) := dep_tuple fun x hx => by obtain ⟨i, _, rfl⟩ := List.mem_map.mp hx; exact dep_int i
theorem dep_li (l : List Int) : dep 1 (li l) := dep_list fun x hx => by obtain ⟨i, _, rfl⟩ := List.mem_map.mp hx; exact dep_int i
theorem dep_lt (l : List (List Int)) : dep 2 (lt l) := dep_list fun x hx => by obtain ⟨i, _, rfl⟩ := List.mem_map.mp hx; exact dep_tu i
theorem dep_tt (l : List (List Int)) : dep 2 (tt l) := dep_tuple fun x hx => by obtain ⟨i, _, rfl⟩ := List.mem_map.mp hx; exact dep_tu i
theorem shp_of {n : Nat} {d : PyData} (h : dep n d) (hn : n ≤ 64 := by decide) : shp d = true := by
  show (d.canLay0 && decide (d.depth ≤ 64)) = true
  rw [h.1, decide_eq_true (Nat.le_trans h.2 hn)]; rfl
@[simp] theorem shp_int (i : Int) : shp (.int i) = true := shp_of (dep_int i)
@[simp] theorem shp_bool (i : Bool) : shp (.bool i) = true := shp_of (dep_bool i)
@[simp] theorem shp_tu (l : List Int) : shp (tu l) = true := shp_of (dep_tu l)
@[simp] theorem shp_li (l : List Int) : shp (li l) = true := shp_of (dep_li l)
@[simp] theorem shp_lt (l : List (List Int)) : shp (lt l) = true := shp_of (dep_lt l)
@[simp] theorem shp_tt (l : List (List Int)) : shp (tt l) = true := shp_of (dep_tt l)

/-! ### equality -/
@[simp] theorem eqv_int (i j : Int) : PyData.eqv (.int i) (.int j) = (i == j) := by rw [PyData.eqv]
@[simp] theorem eqv_bool (i j : Bool) : PyData.eqv (.bool i) (.bool j) = (i == j) := by rw [PyData.eqv]
theorem eqvAll_map {α : Type} [DecidableEq α] {f : α → PyData} (h : ∀ a b, PyData.eqv (f a) (f b) = decide (a = b)) : ∀ xs ys : List α, PyData.eqvAll (xs.map f) (ys.map f) = decide (xs = ys)
  | [], [] => by rw [List.map_nil, PyData.eqvAll]; rfl
  | [], y :: ys => by rw [List.map_nil, List.map_cons, PyData.eqvAll]; rfl
  | x :: xs, [] => by rw [List.map_nil, List.map_cons, PyData.eqvAll]; rfl
  | x :: xs, y :: ys => by
    rw [List.map_cons, List.map_cons, PyData.eqvAll, h, eqvAll_map h xs ys]
    by_cases h1 : x = y <;> by_cases h2 : xs = ys <;> simp [h1, h2]
@[simp] theorem eqv_tu (a b : List Int) : PyData.eqv (tu a) (tu b) = decide (a = b) := by
  unfold tu; rw [PyData.eqv]
  exact eqvAll_map (fun i j => by rw [eqv_int]; rfl) a b
@[simp] theorem eqv_li (a b : List Int) : PyData.eqv (li a) (li b) = decide (a = b) := by
  unfold li; rw [PyData.eqv]
  exact eqvAll_map (fun i j => by rw [eqv_int]; rfl) a b
@[simp] theorem eqv_tt (a b : List (List Int)) : PyData.eqv (tt a) (tt b) = decide (a = b) := by
  unfold tt; rw [PyData.eqv]
  exact eqvAll_map eqv_tu a b
@[simp] theorem eqv_lt (a b : List (List Int)) : PyData.eqv (lt a) (lt b) = decide (a = b) := by
  unfold lt; rw [PyData.eqv]
  exact eqvAll_map eqv_tu a b
@[simp] theorem inD_ints (x : Int) (l : List Int) : inD (.int x) (l.map .int) = decide (x ∈ l) := by
  unfold inD
  induction l with
  | nil => rfl
  | cons y r ih =>
    rw [List.map_cons, List.any_cons, ih, eqv_int]
    by_cases h : y = x
    · subst h; simp
    · have h' : ¬ x = y := fun e => h e.symm
      simp [h, h']
@[simp] theorem inD_tus (x : List Int) (l : List (List Int)) : inD (tu x) (l.map tu) = decide (x ∈ l) := by
  unfold inD
  induction l with
  | nil => rfl
  | cons y r ih =>
    rw [List.map_cons, List.any_cons, ih, eqv_tu]
    by_cases h : y = x
    · subst h; simp
    · have h' : ¬ x = y := fun e => h e.symm
      simp [h, h']

/-! ### operations -/
@[simp] theorem oEq_int (i j : Int) : oEq (.int i) (.int j) = .ok (.bool (i == j)) := by simp [oEq]
@[simp] theorem oNe_int (i j : Int) : oNe (.int i) (.int j) = .ok (.bool (!(i == j))) := by simp [oNe]
@[simp] theorem oEq_bool (i j : Bool) : oEq (.bool i) (.bool j) = .ok (.bool (i == j)) := by simp [oEq]
@[simp] theorem oNe_bool (i j : Bool) : oNe (.bool i) (.bool j) = .ok (.bool (!(i == j))) := by simp [oNe]
@[simp] theorem oEq_tu (a b : List Int) : oEq (tu a) (tu b) = .ok (.bool (decide (a = b))) := by simp [oEq]
@[simp] theorem oNe_tu (a b : List Int) : oNe (tu a) (tu b) = .ok (.bool (!decide (a = b))) := by simp [oNe]
@[simp] theorem oEq_tt (a b : List (List Int)) : oEq (tt a) (tt b) = .ok (.bool (decide (a = b))) := by simp [oEq]
@[simp] theorem oNe_tt (a b : List (List Int)) : oNe (tt a) (tt b) = .ok (.bool (!decide (a = b))) := by simp [oNe]
@[simp] theorem oIn_tu (i : Int) (l : List Int) : oIn (.int i) (tu l) = .ok (.bool (decide (i ∈ l))) := by simp [oIn]
@[simp] theorem oNotIn_tu (i : Int) (l : List Int) : oNotIn (.int i) (tu l) = .ok (.bool (!decide (i ∈ l))) := by simp [oNotIn]
@[simp] theorem oIn_li (i : Int) (l : List Int) : oIn (.int i) (li l) = .ok (.bool (decide (i ∈ l))) := by simp [oIn]
@[simp] theorem oNotIn_li (i : Int) (l : List Int) : oNotIn (.int i) (li l) = .ok (.bool (!decide (i ∈ l))) := by simp [oNotIn]
@[simp] theorem oIn_tt (i : List Int) (l : List (List Int)) : oIn (tu i) (tt l) = .ok (.bool (decide (i ∈ l))) := by simp [oIn]
@[simp] theorem oIn_lt (i : List Int) (l : List (List Int)) : oIn (tu i) (lt l) = .ok (.bool (decide (i ∈ l))) := by simp [oIn]
@[simp] theorem oNotIn_lt (i : List Int) (l : List (List Int)) : oNotIn (tu i) (lt l) = .ok (.bool (!decide (i ∈ l))) := by simp [oNotIn]
@[simp] theorem oAdd_int (i j : Int) : oAdd (.int i) (.int j) = .ok (.int (i + j)) := rfl
@[simp] theorem oSub_int (i j : Int) : oSub (.int i) (.int j) = .ok (.int (i - j)) := rfl
@[simp] theorem oLt_int (i j : Int) : oLt (.int i) (.int j) = .ok (.bool (decide (i < j))) := rfl
@[simp] theorem oLe_int (i j : Int) : oLe (.int i) (.int j) = .ok (.bool (decide (i ≤ j))) := rfl
@[simp] theorem oGt_int (i j : Int) : oGt (.int i) (.int j) = .ok (.bool (decide (j < i))) := rfl
@[simp] theorem oGe_int (i j : Int) : oGe (.int i) (.int j) = .ok (.bool (decide (j ≤ i))) := rfl
theorem oMul_int {i j : Int} (h : CMul i j) : oMul (.int i) (.int j) = .ok (.int (i * j)) := if_pos h
theorem oMul_c (i : Int) (n : Nat) (h : decide (n < 2 ^ 64) = true := by decide) : oMul (.int i) (.int n) = .ok (.int (i * n)) := oMul_int (.inr ⟨by omega, by have := of_decide_eq_true h; omega⟩)
theorem oMod_int {i j : Int} (h : j ≠ 0) : oMod (.int i) (.int j) = .ok (.int (i.fmod j)) := if_pos h
theorem oDiv_int {i j : Int} (h : CDivN i j) : oDiv (.int i) (.int j) = .ok (.int (i.fdiv j)) := if_pos h
theorem oAdd_tu {a b : List Int} (h : a.length + b.length ≤ 100000) : oAdd (tu a) (tu b) = .ok (tu (a ++ b)) := by
  have e : oAdd (.tuple (a.map PyData.int)) (.tuple (b.map PyData.int)) = .ok (.tuple (a.map PyData.int ++ b.map PyData.int)) := if_pos (by rw [List.length_map, List.length_map, sizeLine_eq]; omega)
  rw [← List.map_append] at e
  exact e
theorem oAdd_li {a b : List Int} (h : a.length + b.length ≤ 100000) : oAdd (li a) (li b) = .ok (li (a ++ b)) := by
  have e : oAdd (.list (a.map PyData.int)) (.list (b.map PyData.int)) = .ok (.list (a.map PyData.int ++ b.map PyData.int)) := if_pos (by rw [List.length_map, List.length_map, sizeLine_eq]; omega)
  rw [← List.map_append] at e
  exact e
theorem oAdd_lt {a b : List (List Int)} (h : a.length + b.length ≤ 100000) : oAdd (lt a) (lt b) = .ok (lt (a ++ b)) := by
  have e : oAdd (.list (a.map tu)) (.list (b.map tu)) = .ok (.list (a.map tu ++ b.map tu)) := if_pos (by rw [List.length_map, List.length_map, sizeLine_eq]; omega)
  rw [← List.map_append] at e
  exact e
theorem atI_get {α β : Type} (f : α → β) {xs : List α} {i : Int} (h0 : 0 ≤ i) {x : α} (h : xs[i.toNat]? = some x) : atI (xs.map f) i = some (f x) := by
  have hl := (List.getElem?_eq_some_iff.mp h).1
  unfold atI ixN
  rw [if_pos h0, if_pos (by rw [List.length_map]; omega)]
  show (xs.map f)[i.toNat]? = _
  rw [List.getElem?_map, h]; rfl
theorem oIx_li {l : List Int} {i x : Int} (h0 : 0 ≤ i) (h : l[i.toNat]? = some x) : oIx (li l) (.int i) = .ok (.int x) := by
  show (match atI (l.map PyData.int) i with | some d => R.ok d | none => .bad) = _
  rw [atI_get _ h0 h]
theorem oIx_tu {l : List Int} {i x : Int} (h0 : 0 ≤ i) (h : l[i.toNat]? = some x) : oIx (tu l) (.int i) = .ok (.int x) := by
  show (match atI (l.map PyData.int) i with | some d => R.ok d | none => .bad) = _
  rw [atI_get _ h0 h]
theorem oIx_lt {l : List (List Int)} {i : Int} {x : List Int} (h0 : 0 ≤ i) (h : l[i.toNat]? = some x) : oIx (lt l) (.int i) = .ok (tu x) := by
  show (match atI (l.map tu) i with | some d => R.ok d | none => .bad) = _
  rw [atI_get _ h0 h]
theorem oIx_tt {l : List (List Int)} {i : Int} {x : List Int} (h0 : 0 ≤ i) (h : l[i.toNat]? = some x) : oIx (tt l) (.int i) = .ok (tu x) := by
  show (match atI (l.map tu) i with | some d => R.ok d | none => .bad) = _
  rw [atI_get _ h0 h]
@[simp] theorem oIx_pair0 (a b : PyData) : oIx (.tuple [a, b]) (.int 0) = .ok a := rfl
@[simp] theorem oIx_pair1 (a b : PyData) : oIx (.tuple [a, b]) (.int 1) = .ok b := rfl
@[simp] theorem bLen_tu (l : List Int) : bLen [tu l] = .ok (.int l.length) := by simp [bLen]
@[simp] theorem bLen_li (l : List Int) : bLen [li l] = .ok (.int l.length) := by simp [bLen]
@[simp] theorem bLen_lt (l : List (List Int)) : bLen [lt l] = .ok (.int l.length) := by simp [bLen]
@[simp] theorem bLen_tt (l : List (List Int)) : bLen [tt l] = .ok (.int l.length) := by simp [bLen]
@[simp] theorem bInt_int (i : Int) : bInt [.int i] = .ok (.int i) := rfl
@[simp] theorem bTuple_li (l : List Int) : bTuple [li l] = .ok (tu l) := rfl
@[simp] theorem bTuple_tu (l : List Int) : bTuple [tu l] = .ok (tu l) := rfl
@[simp] theorem bTuple_lt (l : List (List Int)) : bTuple [lt l] = .ok (tt l) := rfl
@[simp] theorem bTuple_tt (l : List (List Int)) : bTuple [tt l] = .ok (tt l) := rfl
@[simp] theorem bList_li (l : List Int) : bList [li l] = .ok (li l) := rfl
@[simp] theorem bList_tu (l : List Int) : bList [tu l] = .ok (li l) := rfl
@[simp] theorem bList_lt (l : List (List Int)) : bList [lt l] = .ok (lt l) := rfl
@[simp] theorem bList_tt (l : List (List Int)) : bList [tt l] = .ok (lt l) := rfl
@[simp] theorem asInts_map : ∀ l : List Int, asInts (l.map .int) = some l
  | [] => rfl
  | x :: r => by rw [List.map_cons, asInts, asInts_map r]; rfl
@[simp] theorem asBools_map : ∀ l : List Bool, asBools (l.map .bool) = some l
  | [] => rfl
  | x :: r => by rw [List.map_cons, asBools, asBools_map r]; rfl
theorem asBools_map' {α : Type} (f : α → Bool) (l : List α) : asBools (l.map fun x => PyData.bool (f x)) = some (l.map f) := by
  have := asBools_map (l.map f)
  rw [List.map_map] at this
  exact this
@[simp] theorem bAny_map {α : Type} (f : α → Bool) (l : List α) : bAny [.list (l.map fun x => PyData.bool (f x))] = .ok (.bool (l.any f)) := by
  show ofO (asBools (l.map fun x => PyData.bool (f x))) (fun ns => R.ok (PyData.bool (ns.any id))) = _
  rw [asBools_map']
  show R.ok (PyData.bool ((l.map f).any id)) = _
  rw [List.any_map]; rfl
@[simp] theorem bAll_map {α : Type} (f : α → Bool) (l : List α) : bAll [.list (l.map fun x => PyData.bool (f x))] = .ok (.bool (l.all f)) := by
  show ofO (asBools (l.map fun x => PyData.bool (f x))) (fun ns => R.ok (PyData.bool (ns.all id))) = _
  rw [asBools_map']
  show R.ok (PyData.bool ((l.map f).all id)) = _
  rw [List.all_map]; rfl
theorem bMax_li {l : List Int} (h : l ≠ []) : bMax [li l] = .ok (.int (maxI l)) := by
  show ofO (asInts (l.map PyData.int)) (fun ns => if 0 < ns.length then R.ok (PyData.int (maxI ns)) else .bad) = _
  rw [asInts_map]
  exact if_pos (List.length_pos_iff.mpr h)
theorem bMin_li {l : List Int} (h : l ≠ []) : bMin [li l] = .ok (.int (minI l)) := by
  show ofO (asInts (l.map PyData.int)) (fun ns => if 0 < ns.length then R.ok (PyData.int (minI ns)) else .bad) = _
  rw [asInts_map]
  exact if_pos (List.length_pos_iff.mpr h)
@[simp] theorem bSum_li (l : List Int) : bSum [li l] = .ok (.int l.sum) := by
  show ofO (asInts (l.map PyData.int)) (fun ns => R.ok (PyData.int ns.sum)) = _
  rw [asInts_map]; rfl
theorem isi_int (i : Int) : oIsi "int" (.int i) = .ok (.bool true) := by
  have : isiD "int" (.int i) = some true := by show kitB "int" "int" = _; decide +kernel
  unfold oIsi; rw [this]
theorem isi_int_b (i : Bool) : oIsi "int" (.bool i) = .ok (.bool true) := by
  have : isiD "int" (.bool i) = some true := by show kitB "bool" "int" = _; decide +kernel
  unfold oIsi; rw [this]
theorem isi_bool (i : Int) : oIsi "bool" (.int i) = .ok (.bool false) := by
  have : isiD "bool" (.int i) = some false := by show kitB "int" "bool" = _; decide +kernel
  unfold oIsi; rw [this]
theorem isi_bool_b (i : Bool) : oIsi "bool" (.bool i) = .ok (.bool true) := by
  have : isiD "bool" (.bool i) = some true := by show kitB "bool" "bool" = _; decide +kernel
  unfold oIsi; rw [this]
theorem isi_tuple (l : List PyData) : oIsi "tuple" (.tuple l) = .ok (.bool true) := by
  have : isiD "tuple" (.tuple l) = some true := by show kitB "tuple" "tuple" = _; decide +kernel
  unfold oIsi; rw [this]
theorem isi_tu (l : List Int) : oIsi "tuple" (tu l) = .ok (.bool true) := isi_tuple _
theorem isi_tt (l : List (List Int)) : oIsi "tuple" (tt l) = .ok (.bool true) := isi_tuple _
end PD

set_option Elab.async false
set_option linter.all false
set_option maxRecDepth 100000
set_option maxHeartbeats 1000000
namespace PD
open PySem PySem.Spec PyProof.Rows L2

/-! ### evaluation -/
def varR : Option (Option Sl) → R PyData
  | some (some (.d x)) => .ok x
  | _ => .bad
@[simp] theorem varR_d (x : PyData) : varR (some (some (.d x))) = .ok x := rfl
@[simp] theorem ev_var (i : Nat) (ρ : Rho) : dVar i ρ = varR ρ[i]? := rfl
@[simp] theorem ev_c (x : PyData) (ρ : Rho) : dC x ρ = .ok x := rfl
@[simp] theorem ev_one (u : PyData → R PyData) (f : Dn) (ρ : Rho) : dOne u f ρ = (f ρ >>= u) := rfl
@[simp] theorem ev_two (u : PyData → PyData → R PyData) (f g : Dn) (ρ : Rho) : dTwo u f g ρ = (f ρ >>= fun a => g ρ >>= fun b => u a b) := rfl
@[simp] theorem ev_nil (ρ : Rho) : dNil ρ = .ok [] := rfl
@[simp] theorem ev_cons (f : Dn) (g : DnL) (ρ : Rho) : dCons f g ρ = (f ρ >>= fun a => g ρ >>= fun b => .ok (a :: b)) := rfl
@[simp] theorem ev_arg (m : List PyData → R PyData) (g : DnL) (ρ : Rho) : dArg m g ρ = (g ρ >>= m) := rfl
def tupR (xs : List PyData) : R PyData := if xs.length ≤ sizeLine then .ok (.tuple xs) else .bad
def lstR (xs : List PyData) : R PyData := if xs.length ≤ sizeLine then .ok (.list xs) else .bad
theorem tupR_ok {xs : List PyData} (h : xs.length ≤ 100000) : tupR xs = .ok (.tuple xs) := if_pos (by rw [sizeLine_eq]; omega)
theorem lstR_ok {xs : List PyData} (h : xs.length ≤ 100000) : lstR xs = .ok (.list xs) := if_pos (by rw [sizeLine_eq]; omega)
@[simp] theorem tupR_0 : tupR [] = .ok (.tuple []) := tupR_ok (by decide)
@[simp] theorem tupR_1 (a : PyData) : tupR [a] = .ok (.tuple [a]) := tupR_ok (by show 1 ≤ 100000; decide)
@[simp] theorem tupR_2 (a b : PyData) : tupR [a, b] = .ok (.tuple [a, b]) := tupR_ok (by show 2 ≤ 100000; decide)
@[simp] theorem tupR_3 (a b c : PyData) : tupR [a, b, c] = .ok (.tuple [a, b, c]) := tupR_ok (by show 3 ≤ 100000; decide)
@[simp] theorem tupR_4 (a b c d : PyData) : tupR [a, b, c, d] = .ok (.tuple [a, b, c, d]) := tupR_ok (by show 4 ≤ 100000; decide)
@[simp] theorem tupR_5 (a b c d e : PyData) : tupR [a, b, c, d, e] = .ok (.tuple [a, b, c, d, e]) := tupR_ok (by show 5 ≤ 100000; decide)
@[simp] theorem tupR_6 (a b c d e f : PyData) : tupR [a, b, c, d, e, f] = .ok (.tuple [a, b, c, d, e, f]) := tupR_ok (by show 6 ≤ 100000; decide)
@[simp] theorem tupR_7 (a b c d e f g : PyData) : tupR [a, b, c, d, e, f, g] = .ok (.tuple [a, b, c, d, e, f, g]) := tupR_ok (by show 7 ≤ 100000; decide)
@[simp] theorem tupR_8 (a b c d e f g h : PyData) : tupR [a, b, c, d, e, f, g, h] = .ok (.tuple [a, b, c, d, e, f, g, h]) := tupR_ok (by show 8 ≤ 100000; decide)
@[simp] theorem lstR_0 : lstR [] = .ok (.list []) := lstR_ok (by decide)
@[simp] theorem lstR_1 (a : PyData) : lstR [a] = .ok (.list [a]) := lstR_ok (by show 1 ≤ 100000; decide)
@[simp] theorem lstR_2 (a b : PyData) : lstR [a, b] = .ok (.list [a, b]) := lstR_ok (by show 2 ≤ 100000; decide)
@[simp] theorem lstR_3 (a b c : PyData) : lstR [a, b, c] = .ok (.list [a, b, c]) := lstR_ok (by show 3 ≤ 100000; decide)
@[simp] theorem ev_tup (g : DnL) (ρ : Rho) : dTup g ρ = (g ρ >>= tupR) := rfl
@[simp] theorem ev_lst (g : DnL) (ρ : Rho) : dLst g ρ = (g ρ >>= lstR) := rfl
@[simp] theorem tu_0 : PyData.tuple [] = tu [] := rfl
@[simp] theorem tu_1 (a : Int) : PyData.tuple [.int a] = tu [a] := rfl
@[simp] theorem tu_6 (a b c d e f : Int) : PyData.tuple [.int a, .int b, .int c, .int d, .int e, .int f] = tu [a, b, c, d, e, f] := rfl
@[simp] theorem tu_8 (a b c d e f g h : Int) : PyData.tuple [.int a, .int b, .int c, .int d, .int e, .int f, .int g, .int h] = tu [a, b, c, d, e, f, g, h] := rfl
@[simp] theorem li_3 (a b c : Int) : PyData.list [.int a, .int b, .int c] = li [a, b, c] := rfl
@[simp] theorem lt_1 (a : List Int) : PyData.list [tu a] = lt [a] := rfl
@[simp] theorem asB_bool (b : Bool) : asB (.bool b) = .ok b := rfl
@[simp] theorem asI_int (b : Int) : asI (.int b) = .ok b := rfl
@[simp] theorem ev_asB (f : Dn) (ρ : Rho) : dAsB f ρ = (f ρ >>= asB) := rfl
@[simp] theorem ev_and (f g : DnB) (ρ : Rho) : dAnd f g ρ = (f ρ >>= fun b => if b = true then g ρ else .ok false) := rfl
@[simp] theorem ev_or (f g : DnB) (ρ : Rho) : dOr f g ρ = (f ρ >>= fun b => if b = true then .ok true else g ρ) := rfl
@[simp] theorem ev_not (f : DnB) (ρ : Rho) : dNot f ρ = (f ρ >>= fun b => .ok (!b)) := rfl
@[simp] theorem ev_andV (f g : Dn) (ρ : Rho) : dAndV f g ρ = (f ρ >>= fun a => asB a >>= fun b => if b = true then g ρ else .ok (.bool false)) := rfl
@[simp] theorem ev_orV (f g : Dn) (ρ : Rho) : dOrV f g ρ = (f ρ >>= fun a => asB a >>= fun b => if b = true then .ok (.bool true) else g ρ) := rfl
@[simp] theorem ev_notV (f : Dn) (ρ : Rho) : dNotV f ρ = (f ρ >>= fun a => asB a >>= fun b => .ok (.bool (!b))) := rfl
@[simp] theorem ev_if (c : DnB) (f g : Dn) (ρ : Rho) : dIf c f g ρ = (c ρ >>= fun b => if b = true then f ρ else g ρ) := rfl
@[simp] theorem ev_cut (f : Dn) (l h : DnO) (ρ : Rho) : dCut f l h ρ = (f ρ >>= fun a => l ρ >>= fun l => h ρ >>= fun h => oCut a l h) := rfl
@[simp] theorem ev_noP (ρ : Rho) : dNoP ρ = .ok none := rfl
@[simp] theorem ev_part (f : Dn) (ρ : Rho) : dPart f ρ = (f ρ >>= fun a => asI a >>= fun i => .ok (some i)) := rfl
@[simp] theorem ev_yes (ρ : Rho) : dYes ρ = .ok true := rfl
@[simp] theorem ev_items (f : Dn) (ρ : Rho) : dItems f ρ = (f ρ >>= items) := rfl
@[simp] theorem ev_rng1 (g : DnL) (ρ : Rho) : dRng1 g ρ = (g ρ >>= rngA1) := rfl
@[simp] theorem ev_rng2 (g : DnL) (ρ : Rho) : dRng2 g ρ = (g ρ >>= rngA2) := rfl
@[simp] theorem ev_thawB (f : DnB) (ρ : Rho) : dThawB f ρ = nx (f (thaw ρ)) .ok := rfl
@[simp] theorem ev_thaw (f : Dn) (ρ : Rho) : dThaw f ρ = nx (f (thaw ρ)) fun d => if flat d = true then .ok d else .bad := rfl
def rangeI (lo hi : Int) : List Int := (List.range (hi - lo).toNat).map fun i => lo + (i : Nat)
theorem rngD_eq (lo : Int) (n : Nat) : rngD lo n = ((List.range n).map fun i => lo + (i : Nat)).map PyData.int := by unfold rngD; rw [List.map_map]; rfl
theorem rngA1_ok {n : Int} (h : n ≤ 100000) (h0 : -1000 ≤ n) : rngA1 [.int n] = .ok ((rangeI 0 n).map PyData.int) := by
  have e : rngA1 [.int n] = .ok (rngD 0 n.toNat) := if_pos ⟨by omega, by rw [sizeLine_eq]; omega⟩
  rw [e, rngD_eq]
  unfold rangeI
  rw [Int.sub_zero]
theorem mem_rangeI {lo hi x : Int} : x ∈ rangeI lo hi ↔ lo ≤ x ∧ x < hi := by
  unfold rangeI
  rw [List.mem_map]
  constructor
  · rintro ⟨i, hi', rfl⟩
    have := List.mem_range.mp hi'
    omega
  · intro ⟨h1, h2⟩
    exact ⟨(x - lo).toNat, List.mem_range.mpr (by omega), by omega⟩
theorem rangeI_len (lo hi : Int) : (rangeI lo hi).length = (hi - lo).toNat := by unfold rangeI; rw [List.length_map, List.length_range]
theorem rangeI_asc (lo hi : Int) : (rangeI lo hi).Pairwise (· < ·) := by
  unfold rangeI
  rw [List.pairwise_map]
  exact List.Pairwise.imp (fun h => by omega) List.pairwise_lt_range
theorem rangeI_get {lo hi : Int} {j : Nat} (h : j < (hi - lo).toNat) : (rangeI lo hi)[j]? = some (lo + (j : Nat)) := by
  unfold rangeI
  rw [List.getElem?_map, List.getElem?_range h]; rfl

/-! ### comprehensions -/
def lcR {α β : Type} (p : α → R Bool) (f : α → R β) : List α → R (List β)
  | [] => .ok []
  | x :: xs => nx (p x) fun b => if b = true then nx (f x) fun y => nx (lcR p f xs) fun ys => .ok (y :: ys) else lcR p f xs
theorem lcGo_nm (i : Nat) (ft : DnB) (fe : Dn) (ρ : Rho) : ∀ ds : List PyData, lcGo (.nm i) ft fe ρ ds = lcR (fun d => ft (ρ.set i (some (.d d)))) (fun d => fe (ρ.set i (some (.d d)))) ds
  | [] => rfl
  | d :: ds => by
    show nx _ _ = nx _ _
    simp only [lcGo_nm i ft fe ρ ds]
@[simp] theorem lcR_map {α β γ : Type} (p : α → R Bool) (f : α → R β) (g : γ → α) : ∀ xs : List γ, lcR p f (xs.map g) = lcR (fun x => p (g x)) (fun x => f (g x)) xs
  | [] => rfl
  | x :: xs => by
    show nx _ _ = nx _ _
    simp only [lcR_map p f g xs]
@[simp] theorem lcR_ok {α β : Type} (p : α → Bool) (f : α → β) : ∀ xs : List α, lcR (fun x => .ok (p x)) (fun x => .ok (f x)) xs = .ok ((xs.filter p).map f)
  | [] => rfl
  | x :: xs => by
    show (if p x = true then nx (lcR _ _ xs) _ else lcR _ _ xs) = _
    rw [lcR_ok p f xs]
    cases h : p x <;> simp [h]
@[simp high] theorem lcR_all {α β : Type} (f : α → β) (xs : List α) : lcR (fun _ => .ok true) (fun x => .ok (f x)) xs = .ok (xs.map f) := by
  rw [lcR_ok (fun _ => true) f xs, List.filter_eq_self.mpr (fun _ _ => rfl)]
theorem lcR_of {α β : Type} {p : α → R Bool} {f : α → R β} {q : α → Bool} {g : α → β} : ∀ {xs : List α}, (∀ x ∈ xs, p x = .ok (q x) ∧ (q x = true → f x = .ok (g x))) → lcR p f xs = .ok ((xs.filter q).map g)
  | [], _ => rfl
  | x :: xs, h => by
    obtain ⟨h1, h2⟩ := h x List.mem_cons_self
    show nx (p x) _ = _
    rw [h1, lcR_of (xs := xs) fun y hy => h y (List.mem_cons_of_mem _ hy)]
    cases e : q x with
    | false => simp [e]
    | true => rw [h2 e]; simp [e]
/-- every element evaluates to something with P -/
theorem lcR_some {α β : Type} {f : α → R PyData} {enc : β → PyData} {P : β → Prop} : ∀ {xs : List α}, (∀ x ∈ xs, ∃ y, f x = .ok (enc y) ∧ P y) → ∃ ys : List β, lcR (fun _ => .ok true) f xs = .ok (ys.map enc) ∧ ys.length = xs.length ∧ ∀ y ∈ ys, P y
  | [], _ => ⟨[], rfl, rfl, by simp⟩
  | x :: xs, h => by
    obtain ⟨y, h1, h2⟩ := h x List.mem_cons_self
    obtain ⟨ys, h3, h4, h5⟩ := lcR_some (xs := xs) fun y hy => h y (List.mem_cons_of_mem _ hy)
    refine ⟨y :: ys, ?_, by simp [h4], fun z hz => ?_⟩
    · show nx (f x) _ = _
      rw [h1, h3]; rfl
    · rcases List.mem_cons.mp hz with rfl | hz
      · exact h2
      · exact h5 z hz
@[simp] theorem ev_lc (fi : DnL) (i : Nat) (ft : DnB) (fe : Dn) (vs : List Nat) (ρ : Rho) : dLc fi (.nm i) ft fe vs ρ = (fi ρ >>= fun ds => nx (lcR (fun d => ft ((wipeR ρ vs).set i (some (.d d)))) (fun d => fe ((wipeR ρ vs).set i (some (.d d)))) ds) fun ys => .ok (.list ys)) := by
  show (fi ρ >>= fun ds => nx (lcGo (.nm i) ft fe (wipeR ρ vs) ds) fun ys => R.ok (PyData.list ys)) = _
  simp only [lcGo_nm]
@[simp] theorem wipe_0 (ρ : Rho) : wipeR ρ [] = ρ := rfl
@[simp] theorem wipe_1 (ρ : Rho) (v : Nat) (vs : List Nat) : wipeR ρ (v :: vs) = (wipeR ρ vs).set v none := rfl
def anyR {α : Type} (stop : Bool) (f : α → R PyData) : List α → R Bool
  | [] => .ok (!stop)
  | x :: xs => nx (f x) fun y => match y with
    | .bool c => if c = stop then .ok stop else anyR stop f xs
    | _ => .bad
theorem anyGo_nm (stop : Bool) (i : Nat) (fe : Dn) (ρ : Rho) : ∀ ds : List PyData, anyGo stop (.nm i) dYes fe ρ ds = anyR stop (fun d => fe (ρ.set i (some (.d d)))) ds
  | [] => rfl
  | d :: ds => by
    show nx (fe (ρ.set i (some (.d d)))) _ = nx (fe (ρ.set i (some (.d d)))) _
    cases fe (ρ.set i (some (.d d))) with
    | exc e => rfl
    | bad => rfl
    | ok y =>
      show (match y with | .bool c => if c = stop then R.ok stop else anyGo stop (.nm i) dYes fe ρ ds | _ => .bad) = _
      rw [anyGo_nm stop i fe ρ ds]
      cases y <;> rfl
theorem anyR_map {α γ : Type} (stop : Bool) (f : α → R PyData) (g : γ → α) : ∀ xs : List γ, anyR stop f (xs.map g) = anyR stop (fun x => f (g x)) xs
  | [] => rfl
  | x :: xs => by
    show nx _ _ = nx _ _
    simp only [anyR_map stop f g xs]
theorem anyR_of {α : Type} {f : α → R PyData} {q : α → Bool} : ∀ {xs : List α}, (∀ x ∈ xs, f x = .ok (.bool (q x))) → anyR true f xs = .ok (xs.any q)
  | [], _ => rfl
  | x :: xs, h => by
    show nx (f x) _ = _
    rw [h x List.mem_cons_self]
    show (if q x = true then R.ok true else anyR true f xs) = _
    rw [anyR_of (xs := xs) fun y hy => h y (List.mem_cons_of_mem _ hy), List.any_cons]
    cases q x <;> simp
theorem allR_of {α : Type} {f : α → R PyData} {q : α → Bool} : ∀ {xs : List α}, (∀ x ∈ xs, f x = .ok (.bool (q x))) → anyR false f xs = .ok (xs.all q)
  | [], _ => rfl
  | x :: xs, h => by
    show nx (f x) _ = _
    rw [h x List.mem_cons_self]
    show (if q x = false then R.ok false else anyR false f xs) = _
    rw [allR_of (xs := xs) fun y hy => h y (List.mem_cons_of_mem _ hy), List.all_cons]
    cases q x <;> simp
@[simp] theorem ev_anyG (stop : Bool) (fi : DnL) (i : Nat) (fe : Dn) (vs : List Nat) (ρ : Rho) : dAnyG stop fi (.nm i) dYes fe vs ρ = (fi ρ >>= fun ds => nx (anyR stop (fun d => fe ((wipeR ρ vs).set i (some (.d d)))) ds) fun b => .ok (.bool b)) := by
  show (fi ρ >>= fun ds => nx (anyGo stop (.nm i) dYes fe (wipeR ρ vs) ds) fun b => R.ok (PyData.bool b)) = _
  simp only [anyGo_nm]

@[simp] theorem ite_ok {α : Type} (c : Prop) [Decidable c] (a b : α) : (if c then R.ok a else R.ok b) = R.ok (if c then a else b) := by split <;> rfl
@[simp] theorem ite_int (c : Prop) [Decidable c] (a b : Int) : (if c then PyData.int a else PyData.int b) = PyData.int (if c then a else b) := by split <;> rfl
@[simp] theorem ite_bool (c : Prop) [Decidable c] (a b : Bool) : (if c then PyData.bool a else PyData.bool b) = PyData.bool (if c then a else b) := by split <;> rfl
@[simp] theorem ite_tu (c : Prop) [Decidable c] (a b : List Int) : (if c then tu a else tu b) = tu (if c then a else b) := by split <;> rfl

/-! ### statements -/
def seqO (o : Out) (h : Sn) : Out := match o with
  | .nx ρ' => h ρ'
  | o => o
@[simp] theorem seqO_nx (ρ : Rho) (h : Sn) : seqO (.nx ρ) h = h ρ := rfl
@[simp] theorem seqO_rt (d : PyData) (h : Sn) : seqO (.rt d) h = .rt d := rfl
@[simp] theorem seqO_ct (ρ : Rho) (h : Sn) : seqO (.ct ρ) h = .ct ρ := rfl
@[simp] theorem seqO_bk (ρ : Rho) (h : Sn) : seqO (.bk ρ) h = .bk ρ := rfl
@[simp] theorem ev_seq (g h : Sn) (ρ : Rho) : gSeq g h ρ = seqO (g ρ) h := rfl
@[simp] theorem ev_skip (ρ : Rho) : gSkip ρ = .nx ρ := rfl
@[simp] theorem oR_ok {α : Type} (a : α) (ρ : Rho) (k : α → Out) : oR (.ok a) ρ k = k a := rfl
@[simp] theorem oO_some (ρ : Rho) : oO (some ρ) = .nx ρ := rfl
@[simp] theorem set_nm (i : Nat) (d : PyData) (ρ : Rho) : Tg.set (.nm i) d ρ = some (ρ.set i (some (.d d))) := by rw [Tg.set]
@[simp] theorem set_tp2 (i j : Nat) (a b : PyData) (ρ : Rho) : Tg.set (.tp [.nm i, .nm j]) (.tuple [a, b]) ρ = some ((ρ.set i (some (.d a))).set j (some (.d b))) := by
  simp [Tg.set, Tg.sets]
@[simp] theorem ev_set (f : Dn) (t : Tg) (ρ : Rho) : gSet f t ρ = oR (f ρ) ρ fun d => oO (t.set d ρ) := rfl
@[simp] theorem ev_ret (f : Dn) (ρ : Rho) : gRet f ρ = oR (f ρ) ρ .rt := rfl
@[simp] theorem ev_expr (f : Dn) (ρ : Rho) : gExpr f ρ = oR (f ρ) ρ fun _ => .nx ρ := rfl
@[simp] theorem ev_ifs (c : DnB) (g h : Sn) (ρ : Rho) : gIf c g h ρ = oR (c ρ) ρ fun b => if b = true then g ρ else h ρ := rfl
@[simp] theorem ev_for (fi : DnL) (t : Tg) (g : Sn) (ρ : Rho) : gFor fi t g ρ = oR (fi ρ) ρ fun ds => forGo t g ds ρ := rfl
def frzO (o : Option Rho) (g : Sn) : Out := match o with
  | some ρ' => g ρ'
  | none => .bad
@[simp] theorem frzO_some (ρ : Rho) (g : Sn) : frzO (some ρ) g = g ρ := rfl
@[simp] theorem ev_frz (i : Nat) (g : Sn) (ρ : Rho) : gFrz i g ρ = frzO (frz i ρ) g := rfl
def frzS (o : Option (Option Sl)) (ρ : Rho) (i : Nat) : Option Rho := match o with
  | some (some (.own ds)) => some (ρ.set i (some (.d (.list ds))))
  | _ => none
@[simp] theorem frzS_own (ds : List PyData) (ρ : Rho) (i : Nat) : frzS (some (some (.own ds))) ρ i = some (ρ.set i (some (.d (.list ds)))) := rfl
@[simp] theorem ev_frzs (i : Nat) (ρ : Rho) : frz i ρ = frzS ρ[i]? ρ i := rfl
def ownR (d : PyData) (ρ : Rho) (i : Nat) : Out := match d with
  | .list ds => .nx (ρ.set i (some (.own ds)))
  | _ => .bad
@[simp] theorem ownR_list (ds : List PyData) (ρ : Rho) (i : Nat) : ownR (.list ds) ρ i = .nx (ρ.set i (some (.own ds))) := rfl
@[simp] theorem ownR_li (l : List Int) (ρ : Rho) (i : Nat) : ownR (li l) ρ i = .nx (ρ.set i (some (.own (l.map .int)))) := rfl
@[simp] theorem ownR_lt (l : List (List Int)) (ρ : Rho) (i : Nat) : ownR (lt l) ρ i = .nx (ρ.set i (some (.own (l.map tu)))) := rfl
@[simp] theorem ev_own (f : Dn) (i : Nat) (ρ : Rho) : gOwn f i ρ = oR (f ρ) ρ fun d => ownR d ρ i := rfl
def ownA (o : Option (Option Sl)) (k : List PyData → Out) : Out := match o with
  | some (some (.own ds)) => k ds
  | _ => .bad
@[simp] theorem ownA_own (ds : List PyData) (k : List PyData → Out) : ownA (some (some (.own ds))) k = k ds := rfl
@[simp] theorem ev_app (i : Nat) (f : Dn) (ρ : Rho) : gApp i f ρ = ownA ρ[i]? fun ds => oR (f ρ) ρ fun d => if ds.length < sizeLine then .nx (ρ.set i (some (.own (ds ++ [d])))) else .bad := rfl
def thaw1 : Option Sl → Option Sl
  | some (.own ds) => some (.d (.list ds))
  | some (.dct ks) => some (.d (.dict (ks.map fun k => (.tuple (k.map .int), .bool true))))
  | s => s
@[simp] theorem thaw1_dct (ks : List (List Int)) : thaw1 (some (.dct ks)) = some (.d (.dict (ks.map fun k => (.tuple (k.map .int), .bool true)))) := rfl
@[simp] theorem thaw1_own (ds : List PyData) : thaw1 (some (.own ds)) = some (.d (.list ds)) := rfl
@[simp] theorem thaw1_d (d : PyData) : thaw1 (some (.d d)) = some (.d d) := rfl
@[simp] theorem thaw1_none : thaw1 none = none := rfl
@[simp] theorem thaw_nil : thaw [] = [] := rfl
@[simp] theorem thaw_cons (s : Option Sl) (r : Rho) : thaw (s :: r) = thaw1 s :: thaw r := rfl
@[simp] theorem endR_rt (d : PyData) : endR (.rt d) = .ok d := rfl
theorem line_lt {n : Nat} (h : n < 100000) : n < sizeLine := by rw [sizeLine_eq]; omega

/-- a for loop: S holds of what is left to walk -/
theorem forGo_inv {α : Type} {enc : α → PyData} {i : Nat} {g : Sn} (S : List α → Rho → Prop) (hs : ∀ x xs ρ, S (x :: xs) ρ → ∃ ρ', g (ρ.set i (some (.d (enc x)))) = .nx ρ' ∧ S xs ρ') :
    ∀ (xs : List α) (ρ : Rho), S xs ρ → ∃ ρ', forGo (.nm i) g (xs.map enc) ρ = .nx ρ' ∧ S [] ρ'
  | [], ρ, h => ⟨ρ, rfl, h⟩
  | x :: xs, ρ, h => by
    obtain ⟨ρ1, e1, h1⟩ := hs x xs ρ h
    obtain ⟨ρ2, e2, h2⟩ := forGo_inv S hs xs ρ1 h1
    refine ⟨ρ2, ?_, h2⟩
    rw [List.map_cons]
    unfold forGo
    rw [set_nm]
    show (match g (ρ.set i (some (.d (enc x)))) with | .nx ρ => forGo (.nm i) g (xs.map enc) ρ | .ct ρ => forGo (.nm i) g (xs.map enc) ρ | .bk ρ => .nx ρ | o => o) = _
    rw [e1]
    exact e2

@[simp] theorem bAbs_int (i : Int) : bAbs [.int i] = .ok (.int (if i < 0 then -i else i)) := rfl
@[simp] theorem bMin2_int (i j : Int) : bMin2 [.int i, .int j] = .ok (.int (if j < i then j else i)) := rfl
@[simp] theorem bMax2_int (i j : Int) : bMax2 [.int i, .int j] = .ok (.int (if j > i then j else i)) := rfl
@[simp] theorem oPow_10_18 : oPow (.int 10) (.int 18) = .ok (.int 1000000000000000000) := by
  have h : CPow 10 18 := ⟨by decide, by decide, by decide⟩
  show (if CPow 10 18 then R.ok (PyData.int (10 ^ (18 : Int).toNat)) else .bad) = _
  rw [if_pos h]; rfl
theorem oMul_r {i j : Int} (h1 : -18446744073709551616 < j) (h2 : j < 18446744073709551616) : oMul (.int i) (.int j) = .ok (.int (i * j)) := oMul_int (.inr ⟨by omega, by omega⟩)
theorem oMul_l {i j : Int} (h1 : -18446744073709551616 < i) (h2 : i < 18446744073709551616) : oMul (.int i) (.int j) = .ok (.int (i * j)) := oMul_int (.inl ⟨by omega, by omega⟩)
theorem oDiv_lit {i j : Int} (h1 : j ≠ 0) (h2 : j.natAbs < 1073741824) : oDiv (.int i) (.int j) = .ok (.int (i.fdiv j)) := oDiv_int ⟨h1, h2⟩
theorem fmod_lo (a : Int) {b : Int} (h : 0 < b) : 0 ≤ a.fmod b := Int.fmod_nonneg_of_pos a h
theorem fmod_hi (a : Int) {b : Int} (h : 0 < b) : a.fmod b < b := Int.fmod_lt_of_pos a h

/-! ### sorting -/
def unInt : PyData → Int
  | .int i => i
  | _ => 0
def unTu : PyData → List Int
  | .tuple l => l.map unInt
  | _ => []
theorem unTu_tu (l : List Int) : unTu (tu l) = l := by
  show (l.map PyData.int).map unInt = l
  rw [List.map_map]
  exact List.map_id'' (fun _ => rfl) l
theorem alike_ints : ∀ a b : List Int, PySem.W.alikeAll (a.map PyData.int) (b.map PyData.int) = true
  | [], _ => by rw [List.map_nil, PySem.W.alikeAll]
  | _ :: _, [] => by rw [List.map_nil, List.map_cons, PySem.W.alikeAll]
  | x :: a, y :: b => by
    rw [List.map_cons, List.map_cons, PySem.W.alikeAll, alike_ints a b, PySem.W.alike]; rfl
theorem okSort_tus (ls : List (List Int)) : okSort (ls.map tu) = true := by
  unfold okSort
  have h1 : allAlike (ls.map tu) = true := by
    unfold allAlike
    rw [List.all_eq_true]
    intro d hd
    rw [List.all_eq_true]
    intro e he
    obtain ⟨a, _, rfl⟩ := List.mem_map.mp hd
    obtain ⟨b, _, rfl⟩ := List.mem_map.mp he
    show PySem.W.alike (.tuple _) (.tuple _) = true
    rw [PySem.W.alike]
    exact alike_ints a b
  have h2 : allTup (ls.map tu) = true := by
    unfold allTup
    rw [List.all_eq_true]
    intro d hd
    obtain ⟨a, _, rfl⟩ := List.mem_map.mp hd
    rfl
  have h3 : ((ls.map tu).all fun d => decide (d.depth ≤ 60)) = true := by
    rw [List.all_eq_true]
    intro d hd
    obtain ⟨a, _, rfl⟩ := List.mem_map.mp hd
    exact decide_eq_true (Nat.le_trans (dep_tu a).2 (by decide))
  rw [h1, h2, h3]; rfl
def sortT (ls : List (List Int)) : List (List Int) := (sortD (ls.map tu)).map unTu
theorem sortD_tus (ls : List (List Int)) : sortD (ls.map tu) = (sortT ls).map tu ∧ (sortT ls).Perm ls := by
  have p : (sortD (ls.map tu)).Perm (ls.map tu) := List.mergeSort_perm _ _
  have all : ∀ d ∈ sortD (ls.map tu), tu (unTu d) = d := fun d hd => by
    obtain ⟨a, _, rfl⟩ := List.mem_map.mp (p.subset hd)
    rw [unTu_tu]
  refine ⟨?_, ?_⟩
  · unfold sortT
    rw [List.map_map]
    have e : ∀ l : List PyData, (∀ d ∈ l, tu (unTu d) = d) → l.map (tu ∘ unTu) = l := fun l h => by
      induction l with
      | nil => rfl
      | cons d r ih => rw [List.map_cons, ih fun x hx => h x (List.mem_cons_of_mem _ hx)]; show tu (unTu d) :: r = _; rw [h d List.mem_cons_self]
    exact (e _ all).symm
  · have q := p.map unTu
    rw [List.map_map] at q
    have e : ls.map (unTu ∘ tu) = ls := List.map_id'' (fun l => unTu_tu l) ls
    rw [e] at q
    exact q
@[simp] theorem bSorted_lt (ls : List (List Int)) : bSorted [lt ls] = .ok (lt (sortT ls)) := by
  have e : bSorted [.list (ls.map tu)] = .ok (.list (sortD (ls.map tu))) := if_pos (okSort_tus ls)
  rw [(sortD_tus ls).1] at e
  exact e
theorem mem_sortT {ls : List (List Int)} {l : List Int} : l ∈ sortT ls ↔ l ∈ ls := (sortD_tus ls).2.mem_iff
theorem sortT_perm (ls : List (List Int)) : (sortT ls).Perm ls := (sortD_tus ls).2
end PD

set_option Elab.async false
set_option linter.all false
set_option maxRecDepth 100000
set_option maxHeartbeats 1000000
namespace PD
open PySem PySem.Spec PyProof.Rows L2
def popO (d : PyData) (ds : List PyData) (ρ : Rho) (i : Nat) : Out := match d with
  | .int k => match seqIndex? k ds.length with
    | some j => if -(2 ^ 63) ≤ k ∧ k < 2 ^ 63 ∧ j < ds.length then .nx (ρ.set i (some (.own (ds.eraseIdx j)))) else .bad
    | none => .bad
  | _ => .bad
@[simp] theorem ev_popAt (i : Nat) (f : Dn) (ρ : Rho) : gPopAt i f ρ = ownA ρ[i]? fun ds => oR (f ρ) ρ fun d => popO d ds ρ i := rfl
theorem eraseIdx_map' {α β : Type} (f : α → β) : ∀ (l : List α) (k : Nat), (l.map f).eraseIdx k = (l.eraseIdx k).map f
  | [], k => by cases k <;> rfl
  | a :: l, 0 => rfl
  | a :: l, k + 1 => by
    show f a :: (l.map f).eraseIdx k = f a :: (l.eraseIdx k).map f
    rw [eraseIdx_map' f l k]
theorem popO_map {α : Type} (f : α → PyData) {l : List α} {k : Int} (ρ : Rho) (i : Nat) (h0 : 0 ≤ k) (h1 : k < (l.length : Int)) (hz : l.length ≤ 100000) : popO (.int k) (l.map f) ρ i = .nx (ρ.set i (some (.own ((l.eraseIdx k.toNat).map f)))) := by
  have e : ixN (l.map f).length k = some k.toNat := by
    unfold ixN
    rw [if_pos h0, if_pos (by rw [List.length_map]; exact h1)]
  obtain ⟨e1, e2, _⟩ := ixN_seq e
  show (match seqIndex? k (l.map f).length with | some j => if -(2 ^ 63) ≤ k ∧ k < 2 ^ 63 ∧ j < (l.map f).length then Out.nx (ρ.set i (some (.own ((l.map f).eraseIdx j)))) else .bad | none => .bad) = _
  rw [e1]
  show (if -(2 ^ 63) ≤ k ∧ k < 2 ^ 63 ∧ k.toNat < (l.map f).length then Out.nx (ρ.set i (some (.own ((l.map f).eraseIdx k.toNat)))) else .bad) = _
  rw [if_pos ⟨by omega, by omega, e2⟩, eraseIdx_map']
@[simp] theorem flat_int (i : Int) : flat (.int i) = true := rfl
@[simp] theorem flat_bool (i : Bool) : flat (.bool i) = true := rfl
@[simp] theorem nx_bad {α β : Type} (k : α → R β) : nx .bad k = .bad := rfl
@[simp] theorem bLstR1_ok {n : Int} (h : rgOk 0 n = true) : bLstR1 (.int n) = .ok (li (rangeI 0 n)) := by
  have e : bLstR1 (.int n) = .ok (.list (lstRg 0 n)) := if_pos h
  rw [e]
  unfold lstRg li rangeI
  rw [List.map_map]; rfl
theorem rgOk_small {n : Int} (h : -1000 ≤ n) (h2 : n ≤ 100000) : rgOk 0 n = true := decide_eq_true ⟨by omega, by omega, by omega, by omega, by omega⟩
theorem cut_li (l : List Int) (k : Nat) (h : k ≤ l.length) : oCut (li l) (some (k : Int)) none = .ok (li (l.drop k)) := by
  show R.ok (PyData.list (cutD (l.map PyData.int) (some (k : Int)) none)) = _
  unfold cutD
  rw [HT.sIx_nat, HT.sIx_none, List.length_map, Nat.min_eq_left h, ← List.map_drop, List.take_of_length_le (by rw [List.length_map, List.length_drop]; omega)]
  rfl
/-- a for loop that may return -/
theorem forGo_may {α : Type} {enc : α → PyData} {i : Nat} {g : Sn} (S : List α → Rho → Prop) (Z : PyData → Prop) (hs : ∀ x xs ρ, S (x :: xs) ρ → (∃ ρ', g (ρ.set i (some (.d (enc x)))) = .nx ρ' ∧ S xs ρ') ∨ ∃ d, g (ρ.set i (some (.d (enc x)))) = .rt d ∧ Z d) :
    ∀ (xs : List α) (ρ : Rho), S xs ρ → (∃ ρ', forGo (.nm i) g (xs.map enc) ρ = .nx ρ' ∧ S [] ρ') ∨ ∃ d, forGo (.nm i) g (xs.map enc) ρ = .rt d ∧ Z d
  | [], ρ, h => .inl ⟨ρ, rfl, h⟩
  | x :: xs, ρ, h => by
    have e0 : forGo (.nm i) g ((x :: xs).map enc) ρ = (match g (ρ.set i (some (.d (enc x)))) with | .nx ρ => forGo (.nm i) g (xs.map enc) ρ | .ct ρ => forGo (.nm i) g (xs.map enc) ρ | .bk ρ => .nx ρ | o => o) := by
      rw [List.map_cons]
      conv => lhs; unfold forGo
      first | (rw [set_nm]; done) | (rw [set_nm]; rfl)
    rcases hs x xs ρ h with ⟨ρ1, e1, h1⟩ | ⟨d, e1, h1⟩
    · rw [e0, e1]
      exact forGo_may S Z hs xs ρ1 h1
    · rw [e0, e1]
      exact .inr ⟨d, rfl, h1⟩
end PD

set_option Elab.async false
set_option linter.all false
set_option maxRecDepth 100000
set_option maxHeartbeats 1000000
namespace PD
open PySem PySem.Spec PyProof.Rows L2
/-! ### sorted ints -/
theorem okSort_ints (l : List Int) : okSort (l.map PyData.int) = true := by
  unfold okSort
  have h1 : allAlike (l.map PyData.int) = true := by
    unfold allAlike
    rw [List.all_eq_true]
    intro d hd
    rw [List.all_eq_true]
    intro e he
    obtain ⟨a, _, rfl⟩ := List.mem_map.mp hd
    obtain ⟨b, _, rfl⟩ := List.mem_map.mp he
    rw [PySem.W.alike]
  have h2 : allNot (l.map PyData.int) = true := by
    unfold allNot
    rw [List.all_eq_true]
    intro d hd
    obtain ⟨a, _, rfl⟩ := List.mem_map.mp hd
    rfl
  have h3 : ((l.map PyData.int).all fun d => decide (d.depth ≤ 60)) = true := by
    rw [List.all_eq_true]
    intro d hd
    obtain ⟨a, _, rfl⟩ := List.mem_map.mp hd
    exact decide_eq_true (Nat.zero_le _)
  rw [h1, h2, h3, Bool.or_true]; rfl
def sortI (l : List Int) : List Int := (sortD (l.map PyData.int)).map unInt
theorem sortD_ints (l : List Int) : sortD (l.map PyData.int) = (sortI l).map PyData.int ∧ (sortI l).Perm l := by
  have p : (sortD (l.map PyData.int)).Perm (l.map PyData.int) := List.mergeSort_perm _ _
  have all : ∀ d ∈ sortD (l.map PyData.int), PyData.int (unInt d) = d := fun d hd => by
    obtain ⟨a, _, rfl⟩ := List.mem_map.mp (p.subset hd)
    rfl
  refine ⟨?_, ?_⟩
  · unfold sortI
    rw [List.map_map]
    have e : ∀ l : List PyData, (∀ d ∈ l, PyData.int (unInt d) = d) → l.map (PyData.int ∘ unInt) = l := fun l h => by
      induction l with
      | nil => rfl
      | cons d r ih => rw [List.map_cons, ih fun x hx => h x (List.mem_cons_of_mem _ hx)]; show PyData.int (unInt d) :: r = _; rw [h d List.mem_cons_self]
    exact (e _ all).symm
  · have q := p.map unInt
    rw [List.map_map] at q
    have e : l.map (unInt ∘ PyData.int) = l := List.map_id'' (fun _ => rfl) l
    rw [e] at q
    exact q
@[simp] theorem bSorted_li (l : List Int) : bSorted [li l] = .ok (li (sortI l)) := by
  have e : bSorted [.list (l.map .int)] = .ok (.list (sortD (l.map .int))) := if_pos (okSort_ints l)
  rw [(sortD_ints l).1] at e
  exact e
@[simp] theorem bSorted_tu (l : List Int) : bSorted [tu l] = .ok (li (sortI l)) := by
  have e : bSorted [.tuple (l.map .int)] = .ok (.list (sortD (l.map .int))) := if_pos (okSort_ints l)
  rw [(sortD_ints l).1] at e
  exact e
theorem mem_sortI {l : List Int} {x : Int} : x ∈ sortI l ↔ x ∈ l := (sortD_ints l).2.mem_iff
/-! ### dicts -/
@[simp] theorem asTu_tu (l : List Int) : asTu (tu l) = some l := asInts_ints l
theorem keysOf_keyD (ks : List (List Int)) : keysOf (ks.map keyD) = ks.map some := by
  unfold keysOf
  rw [List.map_map]
  exact List.map_congr_left fun k _ => asInts_ints k
@[simp] theorem oInT_tu (k : List Int) (ks : List (List Int)) : oInT (tu k) (.dict (ks.map keyD)) = .ok (.bool (decide (k ∈ ks))) := by
  show (match asTu (tu k) with | some k => R.ok (PyData.bool (decide (some k ∈ keysOf (ks.map keyD)))) | none => .bad) = _
  rw [asTu_tu, keysOf_keyD]
  show R.ok (PyData.bool (decide (some k ∈ ks.map some))) = _
  congr 2
  by_cases h : k ∈ ks <;> simp [h]
def insK (acc : List (List Int)) (k : List Int) : List (List Int) := if k ∈ acc then acc else acc ++ [k]
theorem mem_insK {acc : List (List Int)} {k x : List Int} : x ∈ insK acc k ↔ x ∈ acc ∨ x = k := by
  unfold insK
  split
  · constructor
    · exact .inl
    · rintro (h | rfl)
      · exact h
      · assumption
  · rw [List.mem_append, List.mem_singleton]
theorem mem_foldK {x : List Int} : ∀ {ks acc : List (List Int)}, x ∈ ks.foldl insK acc ↔ x ∈ acc ∨ x ∈ ks
  | [], acc => by simp
  | k :: ks, acc => by
    rw [List.foldl_cons, mem_foldK, mem_insK, List.mem_cons]
    constructor
    · rintro ((h | h) | h)
      · exact .inl h
      · exact .inr (.inl h)
      · exact .inr (.inr h)
    · rintro (h | h | h)
      · exact .inl (.inl h)
      · exact .inl (.inr h)
      · exact .inr h
theorem dcGo_all {α : Type} {enc : α → PyData} {kf : α → List Int} {i : Nat} {fk : Dn} {ρ : Rho} : ∀ {xs : List α} {acc : List (List Int)}, (∀ x ∈ xs, fk (ρ.set i (some (.d (enc x)))) = .ok (tu (kf x))) → dcGo (.nm i) dYes fk ρ (xs.map enc) acc = .ok ((xs.map kf).foldl insK acc)
  | [], _, _ => rfl
  | x :: xs, acc, h => by
    have e : dcGo (.nm i) dYes fk ρ ((x :: xs).map enc) acc = nx (fk (ρ.set i (some (.d (enc x))))) fun y => (match asTu y with
        | some k => dcGo (.nm i) dYes fk ρ (xs.map enc) (if k ∈ acc then acc else acc ++ [k])
        | none => .bad) := by
      rw [List.map_cons]
      conv => lhs; unfold dcGo
      rw [set_nm]
      first | done | rfl
    rw [e, h x List.mem_cons_self]
    show (match asTu (tu (kf x)) with | some k => dcGo (.nm i) dYes fk ρ (xs.map enc) (if k ∈ acc then acc else acc ++ [k]) | none => .bad) = _
    rw [asTu_tu]
    show dcGo (.nm i) dYes fk ρ (xs.map enc) (insK acc (kf x)) = _
    rw [dcGo_all fun y hy => h y (List.mem_cons_of_mem _ hy)]
    rfl
/-! ### for loops that look for something -/
theorem forGo_find {α : Type} {enc : α → PyData} {i : Nat} {g : Sn} (S : Rho → Prop) (F : α → Option PyData) : ∀ {xs : List α}, (∀ x ∈ xs, ∀ ρ, S ρ → match F x with
      | some d => g (ρ.set i (some (.d (enc x)))) = .rt d
      | none => ∃ ρ', g (ρ.set i (some (.d (enc x)))) = .nx ρ' ∧ S ρ') →
    ∀ ρ, S ρ → match xs.findSome? F with
      | some d => forGo (.nm i) g (xs.map enc) ρ = .rt d
      | none => ∃ ρ', forGo (.nm i) g (xs.map enc) ρ = .nx ρ' ∧ S ρ'
  | [], _, ρ, h => ⟨ρ, rfl, h⟩
  | x :: xs, hs, ρ, h => by
    have e0 : forGo (.nm i) g ((x :: xs).map enc) ρ = (match g (ρ.set i (some (.d (enc x)))) with | .nx ρ => forGo (.nm i) g (xs.map enc) ρ | .ct ρ => forGo (.nm i) g (xs.map enc) ρ | .bk ρ => .nx ρ | o => o) := by
      rw [List.map_cons]
      conv => lhs; unfold forGo
      first | (rw [set_nm]; done) | (rw [set_nm]; rfl)
    have h1 := hs x List.mem_cons_self ρ h
    rw [List.findSome?_cons]
    cases e : F x with
    | some d =>
      rw [e] at h1
      show forGo (.nm i) g ((x :: xs).map enc) ρ = .rt d
      rw [e0, h1]
    | none =>
      rw [e] at h1
      obtain ⟨ρ1, e1, h2⟩ := h1
      have ih := forGo_find S F (xs := xs) (fun y hy => hs y (List.mem_cons_of_mem _ hy)) ρ1 h2
      rw [e0, e1]
      exact ih
@[simp] theorem oIx_t0 (a b c : PyData) : oIx (.tuple [a, b, c]) (.int 0) = .ok a := rfl
@[simp] theorem oIx_t1 (a b c : PyData) : oIx (.tuple [a, b, c]) (.int 1) = .ok b := rfl
@[simp] theorem oIx_t2 (a b c : PyData) : oIx (.tuple [a, b, c]) (.int 2) = .ok c := rfl
theorem shp_trip (a c : List Int) (x : Int) : shp (.tuple [tu a, .int x, tu c]) = true := shp_of (n := 2) (dep_tuple fun y hy => by
  simp only [List.mem_cons, List.not_mem_nil, or_false] at hy
  rcases hy with rfl | rfl | rfl
  · exact dep_tu a
  · exact ⟨rfl, Nat.zero_le _⟩
  · exact dep_tu c)
theorem oNe_trip (a c : List Int) (x : Int) : oNe (.tuple [tu a, .int x, tu c]) (.tuple [tu a, .int x, tu c]) = .ok (.bool false) := by
  unfold oNe
  rw [if_pos ⟨shp_trip a c x, shp_trip a c x⟩]
  have : PyData.eqv (.tuple [tu a, .int x, tu c]) (.tuple [tu a, .int x, tu c]) = true := by
    rw [PyData.eqv, PyData.eqvAll, PyData.eqvAll, PyData.eqvAll, PyData.eqvAll, eqv_tu, eqv_int, eqv_tu]
    simp
  rw [this]; rfl
end PD

set_option Elab.async false
set_option linter.all false
set_option maxRecDepth 100000
set_option maxHeartbeats 1000000
namespace PD
open PySem PySem.Spec PyProof.Rows L2 NtL

/-! ### the order of tuples of ints, and sorting by it -/
theorem dataLt_tu : ∀ a b : List Int, PySem.W.dataLt (tu a) (tu b) = HT.lexLt a b
  | [], [] => by rfl
  | [], y :: b => by
    show PySem.W.dataLt (.tuple []) (.tuple (.int y :: b.map .int)) = true
    rw [PySem.W.dataLt_tuple]
    rfl
  | x :: a, [] => by
    show PySem.W.dataLt (.tuple (.int x :: a.map .int)) (.tuple []) = false
    rw [PySem.W.dataLt_tuple]
    rfl
  | x :: a, y :: b => by
    have ih := dataLt_tu a b
    show PySem.W.dataLt (.tuple (.int x :: a.map .int)) (.tuple (.int y :: b.map .int)) = _
    change PySem.W.dataLt (.tuple (a.map .int)) (.tuple (b.map .int)) = _ at ih
    rw [PySem.W.dataLt_tuple] at ih
    rw [PySem.W.dataLt_tuple, PySem.W.dataLt_cons (by rfl), ih, PySem.W.dataLt_int, HT.lexLt_cons]
    by_cases e : x = y
    · rw [if_pos e, if_pos (by subst e; simp [PyData.eqv])]
    · rw [if_neg e, if_neg (by simp [PyData.eqv, e])]
theorem leT_total (a b : List Int) : (leT a b || leT b a) = true := by
  unfold leT
  cases e : HT.lexLt b a with
  | false => rfl
  | true => rw [lex_asym b a e]; rfl
theorem leT_trans (a b c : List Int) (h1 : leT a b = true) (h2 : leT b c = true) : leT a c = true := by
  unfold leT at *
  have e1 : HT.lexLt b a = false := by simpa using h1
  have e2 : HT.lexLt c b = false := by simpa using h2
  rw [lex_tr a b c e1 e2]
  rfl
theorem lex_ne : ∀ a b : List Int, HT.lexLt a b = false → HT.lexLt b a = false → a = b
  | [], [], _, _ => rfl
  | [], _ :: _, h, _ => by cases h
  | _ :: _, [], _, h => by cases h
  | x :: a, y :: b, h1, h2 => by
    rw [HT.lexLt_cons] at h1 h2
    by_cases e : x = y
    · rw [if_pos e] at h1
      rw [if_pos e.symm] at h2
      rw [e, lex_ne a b h1 h2]
    · rw [if_neg e] at h1
      rw [if_neg (Ne.symm e)] at h2
      have a := of_decide_eq_false h1
      have b := of_decide_eq_false h2
      omega
theorem sortT_eq (ls : List (List Int)) : sortT ls = ls.mergeSort leT := by
  have h : sortD (ls.map tu) = (ls.mergeSort leT).map tu := by
    unfold sortD
    refine (List.map_mergeSort (f := tu) (r := leT) (s := PySem.W.dataLe false id) (l := ls) fun a _ b _ => ?_).symm
    show leT a b = !(PySem.W.dataLt (tu b) (tu a))
    rw [dataLt_tu]
    rfl
  unfold sortT
  rw [h, List.map_map]
  exact List.map_id'' (fun l => unTu_tu l) _
theorem sortT_le (ls : List (List Int)) : (sortT ls).Pairwise fun a b => leT a b = true := by
  rw [sortT_eq]
  exact List.pairwise_mergeSort leT_trans leT_total ls
/-- rows in strictly ascending order -/
def Asd (ls : List (List Int)) : Prop := ls.Pairwise fun a b => HT.lexLt a b = true
theorem asd_of {ls : List (List Int)} (h : ls.Pairwise fun a b => leT a b = true) (n : ls.Nodup) : Asd ls := by
  refine (h.and n).imp fun {a b} ⟨h1, h2⟩ => ?_
  cases e : HT.lexLt a b with
  | true => rfl
  | false =>
    unfold leT at h1
    exact absurd (lex_ne a b e (by simpa using h1)) h2
theorem asd_sortT {ls : List (List Int)} (n : ls.Nodup) : Asd (sortT ls) := asd_of (sortT_le ls) ((sortT_perm ls).nodup_iff.mpr n)
theorem lex_irr (a : List Int) : HT.lexLt a a = false := by
  cases e : HT.lexLt a a with
  | false => rfl
  | true =>
    have z := lex_asym a a e
    rw [e] at z
    exact z
theorem Asd.nodup {ls : List (List Int)} (h : Asd ls) : ls.Nodup := h.imp fun {a b} e z => by
  subst z
  rw [lex_irr] at e
  cases e
/-- a sorted list is told by what is in it -/
theorem asd_ext {ls ks : List (List Int)} (h : Asd ls) (k : Asd ks) (e : ∀ x, x ∈ ls ↔ x ∈ ks) : ls = ks := by
  refine List.Perm.eq_of_pairwise (le := fun a b => HT.lexLt a b = true) ?_ h k ((List.perm_ext_iff_of_nodup h.nodup k.nodup).mpr e)
  intro a b _ _ h1 h2
  rw [lex_asym a b h1] at h2
  cases h2
theorem sortT_self {ls : List (List Int)} (h : Asd ls) : sortT ls = ls := asd_ext (asd_sortT h.nodup) h fun x => mem_sortT
theorem sortT_ext {ls ks : List (List Int)} (h : ls.Nodup) (k : ks.Nodup) (e : ∀ x, x ∈ ls ↔ x ∈ ks) : sortT ls = sortT ks :=
  asd_ext (asd_sortT h) (asd_sortT k) fun x => by rw [mem_sortT, mem_sortT, e]
end PD

set_option Elab.async false
set_option linter.all false
set_option maxRecDepth 100000
set_option maxHeartbeats 1000000
/-! # sorted({e for t in i if c}), the members tuples of ints -/
namespace PD
open PySem PySem.Spec PyProof.Rows L2
/-! ### add -/
section
variable {X : Cx} {pins : List (Addr × Obj)} {σ : L2.St} {H : Hp} {s : Shared} {E : Value → Shared → Prop}
theorem addT_ok {D x : Addr} {L : List (Addr × List Int)} {k : List Int} {Q : Value → Shared → Prop} (hu : X.A.units + 64 < cLine) (I : Inv X pins σ H s) (hD : H D = some (SetTO X.prog X.w D L)) (hL : ∀ p ∈ L, SqT X.K H p.1 (p.2.map V.int)) (hx : SqT X.K H x (k.map V.int)) (few : L.length + 1 < 64)
    (h : ∀ s' L', Inv X pins σ (upd H D (SetTO X.prog X.w D L')) s' → (k ∈ L.map (·.2) → L' = L) → (k ∉ L.map (·.2) → L'.Perm ((x, k) :: L)) → Q .none s') : wpAny (model X.prog X.w) X.A (call (.builtin "set.add") [.ref D, .ref x]) Q E s := by
  obtain ⟨es, ep, t, R⟩ := SetT0.full (I.hok D _ hD).1 fun p hp => I.isT (hL p hp)
  have ty : s.TypeIs (.ref D) "set" := let ⟨o, ho, hc, _⟩ := R.ob; ⟨o, ho, hc.1⟩
  have kx := I.isT hx
  refine wpAny_call_entry F.slot_set_add ty F.entry_set_add ?_ (F.args_set_add_2 _ _)
  unfold Builtin.«set.add» Builtin.Frozenset.oneOther Builtin.Frozenset.addrOf setAdd
  simp only [bind_assoc, List.isEmpty_nil]
  refine wpAny_bind (wpAny_pure ?_)
  try dsimp only
  refine wpAny_bind (wpAny_pure ?_)
  try dsimp only
  refine wpAny_bind (wpAny_holding ?_)
  refine wpAny_bind (wpAny_pyHash_tuple (knd := intKind X.prog X.w) (show X.A.in1.units < cLine from (show X.A.units + 1 < cLine by omega)) kx ?_)
  refine add_at (P := X.prog) (w := X.w) (s := { s with toks := s.toks + (k.length + 1) }) R kx (show X.A.in1.units < cLine from (show X.A.units + 1 < cLine by omega)) few fun b h' L' es' ep' t' sb R' e1 e2 => ?_
  show wpAny (model X.prog X.w) _ (ret Value.none) _ _ _
  have he : ∃ u, h'.get? D = some u := let ⟨o, ho, _⟩ := R'.ob; ⟨o, ho⟩
  exact wpAny_pure ⟨_, rfl, h _ L' (I.write (e := D) (t' := s.toks + (k.length + 1)) (by rw [hD]; trivial) (.inl rfl) (fun b u hb hu => (sb.2 b hb).trans hu) he (setTO_new R'.t0)) e1 e2⟩
end
/-! ### the block -/
section
variable {X : Cx} {pins : List (Addr × Obj)} {σ : L2.St} {vs : List Nat} {s0 : Shared} {H0 : Hp} {scope : Scope} {fp : List Addr} {tn : Nat → Heap → Prop} {J : It} {tg : Expr} {it : Addr}
/-- what the rule asks of a turn -/
def memTurn (K : PySem.W.Frag) (P : Program) (w : World) (σ : L2.St) (vs : List Nat) (g : TG) (tt : TT) (tk : TE) (D : Addr) (Nx : Hp → Prop) (x : V) (H : Hp) : Prop :=
  g x (L2.wipe σ vs) H fun σ2 H2 => L2.wipe σ2 vs = L2.wipe σ vs ∧ tt σ2 H2 fun b H3 =>
    if b = true then tk σ2 H3 fun y H4 => ∃ L p k, y = .ref p ∧ H4 D = some (SetTO P w D L) ∧ (∀ q ∈ L, SqT K H4 q.1 (q.2.map V.int)) ∧ L.length + 1 < 64 ∧ SqT K H4 p (k.map V.int) ∧ ∀ L', (k ∈ L.map (·.2) → L' = L) → (k ∉ L.map (·.2) → L'.Perm ((p, k) :: L)) → Nx (upd H4 D (SetTO P w D L')) else Nx H3
def tScT (K : PySem.W.Frag) (P : Program) (w : World) (wi : TI) (g : TG) (tt : TT) (tk : TE) (vs : List Nat) : TE := fun σ H Q => wi σ H fun J H1 => ∀ D, H1 D = none → ∃ W : Nat → Nat → Hp → Prop, (∃ m, W 0 m (upd H1 D (SetTO P w D []))) ∧ ∀ i m H, W i m H →
  (J.stop i H ∧ Q (.ref D) H) ∨ (J.go i H ∧ ∃ Nx : Hp → Prop, (∀ H', Nx H' → ∃ m', m' < m ∧ W (i + 1) m' H') ∧ ∀ x H', J.yld i H x H' → memTurn K P w σ vs g tt tk D Nx x H')
theorem memLoop {kx iter : Expr} {ifs : List Expr} {pos : Pos} {g : TG} {tt : TT} {tk : TE} {D : Addr} {Q : VK} {R : Result → Shared → Prop} {W : Nat → Nat → Hp → Prop} {m0 : Nat}
    (hu : X.A.units + 64 < cLine) (hc : X.calm = true) (T : Turn X.prog X.w X.K tg J fp it tn)
    (pg : PG (inBlk X s0 scope H0 fp) tg g) (pt : PTs (inBlk X s0 scope H0 fp) ifs tt) (pk : PE (inBlk X s0 scope H0 fp) kx tk)
    (turn : ∀ i m H, W i m H → (J.stop i H ∧ Q (.ref D) H) ∨ (J.go i H ∧ ∃ Nx : Hp → Prop, (∀ H', Nx H' → ∃ m', m' < m ∧ W (i + 1) m' H') ∧ ∀ x H', J.yld i H x H' → memTurn X.K X.prog X.w σ vs g tt tk D Nx x H'))
    (over : ∀ H s, Inv (inBlk X s0 scope H0 fp) [] (L2.wipe σ vs) H s → Q (.ref D) H → R (.ok .next) s)
    {s : Shared} {H : Hp} (w0 : W 0 m0 H) (a0 : AtTurn X s0 H0 scope fp tn (L2.wipe σ vs) 0 H s) :
    codeAny (model X.prog X.w) X.A (.compLoop (.SetComp kx [⟨tg, iter, ifs, 0⟩] scope pos) 0 (.ref it) (.ref D) (envBlk X s0 scope)) R s := by
  refine PpSet.compLoopS_any (fun m s => ∃ i H, AtTurn X s0 H0 scope fp tn (L2.wipe σ vs) i H s ∧ W i m H) ?_ m0 ⟨0, H, a0, w0⟩
  intro m s1 ⟨i, H1, a1, w1⟩
  cases turn i m H1 w1 with
  | inl z =>
    refine thnF (T.done (inBlk X s0 scope H0 fp) rfl rfl rfl hc i [] s1 _ H1 (fun _ _ => False) a1.inv (fun b => a1.free) a1.own z.1) ?_
    rintro r s2 ⟨rfl, I2⟩
    exact over H1 s2 I2 z.2
  | inr z =>
    obtain ⟨go, Nx, less, each⟩ := z
    refine thnF (T.item (inBlk X s0 scope H0 fp) rfl rfl rfl hc i [] s1 _ H1 (fun _ _ => False) a1.inv (fun b => a1.free) a1.own go) ?_
    rintro r s2 ⟨u, rfl, hu2⟩
    refine thnF hu2 ?_
    rintro _ s3 ⟨x, H3, I3, rx, hx, t3, n3⟩
    have a3 : AtTurn X s0 H0 scope fp tn (L2.wipe σ vs) (i + 1) H3 s3 := ⟨I3, t3, n3⟩
    have done : ∀ {σ4 : L2.St} {s5 : Shared} {H5 : Hp}, L2.wipe σ4 vs = L2.wipe σ vs → Inv (inBlk X s0 scope H0 fp) ([] ++ pinsAt fp s3.heap) σ4 H5 s5 → Nx H5 →
        ∃ m', m' < m ∧ ∃ i H, AtTurn X s0 H0 scope fp tn (L2.wipe σ vs) i H s5 ∧ W i m' H := by
      intro σ4 s5 H5 e I5 nx
      obtain ⟨m', lt, w⟩ := less H5 nx
      exact ⟨m', lt, i + 1, H5, AtTurn.next (τ := σ) T e t3 I5, w⟩
    refine thnF (pg.run _ s3 _ H3 x u _ (I3.pinned (fun b => a3.free) (T.obj _ _ t3)) rx (each x H3 hx)) ?_
    rintro _ s4 ⟨σ4, H4, I4, e4, q4⟩
    refine thnF (pt.run _ s4 σ4 H4 _ I4 q4) ?_
    rintro b s5 ⟨H5, I5, q5⟩
    rcases b with _ | _
    · simp only [Bool.false_eq_true, if_false] at q5 ⊢
      exact done e4 I5 q5
    · simp only [if_true] at q5 ⊢
      refine thnF (pk.run _ s5 σ4 H5 _ I5 q5) ?_
      rintro kv s6 ⟨_, H6, I6, rk, L, p, k, rfl, hD, hL, few, hp, nx⟩
      cases rk
      exact addT_ok (X := inBlk X s0 scope H0 fp) hu I6 hD hL hp few fun s7 L' I7 n1 n2 => done e4 I7 (nx L' n1 n2)
end
section
variable {X : Cx} {kx tg iter : Expr} {ifs : List Expr} {scope : Scope} {own : List (Str × Nat)} {pos : Pos} {wi : TI} {g : TG} {tt : TT} {tk : TE}
theorem pe_scT (hu : X.A.units + 64 < cLine) (hc : X.calm = true) (hN : X.N.Nodup) (hi : PI X tg iter wi) (ok : BlkOk X.N X.env.scope scope own)
    (hg : ∀ (s : Shared) (H : Hp) (C : Addr) (cl : List (Str × Addr)) (fp : List Addr), PG (X.blk s H scope (compEnvC scope cl C X.env) fp) tg g) (ht : ∀ (s : Shared) (H : Hp) (C : Addr) (cl : List (Str × Addr)) (fp : List Addr), PTs (X.blk s H scope (compEnvC scope cl C X.env) fp) ifs tt)
    (hk : ∀ (s : Shared) (H : Hp) (C : Addr) (cl : List (Str × Addr)) (fp : List Addr), PE (X.blk s H scope (compEnvC scope cl C X.env) fp) kx tk)
    (hs : ∀ x, foldedSetIterable iter X.env x = pure x := by intro _; rfl) :
    PE X (.SetComp kx [⟨tg, iter, ifs, 0⟩] scope pos) (tScT X.K X.prog X.w wi g tt tk (own.map (·.2))) := by
  have P := KeyParts.of (Nat.lt_of_le_of_lt (Nat.le_add_right _ _) hu) hc hN hi ok hg ht hk hs
  constructor
  intro pins s σ H Q I h
  rw [PpSet.eval_SetComp]
  have cells : ∀ y ∈ scope.names, y.2 = .free → ∃ c, X.env.cells.lookup y.1 = some c := by
    intro y hy e
    cases P.blk.free y hy e with
    | inl z => exact I.ok.has _ (.inl z)
    | inr z => exact I.ok.has _ (.inr z)
  have locs : ∀ y ∈ scope.names, y.2 = .local → scope.names.lookup y.1 = some .local := fun y hy e => (P.blk.uniq y hy).trans (congrArg some e)
  refine wpAny_comprehension_free (use := none) rfl P.plain (closure_ok cells) P.blk.kind locs ?_
  refine thn (P.walk.run pins s σ H _ I h) ?_
  intro x s1 h1
  refine thn h1 ?_
  rintro _ s2 ⟨it, fp, tn, J, H2, rfl, I2, T, t2, f2, h2⟩
  refine PpSet.newSet_ok ?_
  obtain ⟨W, ⟨m0, w0⟩, turn⟩ := h2 s2.heap.objs.size (I2.hok.fresh (Nat.le_refl _))
  have fresh : (s2.heap.push { cls := .type "set", dict := none, data := .set #[] 0 (.fresh 0 0 (!X.w.params.followText "set-order")) }).get? s2.heap.objs.size = some { cls := .type "set", dict := none, data := .set #[] 0 (.fresh 0 0 (!X.w.params.followText "set-order")) } := Heap.get?_push_size _ rfl
  have I3 : Inv X pins σ (upd H2 s2.heap.objs.size (SetTO X.prog X.w s2.heap.objs.size [])) { s2 with heap := s2.heap.push { cls := .type "set", dict := none, data := .set #[] 0 (.fresh 0 0 (!X.w.params.followText "set-order")) } } :=
    I2.laid (t' := s2.toks) (fun b o e => Heap.get?_push_of_some _ e) (Nat.le_refl _) (setTO_new (setTR_fresh fresh).t0)
  have f3 : ∀ b ∈ fp, FpOk X pins (upd H2 s2.heap.objs.size (SetTO X.prog X.w s2.heap.objs.size [])) b ∧ b < (s2.heap.push { cls := .type "set", dict := none, data := .set #[] 0 (.fresh 0 0 (!X.w.params.followText "set-order")) }).objs.size := by
    intro b hb
    obtain ⟨o, hbo, -⟩ := T.obj _ _ t2 b hb
    have lt : b < s2.heap.objs.size := Heap.lt_size hbo
    refine ⟨⟨(upd_ne (Nat.ne_of_lt lt)).trans (f2 b hb).1, (f2 b hb).2⟩, ?_⟩
    rw [Heap.size_push]
    exact Nat.lt_succ_of_lt lt
  have t3 := T.keep _ _ (s2.heap.push { cls := .type "set", dict := none, data := .set #[] 0 (.fresh 0 0 (!X.w.params.followText "set-order")) }) t2 fun b _ o e => Heap.get?_push_of_some _ e
  refine newEnv_comp ?_
  have t4 := T.keep _ _ (pushCells ((s2.heap.push { cls := .type "set", dict := none, data := .set #[] 0 (.fresh 0 0 (!X.w.params.followText "set-order")) }).push { cls := .type "dict", data := .dict #[] }) scope.names) t3 fun b _ o e => pushCells_keeps _ _ _ _ (Heap.get?_push_of_some _ e)
  have loop := memLoop (σ := σ) (vs := own.map (·.2)) (pos := pos) (R := compPost (model X.prog X.w) X.A X.xe none (fun u s' => ∃ v H', Inv X pins σ H' s' ∧ RelV v u ∧ Q v H') (.ref s2.heap.objs.size) (s2.heap.push { cls := .type "set", dict := none, data := .set #[] 0 (.fresh 0 0 (!X.w.params.followText "set-order")) }).objs.size) (iter := iter)
    hu P.calm T (P.tgt _ _ fp) (P.test _ _ fp) (P.key _ _ fp) turn
    (fun H5 s5 I5 q => by
      obtain ⟨I6, f6, m, hm⟩ := AtTurn.leave I3 (fun b hb => (f3 b hb).1) I5
      refine ⟨m, hm, fun h2 sb => ⟨.ref _, H5, FpOk_drop f6 I6 ?_, rfl, q⟩⟩
      intro b o hb e
      rw [← e]
      exact sb.2 b hb)
    w0 ⟨block_start I3 P.blk P.nd f3, t4, fun b hb => (f3 b hb).1.1⟩
  exact PpSet.codeAny_compStart_set loop (T.self X.A 0 _ _ _ t4 loop)
end
end PD

set_option Elab.async false
set_option linter.all false
set_option maxRecDepth 100000
set_option maxHeartbeats 1000000
namespace PD
open PySem PySem.Spec PyProof.Rows L2
/-! ### sorted of such a set -/
theorem perm_map_inv {α β : Type} (f : α → β) {ws vs : List β} (h : ws.Perm vs) : ∀ {L : List α}, ws = L.map f → ∃ L1 : List α, L1.Perm L ∧ vs = L1.map f := by
  induction h with
  | nil =>
    intro L e
    have : L = [] := List.map_eq_nil_iff.mp e.symm
    subst this
    exact ⟨[], .refl _, rfl⟩
  | cons x _ ih =>
    intro L e
    obtain ⟨y, ys, rfl, rfl, e2⟩ := List.map_eq_cons_iff.mp e.symm
    obtain ⟨L1, p1, e1⟩ := ih e2.symm
    exact ⟨y :: L1, p1.cons y, by rw [e1]; rfl⟩
  | swap x y l =>
    intro L e
    obtain ⟨a, as, rfl, rfl, e2⟩ := List.map_eq_cons_iff.mp e.symm
    obtain ⟨b, bs, rfl, rfl, e3⟩ := List.map_eq_cons_iff.mp e2
    exact ⟨b :: a :: bs, .swap a b bs, by rw [← e3]; rfl⟩
  | trans _ _ ih1 ih2 =>
    intro L e
    obtain ⟨L1, p1, e1⟩ := ih1 e
    obtain ⟨L2, p2, e2⟩ := ih2 e1
    exact ⟨L2, p2.trans p1, e2⟩
def tuD (q : Addr × List Int) : PyData := .tuple (q.2.map .int)
theorem rp_tups {K : PySem.W.Frag} {G : Hp} : ∀ {L : List (Addr × List Int)}, (∀ q ∈ L, SqT K G q.1 (q.2.map V.int) ∧ q.2.length ≤ sizeLine) → RpAll K G (L.map fun q => V.ref q.1) (L.map tuD)
  | [], _ => .nil
  | q :: L, h => .cons (.tup (h q List.mem_cons_self).1 (by rw [List.length_map]; exact (h q List.mem_cons_self).2) (rp_intsV q.2)) (rp_tups fun r hr => h r (List.mem_cons_of_mem _ hr))
def rSortScT (K : PySem.W.Frag) (P : Program) (w : World) : List V → Hp → VK → Prop := fun vs H Q => ∃ (G : Hp) (a : Addr) (L : List (Addr × List Int)), vs = [V.ref a] ∧ Sub G H ∧ H a = some (SetTO P w a L) ∧ (∀ q ∈ L, SqT K G q.1 (q.2.map V.int) ∧ q.2.length ≤ sizeLine) ∧
  ∀ (p : Addr) (L1 : List (Addr × List Int)) (ys : List V), L1.Perm L → H p = none → ys.length < 64 → RpAll K G ys (sortD (L1.map tuD)) → Q (.ref p) (upd H p (.lst ys))
theorem cr_sortScT {X : Cx} (hc : X.calm = true) (hu : X.A.units + 64 < cLine) : CallR X (.builtin "sorted") (rSortScT X.K X.prog X.w) := by
  intro pins s σ H vs us Q I r h
  obtain ⟨G, a, L, rfl, sub, ha, hk, q⟩ := h
  rw [Vals.ref1 r]
  obtain ⟨es, ep, t, R⟩ := SetT0.full (I.hok a _ ha).1 fun p hp => I.isT (sub.sqT (hk p hp).1)
  obtain ⟨o, ho, hex, hd⟩ := R.ob
  have hsz := R.size
  have hfew := R.few
  refine Calls.call_function_entry kind_sorted plain_sorted entry_sorted (args_sorted1 _) ?_
  unfold Builtin.«sorted»
  refine wpAny_bind (m := checkCount "sorted" 1 1 _) (wpAny_pure ?_)
  refine wpAny_bind (collect_set (A := X.A.in1) (I.ok.hd hc) ⟨o, ho, hex.1, hd⟩ R.fits (by unfold scanBound; omega) R.tab.ris R.led fun s1 vs k1 hz g1 o1 pm => ?_)
  have hes : es.toList.map (·.2) = L.map fun q => Value.ref q.1 := by
    rw [R.rows]
    unfold rowsOf
    rw [List.map_map]; rfl
  rw [hes] at pm
  obtain ⟨L1, pL, rfl⟩ := perm_map_inv (fun q : Addr × List Int => Value.ref q.1) pm.symm rfl
  have hvl : (L1.map fun q => Value.ref q.1).length < 64 := by rw [List.length_map, pL.length_eq]; exact hfew
  have hk1 : ∀ q ∈ L1, SqT X.K G q.1 (q.2.map V.int) ∧ q.2.length ≤ sizeLine := fun q hq => hk q (pL.mem_iff.mp hq)
  have ra := rp_tups hk1
  have rv : Vals (L1.map fun q => V.ref q.1) (L1.map fun q => Value.ref q.1) := vals_of_refs L1
  have alk : ∀ d ∈ L1.map tuD, ∀ e ∈ L1.map tuD, PySem.W.alike d e = true := fun d hd e he => by
    obtain ⟨x, _, rfl⟩ := List.mem_map.mp hd
    obtain ⟨y, _, rfl⟩ := List.mem_map.mp he
    unfold tuD
    rw [PySem.W.alike]
    exact alike_ints x.2 y.2
  have al : PySem.W.AllAlike (L1.map tuD) := alk
  have er := rpAll_reads I sub ra rv fun d hd => nod_of_alike (alk d hd d hd)
  have ev := rpAll_each ra rv
  refine wpAny_bind (wpAny_newList ?_ (by rw [sizeLine_eq]; omega))
  have hoL : (s1.heap.push (seqObj "list" (L1.map fun q => Value.ref q.1).toArray 0)).get? s1.heap.objs.size = some (seqObj "list" (L1.map fun q => Value.ref q.1).toArray 0) := Heap.get?_push_size _ rfl
  have kp : ∀ b u, s.heap.get? b = some u → (PySem.W.sortingHeap (s1.heap.push (seqObj "list" (L1.map fun q => Value.ref q.1).toArray 0)) s1.heap.objs.size (L1.map fun q => Value.ref q.1)).get? b = some u := fun b u e => by
    have e1 := k1 b u e
    exact PySem.W.sortingHeap_old (Nat.ne_of_lt (Heap.lt_size e1)) (Heap.get?_push_of_some _ e1)
  have er' : PySem.W.EachIs (fun v d => ∃ as, Reads (PySem.W.sortingHeap (s1.heap.push (seqObj "list" (L1.map fun q => Value.ref q.1).toArray 0)) s1.heap.objs.size (L1.map fun q => Value.ref q.1)) v d as) (L1.map fun q => Value.ref q.1) (L1.map tuD) := er.mono fun _ _ ⟨as, r⟩ => ⟨as, PyProof.Rows.Reads.keeps kp r⟩
  have dep : ∀ d, d ∈ L1.map tuD → X.A.in1.in1.units + d.depth < cLine := fun d hd => by
    obtain ⟨x, _, rfl⟩ := List.mem_map.mp hd
    have : (tuD x).depth ≤ 1 := (dep_tu x.2).2
    show X.A.units + 1 + 1 + (tuD x).depth < cLine
    omega
  have S : PySem.W.SortsAt X.prog X.w X.A.in1.in1 { s1 with heap := PySem.W.sortingHeap (s1.heap.push (seqObj "list" (L1.map fun q => Value.ref q.1).toArray 0)) s1.heap.objs.size (L1.map fun q => Value.ref q.1) } (PySem.W.dataKind (PySem.W.sortingHeap (s1.heap.push (seqObj "list" (L1.map fun q => Value.ref q.1).toArray 0)) s1.heap.objs.size (L1.map fun q => Value.ref q.1)) (L1.map tuD)) (L1.map fun q => Value.ref q.1) :=
    PySem.W.SortsAt.tuples (s := { s1 with heap := PySem.W.sortingHeap (s1.heap.push (seqObj "list" (L1.map fun q => Value.ref q.1).toArray 0)) s1.heap.objs.size (L1.map fun q => Value.ref q.1) }) er' al (fun d hd => by obtain ⟨x, _, rfl⟩ := List.mem_map.mp hd; exact ⟨_, rfl⟩) dep
  have eo := PySem.W.sortVals_data (h' := PySem.W.sortingHeap (s1.heap.push (seqObj "list" (L1.map fun q => Value.ref q.1).toArray 0)) s1.heap.objs.size (L1.map fun q => Value.ref q.1)) (enc := id) false ev (er'.mono fun _ _ h => h) (by rw [List.map_id]; exact al)
  rw [List.map_id] at eo
  obtain ⟨ys, hy1, hy2⟩ := each_rpAll eo
  have hyl : ys.length < 64 := by
    have e1 : ys.length = (L1.map tuD).length := hy2.length.trans (List.length_mergeSort _)
    rw [e1, List.length_map, pL.length_eq]; exact hfew
  generalize hV : (L1.map fun q => Value.ref q.1) = vs at *
  generalize hO : PySem.W.sortVals (PySem.W.dataKind (PySem.W.sortingHeap (s1.heap.push (seqObj "list" vs.toArray 0)) s1.heap.objs.size vs) (L1.map tuD)) false vs vs = out at *
  obtain ⟨c, hcl⟩ := sortedHeap_at (vs := vs) (out := out.toArray) hoL
  have hn : H s1.heap.objs.size = none := I.hok.fresh hz
  have k2 : ∀ b u, s.heap.get? b = some u → (sortedHeap (s1.heap.push (seqObj "list" vs.toArray 0)) s1.heap.objs.size vs out.toArray).get? b = some u := fun b u e => by
    have e1 := k1 b u e
    have hlt := Heap.lt_size e1
    rw [sortedHeap_old (Nat.ne_of_lt hlt) (by rw [size_push']; exact Nat.lt_succ_of_lt hlt)]
    exact Heap.get?_push_of_some _ e1
  have done : Q (.ref s1.heap.objs.size) (upd H s1.heap.objs.size (.lst ys)) := q _ L1 ys pL hn hyl hy2
  have J : Inv X pins σ (upd H s1.heap.objs.size (.lst ys)) { s with heap := sortedHeap (s1.heap.push (seqObj "list" vs.toArray 0)) s1.heap.objs.size vs out.toArray, gens := s1.gens, drawn := s1.drawn, toks := s1.toks } :=
    I.call (ch := []) (Un.laid k2 hz hn) (I.hok.laid k2 hz ⟨by rw [sizeLine_eq]; omega, out, c, hy1, hcl⟩) (by rw [g1]; exact I.bare) (fun _ z => nomatch z)
  have es1 : ({ s1 with heap := sortedHeap (s1.heap.push (seqObj "list" vs.toArray 0)) s1.heap.objs.size vs out.toArray } : Shared) = { s with heap := sortedHeap (s1.heap.push (seqObj "list" vs.toArray 0)) s1.heap.objs.size vs out.toArray, gens := s1.gens, drawn := s1.drawn, toks := s1.toks } := by rw [o1]
  refine wpAny_bind (wpAny_holding (wpAny_call_entry slot_list_sort ⟨_, hoL, rfl⟩ entry_list_sort (PySem.W.list_sort_vals (s := { s1 with heap := s1.heap.push (seqObj "list" vs.toArray 0) }) hoL S (by rw [sizeLine_eq]; omega) ⟨_, rfl, ?_⟩) (args_list_sort _)))
  rw [hO]
  refine wpAny_pure ⟨_, rfl, ?_⟩
  show EP X pins σ Q _ ({ s1 with heap := sortedHeap (s1.heap.push (seqObj "list" vs.toArray 0)) s1.heap.objs.size vs out.toArray } : Shared)
  rw [es1]
  exact ⟨.ref _, _, J, rfl, done⟩
end PD

set_option Elab.async false
set_option linter.all false
set_option maxRecDepth 100000
set_option maxHeartbeats 1000000
namespace PD
open PySem PySem.Spec PyProof.Rows L2
def dSortSc (fi : DnL) (t : Tg) (ft : DnB) (fe : Dn) (vs : List Nat) : Dn := fun ρ => fi ρ >>= fun ds => nx (dcGo t ft fe (wipeR ρ vs) ds []) fun ks => if ks.length < 63 ∧ (ks.all fun k => decide (k.length ≤ sizeLine)) = true then .ok (.list (sortD (ks.map fun k => .tuple (k.map .int)))) else .bad
theorem dcGo_more {t : Tg} {ft : DnB} {fk : Dn} {ρ : Rho} : ∀ {ds : List PyData} {acc ks : List (List Int)}, dcGo t ft fk ρ ds acc = .ok ks → acc.length ≤ ks.length ∧ ∀ k ∈ acc, k ∈ ks
  | [], acc, ks, h => by cases h; exact ⟨Nat.le_refl _, fun _ h => h⟩
  | d :: ds, acc, ks, h => by
    unfold dcGo at h
    cases et : t.set d ρ with
    | none => rw [et] at h; cases h
    | some ρ1 =>
      rw [et] at h
      obtain ⟨b, _, h⟩ := nx_ok h
      cases b with
      | false => exact dcGo_more h
      | true =>
        obtain ⟨y, _, h⟩ := nx_ok h
        cases ek : asTu y with
        | none => rw [ek] at h; cases h
        | some k =>
          rw [ek] at h
          obtain ⟨h1, h2⟩ := dcGo_more h
          split at h1
          · rename_i hk
            rw [if_pos hk] at h2
            exact ⟨h1, h2⟩
          · rename_i hk
            rw [if_neg hk] at h2
            rw [List.length_append] at h1
            exact ⟨by omega, fun k' h' => h2 k' (List.mem_append_left _ h')⟩
theorem sortD_perm {as bs : List (List Int)} (p : as.Perm bs) : sortD (as.map fun k => PyData.tuple (k.map .int)) = sortD (bs.map fun k => PyData.tuple (k.map .int)) := by
  have h : ∀ ls : List (List Int), sortD (ls.map fun k => PyData.tuple (k.map .int)) = (sortT ls).map tu := fun ls => (sortD_tus ls).1
  rw [h, h]
  congr 1
  rw [sortT_eq, sortT_eq]
  have q : (as.mergeSort leT).Perm (bs.mergeSort leT) := (List.mergeSort_perm as leT).trans (p.trans (List.mergeSort_perm bs leT).symm)
  have w1 := sortT_le as
  have w2 := sortT_le bs
  rw [sortT_eq] at w1 w2
  exact List.Perm.eq_of_pairwise (le := fun a b => leT a b = true) (fun a b _ _ h1 h2 => by unfold leT at h1 h2; exact lex_ne a b (by simpa using h2) (by simpa using h1)) w1 w2 q
theorem plain_setT (P : Program) (w : World) (a : Addr) (L : List (Addr × List Int)) : Plain (SetTO P w a L) := plain_ext fun n q x => by
  obtain ⟨es, ep, t, ⟨o, h1, _, h3⟩, _⟩ := SetT0.ex x
  rw [codeHeap_get h1] at h3
  cases h3
theorem setT_xd {P : Program} {w : World} {a : Addr} {L : List (Addr × List Int)} : ∀ fs, SetTO P w a L ≠ .xd fs := fun _ z => by cases z
section
variable {X : Cx} {Tb : List Addr} {W : WX}
theorem sc_walk {K : PySem.W.Frag} {P : Program} {w : World} {t : Tg} {ft : DnB} {fk : Dn} {fi : DnL} {vs : List Nat} {σ : L2.St} {H : Hp} {Q : VK} (hv : ∀ i ∈ t.ixs, i ∈ vs) (h : tD K Tb W (dSortSc fi t ft fk vs) σ H Q) :
    tScT K P w (tI K Tb W fi) (tG K Tb t) (tDT K Tb W0 ft) (tD K Tb W0 fk) vs σ H (fun x H1 => rSortScT K P w [x] H1 Q) := by
  obtain ⟨H0, O0, O, ρ, st, h⟩ := h
  refine ⟨H0, O0, O, ρ, st, Post.then h fun ds J H1 e it k => ?_⟩
  cases q : dcGo t ft fk (wipeR ρ vs) ds [] with
  | exc x => rw [q] at k; exact k.elim
  | bad => rw [q] at k; exact k.elim
  | ok ks =>
    rw [q, nx_ok'] at k
    split at k
    case isFalse => exact k.elim
    rename_i lim
    have st1 := st.step e
    intro D nD
    have aD : D ∉ O := st1.fresh nD
    have stw := (st1.wiped vs).more (o := SetTO P w D []) nD (plain_setT P w D [])
    have aD0 : D ∉ O0 := fun m => aD (st1.sub D m)
    have own : ∀ (i : Nat) (s : Sl), s.Hold → (wipeR ρ vs)[i]? = some (some s) → (L2.wipe σ vs)[i]? ≠ some (some (.ref D)) := fun i s hs h1 h2 => aD ((st1.wiped vs).hold hs h1 h2).1
    have nO : ∀ b ∈ D :: O, hide O H1 b = none := fun b hb => by
      rcases List.mem_cons.mp hb with rfl | hb
      · exact hide_none nD
      · exact hide_in hb
    refine ⟨fun i m H' => i ≤ ds.length ∧ m = ds.length - i ∧ ∃ L acc, St0 K Tb H0 O0 (D :: O) H' (L2.wipe σ vs) (wipeR ρ vs) ∧ Ext H1 H' ∧ H' D = some (SetTO P w D L) ∧ (∀ q ∈ L, SqT K (hide (D :: O) H') q.1 (q.2.map V.int)) ∧ (L.map (·.2)).Perm acc ∧ dcGo t ft fk (wipeR ρ vs) (ds.drop i) acc = .ok ks,
      ⟨ds.length, Nat.zero_le _, by simp, [], [], stw, Ext.new nD, upd_same, by simp, .refl _, q⟩, ?_⟩
    rintro i m H' ⟨hi, rfl, L, acc, s1, e1, hD, hk, pm, go⟩
    have eG : Ext (hide O H1) H' := Ext.unhide.trans e1
    have few := (dcGo_more go).1
    have ll : L.length = acc.length := by rw [← pm.length_eq, List.length_map]
    by_cases hlt : i < ds.length
    · refine .inr ⟨it.go i H' eG hlt, fun H2 => i + 1 ≤ ds.length ∧ ∃ L acc, St0 K Tb H0 O0 (D :: O) H2 (L2.wipe σ vs) (wipeR ρ vs) ∧ Ext H1 H2 ∧ H2 D = some (SetTO P w D L) ∧ (∀ q ∈ L, SqT K (hide (D :: O) H2) q.1 (q.2.map V.int)) ∧ (L.map (·.2)).Perm acc ∧ dcGo t ft fk (wipeR ρ vs) (ds.drop (i + 1)) acc = .ok ks,
        fun H2 q => ⟨ds.length - (i + 1), by omega, q.1, rfl, q.2⟩, fun x H2 y => ?_⟩
      obtain ⟨e2, d, hd, rx⟩ := it.yld i H' (D :: O) x H2 eG nO s1.al hlt y
      have hdr : ds.drop i = d :: ds.drop (i + 1) := by
        obtain ⟨hl, hd'⟩ := List.getElem?_eq_some_iff.mp hd
        rw [List.drop_eq_getElem_cons hl, hd']
      rw [hdr] at go
      unfold dcGo at go
      cases et : t.set d (wipeR ρ vs) with
      | none => rw [et] at go; cases go
      | some ρ1 =>
        rw [et] at go
        obtain ⟨b, eb, go⟩ := nx_ok go
        have s2 := s1.step e2
        refine ⟨H0, O0, D :: O, wipeR ρ vs, ρ1, d, s2, rx, et, fun σ' st' ag => ⟨(ag.wipe hv).trans wipe_wipe, H0, O0, D :: O, ρ1, st', ?_⟩⟩
        rw [eb]
        intro b' H3 e3 r3
        cases (show b' = b from r3)
        have s3 := st'.step e3
        cases b with
        | false =>
          exact ⟨hlt, L, acc, s2.step e3, (e1.trans e2).trans e3, (e2.trans e3).keep D _ hD (fun _ q => by cases q), fun x hx => (Sub.hide (e2.trans e3).keep).sqT (hk x hx), pm, go⟩
        | true =>
          obtain ⟨yd, ey1, go⟩ := nx_ok go
          refine ⟨H0, O0, D :: O, ρ1, s3, ?_⟩
          rw [ey1]
          intro y H4 e4 r4
          cases ek : asTu yd with
          | none => rw [ek] at go; cases go
          | some key =>
            rw [ek] at go
            obtain ⟨p, rfl, hp⟩ := asTu_rp r4 ek
            have e24 := (e2.trans e3).trans e4
            have hD4 := e24.keep D _ hD (fun _ q => by cases q)
            have s4 := (s2.step e3).step e4
            have hk4 : ∀ x ∈ L, SqT K (hide (D :: O) H4) x.1 (x.2.map V.int) := fun x hx => (Sub.hide e24.keep).sqT (hk x hx)
            refine ⟨L, p, key, rfl, hD4, fun x hx => Sub.unhide.sqT (hk4 x hx), by have := lim.1; omega, Sub.unhide.sqT hp, fun L' n1 n2 => ⟨hlt, L', if key ∈ acc then acc else acc ++ [key], s4.hidO List.mem_cons_self aD0 hD4 (plain_setT P w D _) (plain_setT P w D _) own setT_xd, (e1.trans e24).updN nD (fun c q z => (plain_setT P w D _).1 c q (Option.some.inj (hD4.symm.trans z))), upd_same, ?_, ?_, go⟩⟩
            · rw [hide_upd List.mem_cons_self]
              by_cases c : key ∈ L.map (·.2)
              · rw [n1 c]; exact hk4
              · intro x hx
                rcases List.mem_cons.mp ((n2 c).mem_iff.mp hx) with rfl | hx
                · exact hp
                · exact hk4 x hx
            · by_cases c : key ∈ L.map (·.2)
              · rw [n1 c, if_pos (pm.mem_iff.mp c)]; exact pm
              · rw [if_neg (fun z => c (pm.mem_iff.mpr z))]
                exact ((n2 c).map (fun x : Addr × List Int => x.2)).trans ((pm.cons key).trans (List.perm_append_singleton key acc).symm)
    · have ei : i = ds.length := by omega
      subst ei
      refine .inl ⟨it.stop H' eG, ?_⟩
      rw [List.drop_length] at go
      cases go
      refine ⟨hide (D :: O) H', D, L, rfl, Sub.unhide, hD, fun q hq => ⟨hk q hq, ?_⟩, fun p L1 ys pL hp hy ry => ?_⟩
      · exact of_decide_eq_true (List.all_eq_true.mp lim.2 q.2 (pm.mem_iff.mp (List.mem_map.mpr ⟨q, hq, rfl⟩)))
      · have e1' : L1.map tuD = (L1.map (·.2)).map fun k => PyData.tuple (k.map .int) := by rw [List.map_map]; rfl
        rw [e1', sortD_perm ((pL.map (·.2)).trans pm)] at ry
        have pO : p ∉ D :: O := fun m => s1.al p m hp
        refine k (.ref p) _ (e1.trans (Ext.new hp)) (.lst (xs := ys) (.of ?_) ?_ (ry.mono fun b o hb _ => ?_))
        · rw [hide_out (fun m => pO (List.mem_cons_of_mem _ m)), upd_same]
        · rw [← ry.length, sizeLine_eq]; omega
        · obtain ⟨n1, hb⟩ := hide_some hb
          rw [hide_out (fun m => n1 (List.mem_cons_of_mem _ m)), upd_ne (ne_of_none hb hp)]
          exact hb
variable {kx tg iter : Expr} {ifs : List Expr} {scope : Scope} {own : List (Str × Nat)} {pos pos2 p : Pos}
/-- sorted({e for t in i if c}) -/
theorem fd_sortSc {k : Nat} {fi : DnL} {t : Tg} {ft : DnB} {fk : Dn} (hr : Room k X.A) (B : Bi X.mg) (hc : X.calm = true) (hN : X.N.Nodup) (hi : PI X tg iter (tI X.K Tb W fi)) (ok : BlkOk X.N X.env.scope scope own)
    (hg : ∀ (s : Shared) (H : Hp) (C : Addr) (cl : List (Str × Addr)) (fp : List Addr), PG (X.blk s H scope (compEnvC scope cl C X.env) fp) tg (tG X.K Tb t))
    (ht : ∀ (s : Shared) (H : Hp) (C : Addr) (cl : List (Str × Addr)) (fp : List Addr), PTs (X.blk s H scope (compEnvC scope cl C X.env) fp) ifs (tDT X.K Tb W0 ft))
    (hk : ∀ (s : Shared) (H : Hp) (C : Addr) (cl : List (Str × Addr)) (fp : List Addr), PE (X.blk s H scope (compEnvC scope cl C X.env) fp) kx (tD X.K Tb W0 fk))
    (hg1 : Gl X "sorted" := by rfl) (hv : ∀ i ∈ t.ixs, i ∈ own.map (·.2) := by decide) (hs : ∀ x, foldedSetIterable iter X.env x = pure x := by intro _; rfl)
    (n2 : starEach [.SetComp kx [⟨tg, iter, ifs, 0⟩] scope pos2] X.env = (false, eval (.SetComp kx [⟨tg, iter, ifs, 0⟩] scope pos2) X.env) :: starEach [] X.env := by rfl) :
    PE X (.Call (.Name "sorted" p) [.SetComp kx [⟨tg, iter, ifs, 0⟩] scope pos2] [] pos) (tD X.K Tb W (dSortSc fi t ft fk (own.map (·.2)))) :=
  (pe_callB (cr_sortScT hc hr.u64) hg1 B.sorted boot_sorted (pa_cons (pe_scT hr.u64 hc hN hi ok hg ht hk hs) pa_nil n2) (by decide) (by decide) n2 (by rfl)).by fun σ H Q h => sc_walk hv h
end
end PD

set_option Elab.async false
set_option linter.all false
set_option maxRecDepth 100000
set_option maxHeartbeats 4000000
namespace LW
open PySem PySem.Spec PyProof.Rows L2 PD
def b_law_prices_1 : Sn := (gSeq (gSet (dTwo oSub (dTwo oMod (dArg bInt (dCons (dTwo oIx (dVar 3) (dTwo oAdd (dC (.int 1)) (dVar 5))) dNil)) (dC (.int 11))) (dC (.int 4))) (.nm 6)) (gSeq (gIf (dAsB (dVar 2)) (gSet (dTwo oAdd (dTwo oMul (dVar 6) (dTwo oPow (dC (.int 10)) (dC (.int 30)))) (dTwo oMod (dTwo oDiv (dArg bInt (dCons (dTwo oIx (dVar 3) (dTwo oAdd (dC (.int 1)) (dVar 5))) dNil)) (dC (.int 11))) (dC (.int 3)))) (.nm 6)) gSkip) (gApp 4 (dVar 6))))
def g_law_prices : Sn := (gSeq (gSet (dArg m_law_draws (dCons (dVar 0) (dCons (dTwo oAdd (dVar 1) (dC (.int 1))) dNil))) (.nm 3)) (gSeq (gOwn (dLst dNil) 4) (gSeq (gFor (dRng1 (dCons (dVar 1) dNil)) (.nm 5) b_law_prices_1) (gFrz 4 (gRet (dArg bTuple (dCons (dVar 4) dNil)))))))
def m_law_prices : List PyData → R PyData := runD 7 3 g_law_prices
def g_price : Sn := (gRet (dArg bSum (dCons (dLc (dItems (dVar 0)) (.nm 2) dYes (dTwo oIx (dVar 1) (dVar 2)) [2]) dNil)))
def m_price : List PyData → R PyData := runD 3 2 g_price
def g_cheapest : Sn := (gRet (dMinL (dCons (dTwo oIx (dVar 0) (dC (.int 1))) dNil) 2 (dArg m_price (dCons (dVar 2) (dCons (dVar 1) dNil)))))
def m_cheapest : List PyData → R PyData := runD 3 2 g_cheapest
def g_law_price : Sn := (gRet (dArg bSum (dCons (dLc (dItems (dVar 0)) (.nm 2) dYes (dTwo oIx (dVar 1) (dVar 2)) [2]) dNil)))
def m_law_price : List PyData → R PyData := runD 3 2 g_law_price
def b_law_cheapest_1 : Sn := (gIf (dAsB (dTwo oLt (dArg m_law_price (dCons (dVar 3) (dCons (dVar 1) dNil))) (dArg m_law_price (dCons (dVar 2) (dCons (dVar 1) dNil))))) (gSet (dVar 3) (.nm 2)) gSkip)
def g_law_cheapest : Sn := (gSeq (gSet (dTwo oIx (dVar 0) (dC (.int 0))) (.nm 2)) (gSeq (gFor (dItems (dVar 0)) (.nm 3) b_law_cheapest_1) (gRet (dVar 2))))
def m_law_cheapest : List PyData → R PyData := runD 4 2 g_law_cheapest
def b_law_tells_k12_1 : Sn := (gSeq (gSet (dArg m_price (dCons (dVar 2) (dCons (dVar 1) dNil))) (.nm 3)) (gIf (dOr (dNot (dAsB (dArg m_law_is_integer (dCons (dVar 3) dNil)))) (dAsB (dTwo oNe (dVar 3) (dArg m_law_price (dCons (dVar 2) (dCons (dVar 1) dNil)))))) (gRet (dC (.bool false))) gSkip))
def g_law_tells_k12 : Sn := (gSeq (gFor (dItems (dTwo oAdd (dTwo oIx (dVar 0) (dC (.int 1))) (dTup (dCons (dTup dNil) dNil)))) (.nm 2) b_law_tells_k12_1) (gSeq (gSet (dArg m_cheapest (dCons (dVar 0) (dCons (dVar 1) dNil))) (.nm 3)) (gRet (dAndV (dArg m_law_is_set (dCons (dVar 3) (dCons (dTwo oIx (dVar 0) (dC (.int 0))) dNil))) (dTwo oEq (dVar 3) (dArg m_law_cheapest (dCons (dTwo oIx (dVar 0) (dC (.int 1))) (dCons (dVar 1) dNil))))))))
def m_law_tells_k12 : List PyData → R PyData := runD 4 2 g_law_tells_k12
def g_law_k12 : Sn := (gSeq (gSet (dArg m_law_draws (dCons (dArg m_law_cell (dCons (dVar 0) (dCons (dC (.int 0)) dNil))) (dCons (dC (.int 2)) dNil))) (.nm 1)) (gSeq (gSet (dTwo oIx (dTup (dCons (dC (.int 4)) (dCons (dC (.int 3)) (dCons (dC (.int 5)) (dCons (dC (.int 2)) (dCons (dC (.int 6)) (dCons (dC (.int 1)) (dCons (dC (.int 0)) (dCons (dC (.int 4)) dNil))))))))) (dTwo oMod (dArg bInt (dCons (dTwo oIx (dVar 1) (dC (.int 0))) dNil)) (dC (.int 8)))) (.nm 2)) (gSeq (gSet (dTup (dCons (dVar 2) (dCons (dArg m_law_lots_k03 (dCons (dArg m_law_cell (dCons (dVar 0) (dCons (dC (.int 1)) dNil))) (dCons (dVar 2) dNil))) dNil))) (.nm 3)) (gSeq (gSet (dTwo oEq (dTwo oMod (dArg bInt (dCons (dTwo oIx (dVar 1) (dC (.int 1))) dNil)) (dC (.int 8))) (dC (.int 5))) (.nm 4)) (gSeq (gSet (dArg m_law_prices (dCons (dArg m_law_cell (dCons (dVar 0) (dCons (dC (.int 2)) dNil))) (dCons (dVar 2) (dCons (dVar 4) dNil)))) (.nm 5)) (gSeq (gSet (dArg m_law_prices (dCons (dArg m_law_cell (dCons (dVar 0) (dCons (dC (.int 3)) dNil))) (dCons (dVar 2) (dCons (dC (.bool false)) dNil)))) (.nm 6)) (gRet (dAndV (dArg m_law_tells_k12 (dCons (dVar 3) (dCons (dVar 5) dNil))) (dAndV (dArg m_law_tells_k12 (dCons (dVar 3) (dCons (dVar 6) dNil))) (dArg m_law_tells_k12 (dCons (dVar 3) (dCons (dVar 5) dNil))))))))))))
def m_law_k12 : List PyData → R PyData := runD 7 1 g_law_k12
end LW

set_option Elab.async false
set_option linter.all false
set_option maxRecDepth 100000
set_option maxHeartbeats 4000000
namespace LW
open PySem PySem.Spec PyProof.Rows L2 PD
def b_law_costs_1 : Sn := (gSeq (gSet (dArg bInt (dCons (dTwo oIx (dVar 4) (dTwo oAdd (dTwo oMul (dVar 6) (dVar 2)) (dVar 9))) dNil)) (.nm 10)) (gSeq (gIf (dAsB (dTwo oGt (dVar 9) (dC (.int 0)))) (gSet (dTwo oAdd (dVar 7) (dTwo oMul (dTwo oMod (dVar 10) (dC (.int 5))) (dTwo oMod (dTwo oDiv (dVar 10) (dC (.int 5))) (dC (.int 2))))) (.nm 7)) gSkip) (gIf (dAsB (dVar 3)) (gApp 8 (dTwo oAdd (dTwo oAdd (dTwo oMul (dVar 7) (dTwo oPow (dC (.int 10)) (dC (.int 30)))) (dVar 9)) (dVar 6))) (gApp 8 (dVar 7)))))
def b_law_costs_2 : Sn := (gSeq (gSet (dTwo oSub (dTwo oMod (dArg bInt (dCons (dTwo oIx (dVar 4) (dTwo oMul (dVar 6) (dVar 2))) dNil)) (dC (.int 9))) (dC (.int 3))) (.nm 7)) (gSeq (gOwn (dLst dNil) 8) (gSeq (gFor (dRng1 (dCons (dVar 2) dNil)) (.nm 9) b_law_costs_1) (gFrz 8 (gApp 5 (dArg bTuple (dCons (dVar 8) dNil)))))))
def g_law_costs : Sn := (gSeq (gSet (dArg m_law_draws (dCons (dVar 0) (dCons (dTwo oAdd (dTwo oMul (dVar 1) (dVar 2)) (dC (.int 1))) dNil))) (.nm 4)) (gSeq (gOwn (dLst dNil) 5) (gSeq (gFor (dRng1 (dCons (dVar 1) dNil)) (.nm 6) b_law_costs_2) (gFrz 5 (gRet (dArg bTuple (dCons (dVar 5) dNil)))))))
def m_law_costs : List PyData → R PyData := runD 11 4 g_law_costs
def b_law_game_1 : Sn := (gSeq (gSet (dArg m_law_cell (dCons (dVar 0) (dCons (dTwo oAdd (dTwo oAdd (dVar 1) (dC (.int 1))) (dTwo oMul (dC (.int 2)) (dVar 7))) dNil))) (.nm 8)) (gSeq (gIf (dAsB (dVar 2)) (gSet (dArg m_law_smooth_lots_k03 (dCons (dVar 8) (dCons (dVar 5) dNil))) (.nm 9)) (gSet (dArg m_law_lots_k03 (dCons (dVar 8) (dCons (dVar 5) dNil))) (.nm 9))) (gSeq (gSet (dTwo oAdd (dVar 4) (dTwo oMod (dArg bInt (dCons (dTwo oIx (dVar 3) (dTwo oAdd (dC (.int 4)) (dVar 7))) dNil)) (dC (.int 3)))) (.nm 10)) (gSeq (gSet (dArg m_law_costs (dCons (dArg m_law_cell (dCons (dVar 0) (dCons (dTwo oAdd (dTwo oAdd (dVar 1) (dC (.int 2))) (dTwo oMul (dC (.int 2)) (dVar 7))) dNil))) (dCons (dVar 5) (dCons (dVar 10) (dCons (dTwo oEq (dTwo oMod (dArg bInt (dCons (dTwo oIx (dVar 3) (dC (.int 3))) dNil)) (dC (.int 8))) (dC (.int 1))) dNil))))) (.nm 11)) (gApp 6 (dTup (dCons (dTup (dCons (dVar 5) (dCons (dVar 9) dNil))) (dCons (dVar 11) dNil))))))))
def g_law_game : Sn := (gSeq (gSet (dArg m_law_draws (dCons (dArg m_law_cell (dCons (dVar 0) (dCons (dVar 1) dNil))) (dCons (dC (.int 8)) dNil))) (.nm 3)) (gSeq (gSet (dTwo oIx (dTup (dCons (dC (.int 1)) (dCons (dC (.int 2)) (dCons (dC (.int 2)) (dCons (dC (.int 2)) (dCons (dC (.int 3)) (dCons (dC (.int 3)) (dCons (dC (.int 2)) (dCons (dC (.int 0)) dNil))))))))) (dTwo oMod (dArg bInt (dCons (dTwo oIx (dVar 3) (dC (.int 0))) dNil)) (dC (.int 8)))) (.nm 4)) (gSeq (gSet (dTwo oIx (dTup (dCons (dC (.int 3)) (dCons (dC (.int 4)) (dCons (dC (.int 3)) (dCons (dC (.int 2)) (dCons (dC (.int 5)) (dCons (dC (.int 1)) (dCons (dC (.int 4)) (dCons (dC (.int 0)) dNil))))))))) (dTwo oMod (dArg bInt (dCons (dTwo oIx (dVar 3) (dC (.int 1))) dNil)) (dC (.int 8)))) (.nm 5)) (gSeq (gOwn (dLst dNil) 6) (gSeq (gFor (dRng1 (dCons (dVar 4) dNil)) (.nm 7) b_law_game_1) (gFrz 6 (gRet (dArg bTuple (dCons (dVar 6) dNil)))))))))
def m_law_game : List PyData → R PyData := runD 12 3 g_law_game
def g_law_choice : Sn := (gSeq (gSet (dArg m_law_draws (dCons (dVar 0) (dCons (dTwo oAdd (dArg bLen (dCons (dVar 1) dNil)) (dC (.int 1))) dNil))) (.nm 2)) (gRet (dArg bTuple (dCons (dLc (dRng1 (dCons (dArg bLen (dCons (dVar 1) dNil)) dNil)) (.nm 3) dYes (dTwo oIx (dTwo oIx (dTwo oIx (dTwo oIx (dVar 1) (dVar 3)) (dC (.int 0))) (dC (.int 1))) (dTwo oMod (dArg bInt (dCons (dTwo oIx (dVar 2) (dVar 3)) dNil)) (dArg bLen (dCons (dTwo oIx (dTwo oIx (dTwo oIx (dVar 1) (dVar 3)) (dC (.int 0))) (dC (.int 1))) dNil)))) [3]) dNil))))
def m_law_choice : List PyData → R PyData := runD 4 2 g_law_choice
def b_count_loads_1 : Sn := (gAugAt 3 (dVar 6) (dTwo oIx (dVar 4) (dC (.int 2))))
def b_count_loads_2 : Sn := (gFor (dItems (dVar 5)) (.nm 6) b_count_loads_1)
def g_count_loads : Sn := (gSeq (gOwn (dLc (dRng1 (dCons (dVar 0) dNil)) (.nm 7) dYes (dC (.int 0)) [7]) 3) (gSeq (gFor (dZip (dCons (dVar 1) (dCons (dVar 2) dNil))) (.tp [(.nm 4), (.nm 5)]) b_count_loads_2) (gFrz 3 (gRet (dArg bTuple (dCons (dVar 3) dNil))))))
def m_count_loads : List PyData → R PyData := runD 8 3 g_count_loads
def g_players : Sn := (gRet (dLc (dItems (dVar 0)) (.tp [(.nm 1), (.nm 2)]) dYes (dTup (dCons (dVar 1) (dCons (dVar 2) (dCons (dC (.int 1)) dNil)))) [1, 2]))
def m_players : List PyData → R PyData := runD 3 1 g_players
def g_loads : Sn := (gSeq (gSet (dIf (dAsB (dTwo oGt (dArg bLen (dCons (dVar 0) dNil)) (dC (.int 0)))) (dTwo oIx (dTwo oIx (dTwo oIx (dVar 0) (dC (.int 0))) (dC (.int 0))) (dC (.int 0))) (dC (.int 0))) (.nm 2)) (gRet (dArg m_count_loads (dCons (dVar 2) (dCons (dArg m_players (dCons (dVar 0) dNil)) (dCons (dVar 1) dNil))))))
def m_loads : List PyData → R PyData := runD 3 2 g_loads
def g_cost_at : Sn := (gRet (dTwo oIx (dTwo oIx (dVar 0) (dVar 1)) (dTwo oSub (dVar 2) (dC (.int 1)))))
def m_cost_at : List PyData → R PyData := runD 3 3 g_cost_at
def g_prices_for : Sn := (gSeq (gSet (dTwo oIx (dVar 0) (dVar 2)) (.tp [(.nm 3), (.nm 4), (.nm 5)])) (gSeq (gSet (dArg m_count_loads (dCons (dTwo oIx (dVar 3) (dC (.int 0))) (dCons (dVar 0) (dCons (dVar 1) dNil)))) (.nm 6)) (gSeq (gSet (dTwo oIx (dVar 1) (dVar 2)) (.nm 7)) (gSeq (gSet (dLc (dRng1 (dCons (dTwo oIx (dVar 3) (dC (.int 0))) dNil)) (.nm 9) dYes (dIf (dAsB (dTwo oIn (dVar 9) (dVar 7))) (dC (.int 0)) (dVar 5)) [9]) (.nm 8)) (gRet (dArg bTuple (dCons (dLc (dEnum (dCons (dVar 8) dNil)) (.tp [(.nm 9), (.nm 10)]) dYes (dArg m_cost_at (dCons (dVar 4) (dCons (dVar 9) (dCons (dTwo oAdd (dTwo oIx (dVar 6) (dVar 9)) (dVar 10)) dNil)))) [9, 10]) dNil)))))))
def m_prices_for : List PyData → R PyData := runD 11 3 g_prices_for
def g_own_prices : Sn := (gRet (dArg m_prices_for (dCons (dArg m_players (dCons (dVar 0) dNil)) (dCons (dVar 1) (dCons (dVar 2) dNil)))))
def m_own_prices : List PyData → R PyData := runD 3 3 g_own_prices
def g_pay : Sn := (gRet (dArg m_price (dCons (dTwo oIx (dVar 1) (dVar 2)) (dCons (dArg m_own_prices (dCons (dVar 0) (dCons (dVar 1) (dCons (dVar 2) dNil)))) dNil))))
def m_pay : List PyData → R PyData := runD 3 3 g_pay
def g_law_loads : Sn := (gRet (dLc (dRng1 (dCons (dVar 1) dNil)) (.nm 2) dYes (dArg bLen (dCons (dLc (dItems (dVar 0)) (.nm 3) (dAsB (dTwo oIn (dVar 2) (dVar 3))) (dVar 3) [3]) dNil)) [2]))
def m_law_loads : List PyData → R PyData := runD 4 2 g_law_loads
def g_law_pay : Sn := (gSeq (gSet (dTwo oIx (dTwo oIx (dVar 0) (dVar 2)) (dC (.int 1))) (.nm 3)) (gSeq (gSet (dArg m_law_loads (dCons (dVar 1) (dCons (dArg bLen (dCons (dVar 3) dNil)) dNil))) (.nm 4)) (gRet (dArg bSum (dCons (dLc (dItems (dTwo oIx (dVar 1) (dVar 2))) (.nm 5) dYes (dTwo oIx (dTwo oIx (dVar 3) (dVar 5)) (dTwo oSub (dTwo oIx (dVar 4) (dVar 5)) (dC (.int 1)))) [5]) dNil)))))
def m_law_pay : List PyData → R PyData := runD 6 3 g_law_pay
def b_law_tells_k19_1 : Sn := (gSeq (gSet (dArg m_pay (dCons (dVar 0) (dCons (dVar 1) (dCons (dVar 4) dNil)))) (.nm 5)) (gIf (dOr (dNot (dAsB (dArg m_law_is_integer (dCons (dVar 5) dNil)))) (dAsB (dTwo oNe (dVar 5) (dArg m_law_pay (dCons (dVar 0) (dCons (dVar 1) (dCons (dVar 4) dNil))))))) (gRet (dC (.bool false))) gSkip))
def g_law_tells_k19 : Sn := (gSeq (gSet (dC (.int 0)) (.nm 2)) (gSeq (gIf (dAsB (dTwo oGt (dArg bLen (dCons (dVar 0) dNil)) (dC (.int 0)))) (gSet (dTwo oIx (dTwo oIx (dTwo oIx (dVar 0) (dC (.int 0))) (dC (.int 0))) (dC (.int 0))) (.nm 2)) gSkip) (gSeq (gSet (dArg m_loads (dCons (dVar 0) (dCons (dVar 1) dNil))) (.nm 3)) (gSeq (gIf (dOr (dNot (dAsB (dOne (oIsi "tuple") (dVar 3)))) (dAsB (dTwo oNe (dArg bList (dCons (dVar 3) dNil)) (dArg m_law_loads (dCons (dVar 1) (dCons (dVar 2) dNil)))))) (gRet (dC (.bool false))) gSkip) (gSeq (gIf (dNot (dAsB (dArg bAll (dCons (dLc (dItems (dVar 3)) (.nm 6) dYes (dArg m_law_is_integer (dCons (dVar 6) dNil)) [6]) dNil)))) (gRet (dC (.bool false))) gSkip) (gSeq (gFor (dRng1 (dCons (dArg bLen (dCons (dVar 0) dNil)) dNil)) (.nm 4) b_law_tells_k19_1) (gRet (dC (.bool true)))))))))
def m_law_tells_k19 : List PyData → R PyData := runD 7 2 g_law_tells_k19
def g_law_k19 : Sn := (gSeq (gSet (dArg m_law_game (dCons (dVar 0) (dCons (dC (.int 0)) (dCons (dC (.bool false)) dNil)))) (.nm 1)) (gSeq (gSet (dArg m_law_choice (dCons (dArg m_law_cell (dCons (dVar 0) (dCons (dC (.int 8)) dNil))) (dCons (dVar 1) dNil))) (.nm 2)) (gSeq (gSet (dArg m_law_choice (dCons (dArg m_law_cell (dCons (dVar 0) (dCons (dC (.int 9)) dNil))) (dCons (dVar 1) dNil))) (.nm 3)) (gRet (dAndV (dArg m_law_tells_k19 (dCons (dVar 1) (dCons (dVar 2) dNil))) (dAndV (dArg m_law_tells_k19 (dCons (dVar 1) (dCons (dVar 3) dNil))) (dArg m_law_tells_k19 (dCons (dVar 1) (dCons (dVar 2) dNil)))))))))
def m_law_k19 : List PyData → R PyData := runD 4 1 g_law_k19
end LW

set_option Elab.async false
set_option linter.all false
set_option maxRecDepth 100000
set_option maxHeartbeats 4000000
namespace LW
open PySem PySem.Spec PyProof.Rows L2 PD
def g_law_with : Sn := (gRet (dTwo oAdd (dTwo oAdd (dCut (dVar 0) dNoP (dPart (dVar 1))) (dTup (dCons (dVar 2) dNil))) (dCut (dVar 0) (dPart (dTwo oAdd (dVar 1) (dC (.int 1)))) dNoP)))
def m_law_with : List PyData → R PyData := runD 3 3 g_law_with
def b_law_best_1 : Sn := (gSeq (gSet (dArg m_law_pay (dCons (dVar 0) (dCons (dArg m_law_with (dCons (dVar 1) (dCons (dVar 2) (dCons (dVar 5) dNil)))) (dCons (dVar 2) dNil)))) (.nm 6)) (gIf (dAsB (dTwo oLt (dVar 6) (dVar 4))) (gSeq (gSet (dVar 5) (.nm 3)) (gSet (dVar 6) (.nm 4))) gSkip))
def g_law_best : Sn := (gSeq (gSet (dTwo oIx (dTwo oIx (dTwo oIx (dTwo oIx (dVar 0) (dVar 2)) (dC (.int 0))) (dC (.int 1))) (dC (.int 0))) (.nm 3)) (gSeq (gSet (dArg m_law_pay (dCons (dVar 0) (dCons (dArg m_law_with (dCons (dVar 1) (dCons (dVar 2) (dCons (dVar 3) dNil)))) (dCons (dVar 2) dNil)))) (.nm 4)) (gSeq (gFor (dItems (dTwo oIx (dTwo oIx (dTwo oIx (dVar 0) (dVar 2)) (dC (.int 0))) (dC (.int 1)))) (.nm 5) b_law_best_1) (gRet (dTup (dCons (dVar 3) (dCons (dVar 4) dNil)))))))
def m_law_best : List PyData → R PyData := runD 7 3 g_law_best
def g_best_lot : Sn := (gRet (dArg m_cheapest (dCons (dTwo oIx (dTwo oIx (dVar 0) (dVar 2)) (dC (.int 0))) (dCons (dArg m_own_prices (dCons (dVar 0) (dCons (dVar 1) (dCons (dVar 2) dNil)))) dNil))))
def m_best_lot : List PyData → R PyData := runD 3 3 g_best_lot
def g_gain_for : Sn := (gSeq (gSet (dArg m_prices_for (dCons (dVar 0) (dCons (dVar 1) (dCons (dVar 2) dNil)))) (.nm 3)) (gRet (dTwo oSub (dArg m_price (dCons (dTwo oIx (dVar 1) (dVar 2)) (dCons (dVar 3) dNil))) (dArg m_price (dCons (dArg m_cheapest (dCons (dTwo oIx (dTwo oIx (dVar 0) (dVar 2)) (dC (.int 0))) (dCons (dVar 3) dNil))) (dCons (dVar 3) dNil))))))
def m_gain_for : List PyData → R PyData := runD 4 3 g_gain_for
def g_gain : Sn := (gRet (dArg m_gain_for (dCons (dArg m_players (dCons (dVar 0) dNil)) (dCons (dVar 1) (dCons (dVar 2) dNil)))))
def m_gain : List PyData → R PyData := runD 3 3 g_gain
def b_law_k21_1 : Sn := (gSeq (gSet (dArg m_law_best (dCons (dVar 1) (dCons (dVar 2) (dCons (dVar 3) dNil)))) (.nm 4)) (gSeq (gSet (dArg m_best_lot (dCons (dVar 1) (dCons (dVar 2) (dCons (dVar 3) dNil)))) (.nm 5)) (gSeq (gIf (dOr (dNot (dAsB (dArg m_law_is_set (dCons (dVar 5) (dCons (dTwo oIx (dTwo oIx (dTwo oIx (dVar 1) (dVar 3)) (dC (.int 0))) (dC (.int 0))) dNil))))) (dAsB (dTwo oNe (dVar 5) (dTwo oIx (dVar 4) (dC (.int 0)))))) (gRet (dC (.bool false))) gSkip) (gSeq (gSet (dArg m_gain (dCons (dVar 1) (dCons (dVar 2) (dCons (dVar 3) dNil)))) (.nm 6)) (gIf (dOr (dNot (dAsB (dArg m_law_is_integer (dCons (dVar 6) dNil)))) (dOr (dAsB (dTwo oNe (dVar 6) (dTwo oSub (dArg m_law_pay (dCons (dVar 1) (dCons (dVar 2) (dCons (dVar 3) dNil)))) (dTwo oIx (dVar 4) (dC (.int 1)))))) (dAsB (dTwo oLt (dVar 6) (dC (.int 0)))))) (gRet (dC (.bool false))) gSkip)))))
def g_law_k21 : Sn := (gSeq (gSet (dArg m_law_game (dCons (dVar 0) (dCons (dC (.int 0)) (dCons (dC (.bool false)) dNil)))) (.nm 1)) (gSeq (gSet (dArg m_law_choice (dCons (dArg m_law_cell (dCons (dVar 0) (dCons (dC (.int 8)) dNil))) (dCons (dVar 1) dNil))) (.nm 2)) (gSeq (gFor (dRng1 (dCons (dArg bLen (dCons (dVar 1) dNil)) dNil)) (.nm 3) b_law_k21_1) (gRet (dC (.bool true))))))
def m_law_k21 : List PyData → R PyData := runD 7 1 g_law_k21
end LW

set_option Elab.async false
set_option linter.all false
set_option maxRecDepth 100000
set_option maxHeartbeats 4000000
namespace LW
open PySem PySem.Spec PyProof.Rows L2 PD
def b_law_first_gain_1 : Sn := (gSeq (gSet (dArg m_law_best (dCons (dVar 0) (dCons (dVar 1) (dCons (dVar 2) dNil)))) (.nm 3)) (gIf (dAsB (dTwo oLt (dTwo oIx (dVar 3) (dC (.int 1))) (dArg m_law_pay (dCons (dVar 0) (dCons (dVar 1) (dCons (dVar 2) dNil)))))) (gRet (dTup (dCons (dVar 2) (dCons (dTwo oIx (dVar 3) (dC (.int 0))) dNil)))) gSkip))
def g_law_first_gain : Sn := (gSeq (gFor (dRng1 (dCons (dArg bLen (dCons (dVar 0) dNil)) dNil)) (.nm 2) b_law_first_gain_1) (gRet (dC .none)))
def m_law_first_gain : List PyData → R PyData := runD 4 2 g_law_first_gain
def b_first_gain_for_1 : Sn := (gSeq (gSet (dArg m_prices_for (dCons (dVar 0) (dCons (dVar 1) (dCons (dVar 2) dNil)))) (.nm 4)) (gSeq (gSet (dArg m_cheapest (dCons (dTwo oIx (dVar 3) (dC (.int 0))) (dCons (dVar 4) dNil))) (.nm 5)) (gIf (dAsB (dTwo oLt (dArg m_price (dCons (dVar 5) (dCons (dVar 4) dNil))) (dArg m_price (dCons (dTwo oIx (dVar 1) (dVar 2)) (dCons (dVar 4) dNil))))) (gRet (dTup (dCons (dVar 2) (dCons (dVar 5) dNil)))) gSkip)))
def g_first_gain_for : Sn := (gSeq (gFor (dEnum (dCons (dVar 0) dNil)) (.tp [(.nm 2), (.nm 3)]) b_first_gain_for_1) (gRet (dC .none)))
def m_first_gain_for : List PyData → R PyData := runD 6 2 g_first_gain_for
def g_first_gain : Sn := (gRet (dArg m_first_gain_for (dCons (dArg m_players (dCons (dVar 0) dNil)) (dCons (dVar 1) dNil))))
def m_first_gain : List PyData → R PyData := runD 2 2 g_first_gain
def g_is_rest : Sn := (gRet (dOne (fun d => .ok (.bool (isNone d))) (dArg m_first_gain (dCons (dVar 0) (dCons (dVar 1) dNil)))))
def m_is_rest : List PyData → R PyData := runD 2 2 g_is_rest
def g_law_tells_k22 : Sn := (gSeq (gSet (dArg m_law_first_gain (dCons (dVar 0) (dCons (dVar 1) dNil))) (.nm 2)) (gSeq (gSet (dArg m_first_gain (dCons (dVar 0) (dCons (dVar 1) dNil))) (.nm 3)) (gSeq (gSet (dArg m_is_rest (dCons (dVar 0) (dCons (dVar 1) dNil))) (.nm 4)) (gSeq (gIf (dOr (dNot (dAsB (dOne (oIsi "bool") (dVar 4)))) (dAsB (dTwo oNe (dVar 4) (dOne (fun d => .ok (.bool (isNone d))) (dVar 2))))) (gRet (dC (.bool false))) gSkip) (gSeq (gIf (dAsB (dOne (fun d => .ok (.bool (isNone d))) (dVar 2))) (gRet (dOne (fun d => .ok (.bool (isNone d))) (dVar 3))) gSkip) (gSeq (gIf (dOr (dNot (dAsB (dOne (oIsi "tuple") (dVar 3)))) (dOr (dAsB (dTwo oNe (dVar 3) (dVar 2))) (dNot (dAsB (dArg m_law_is_integer (dCons (dTwo oIx (dVar 3) (dC (.int 0))) dNil)))))) (gRet (dC (.bool false))) gSkip) (gRet (dArg m_law_is_set (dCons (dTwo oIx (dVar 3) (dC (.int 1))) (dCons (dTwo oIx (dTwo oIx (dTwo oIx (dVar 0) (dTwo oIx (dVar 3) (dC (.int 0)))) (dC (.int 0))) (dC (.int 0))) dNil))))))))))
def m_law_tells_k22 : List PyData → R PyData := runD 5 2 g_law_tells_k22
def b_law_k22_1 : Sn := (gIf (dNot (dAsB (dArg m_law_tells_k22 (dCons (dVar 1) (dCons (dVar 6) dNil))))) (gRet (dC (.bool false))) gSkip)
def g_law_k22 : Sn := (gSeq (gSet (dArg m_law_game (dCons (dVar 0) (dCons (dC (.int 0)) (dCons (dC (.bool false)) dNil)))) (.nm 1)) (gSeq (gSet (dArg m_law_choice (dCons (dArg m_law_cell (dCons (dVar 0) (dCons (dC (.int 8)) dNil))) (dCons (dVar 1) dNil))) (.nm 2)) (gSeq (gSet (dArg m_law_choice (dCons (dArg m_law_cell (dCons (dVar 0) (dCons (dC (.int 9)) dNil))) (dCons (dVar 1) dNil))) (.nm 3)) (gSeq (gSet (dVar 2) (.nm 4)) (gSeq (gSet (dArg m_law_first_gain (dCons (dVar 1) (dCons (dVar 2) dNil))) (.nm 5)) (gSeq (gIf (dAsB (dOne (fun d => .ok (.bool (!isNone d))) (dVar 5))) (gSet (dArg m_law_with (dCons (dVar 2) (dCons (dTwo oIx (dVar 5) (dC (.int 0))) (dCons (dTwo oIx (dVar 5) (dC (.int 1))) dNil)))) (.nm 4)) gSkip) (gSeq (gFor (dItems (dLst (dCons (dVar 2) (dCons (dVar 3) (dCons (dVar 4) (dCons (dVar 2) dNil)))))) (.nm 6) b_law_k22_1) (gRet (dC (.bool true))))))))))
def m_law_k22 : List PyData → R PyData := runD 7 1 g_law_k22
end LW

set_option Elab.async false
set_option linter.all false
set_option maxRecDepth 100000
set_option maxHeartbeats 4000000
namespace LW
open PySem PySem.Spec PyProof.Rows L2 PD
def b_law_small_1 : Sn := (gSeq (gSet (dTwo oIx (dTwo oIx (dVar 2) (dC (.int 0))) (dC (.int 1))) (.nm 3)) (gSeq (gIf (dAsB (dTwo oGt (dArg bLen (dCons (dVar 0) dNil)) (dC (.int 2)))) (gSet (dCut (dVar 3) dNoP (dPart (dC (.int 4)))) (.nm 3)) gSkip) (gApp 1 (dTup (dCons (dTup (dCons (dTwo oIx (dTwo oIx (dVar 2) (dC (.int 0))) (dC (.int 0))) (dCons (dVar 3) dNil))) (dCons (dTwo oIx (dVar 2) (dC (.int 1))) dNil))))))
def g_law_small : Sn := (gSeq (gOwn (dLst dNil) 1) (gSeq (gFor (dItems (dVar 0)) (.nm 2) b_law_small_1) (gFrz 1 (gRet (dArg bTuple (dCons (dVar 1) dNil))))))
def m_law_small : List PyData → R PyData := runD 4 1 g_law_small
def b_law_choices_1 : Sn := (gApp 3 (dTwo oAdd (dVar 4) (dTup (dCons (dVar 5) dNil))))
def b_law_choices_2 : Sn := (gFor (dItems (dTwo oIx (dTwo oIx (dVar 2) (dC (.int 0))) (dC (.int 1)))) (.nm 5) b_law_choices_1)
def b_law_choices_3 : Sn := (gSeq (gOwn (dLst dNil) 3) (gSeq (gFor (dItems (dVar 1)) (.nm 4) b_law_choices_2) (gFrz 3 (gSet (dArg bList (dCons (dVar 3) dNil)) (.nm 1)))))
def g_law_choices : Sn := (gSeq (gSet (dLst (dCons (dTup dNil) dNil)) (.nm 1)) (gSeq (gFor (dItems (dVar 0)) (.nm 2) b_law_choices_3) (gRet (dVar 1))))
def m_law_choices : List PyData → R PyData := runD 6 1 g_law_choices
def b_all_choices_1 : Sn := (gSet (dLc2 (dItems (dVar 1)) (.nm 3) dYes (dItems (dTwo oIx (dTwo oIx (dVar 2) (dC (.int 0))) (dC (.int 1)))) (.nm 4) dYes (dTwo oAdd (dVar 3) (dTup (dCons (dVar 4) dNil))) [3, 4] [4]) (.nm 1))
def g_all_choices : Sn := (gSeq (gSet (dLst (dCons (dTup dNil) dNil)) (.nm 1)) (gSeq (gFor (dItems (dVar 0)) (.nm 2) b_all_choices_1) (gRet (dVar 1))))
def m_all_choices : List PyData → R PyData := runD 5 1 g_all_choices
def g_choices : Sn := (gRet (dArg bTuple (dCons (dArg m_all_choices (dCons (dArg m_players (dCons (dVar 0) dNil)) dNil)) dNil)))
def m_choices : List PyData → R PyData := runD 1 1 g_choices
def g_all_rests : Sn := (gRet (dLc (dItems (dArg m_all_choices (dCons (dVar 0) dNil))) (.nm 1) (dAsB (dOne (fun d => .ok (.bool (isNone d))) (dArg m_first_gain_for (dCons (dVar 0) (dCons (dVar 1) dNil))))) (dVar 1) [1]))
def m_all_rests : List PyData → R PyData := runD 2 1 g_all_rests
def g_rests : Sn := (gRet (dArg bTuple (dCons (dArg m_all_rests (dCons (dArg m_players (dCons (dVar 0) dNil)) dNil)) dNil)))
def m_rests : List PyData → R PyData := runD 1 1 g_rests
def b_law_are_choices_1 : Sn := (gSeq (gIf (dOr (dNot (dAsB (dOne (oIsi "tuple") (dVar 2)))) (dAsB (dTwo oNe (dArg bLen (dCons (dVar 2) dNil)) (dArg bLen (dCons (dVar 1) dNil))))) (gRet (dC (.bool false))) gSkip) (gIf (dNot (dAsB (dArg bAll (dCons (dLc (dRng1 (dCons (dArg bLen (dCons (dVar 1) dNil)) dNil)) (.nm 3) dYes (dArg m_law_is_set (dCons (dTwo oIx (dVar 2) (dVar 3)) (dCons (dTwo oIx (dTwo oIx (dTwo oIx (dVar 1) (dVar 3)) (dC (.int 0))) (dC (.int 0))) dNil))) [3]) dNil)))) (gRet (dC (.bool false))) gSkip))
def g_law_are_choices : Sn := (gSeq (gIf (dNot (dAsB (dOne (oIsi "tuple") (dVar 0)))) (gRet (dC (.bool false))) gSkip) (gSeq (gFor (dItems (dVar 0)) (.nm 2) b_law_are_choices_1) (gRet (dC (.bool true)))))
def m_law_are_choices : List PyData → R PyData := runD 4 2 g_law_are_choices
def g_law_k23 : Sn := (gSeq (gSet (dArg m_law_small (dCons (dArg m_law_game (dCons (dVar 0) (dCons (dC (.int 0)) (dCons (dC (.bool false)) dNil)))) dNil)) (.nm 1)) (gSeq (gSet (dArg m_law_choices (dCons (dVar 1) dNil)) (.nm 2)) (gSeq (gSet (dArg m_choices (dCons (dVar 1) dNil)) (.nm 3)) (gSeq (gIf (dOr (dNot (dAsB (dArg m_law_are_choices (dCons (dVar 3) (dCons (dVar 1) dNil))))) (dAsB (dTwo oNe (dArg bList (dCons (dVar 3) dNil)) (dVar 2)))) (gRet (dC (.bool false))) gSkip) (gSeq (gSet (dLc (dItems (dVar 2)) (.nm 5) (dAsB (dOne (fun d => .ok (.bool (isNone d))) (dArg m_law_first_gain (dCons (dVar 1) (dCons (dVar 5) dNil))))) (dVar 5) [5]) (.nm 4)) (gSeq (gSet (dArg m_rests (dCons (dVar 1) dNil)) (.nm 3)) (gRet (dAndV (dArg m_law_are_choices (dCons (dVar 3) (dCons (dVar 1) dNil))) (dTwo oEq (dArg bList (dCons (dVar 3) dNil)) (dVar 4))))))))))
def m_law_k23 : List PyData → R PyData := runD 6 1 g_law_k23
end LW

set_option Elab.async false
set_option linter.all false
set_option maxRecDepth 100000
set_option maxHeartbeats 4000000
namespace LW
open PySem PySem.Spec PyProof.Rows L2 PD
def b_law_game_k47_1 : Sn := (gSeq (gSet (dArg m_law_costs (dCons (dArg m_law_cell (dCons (dVar 0) (dCons (dC (.int 1)) dNil))) (dCons (dVar 4) (dCons (dVar 5) (dCons (dVar 6) dNil))))) (.nm 9)) (gSeq (gIf (dAsB (dTwo oEq (dTwo oMod (dArg bInt (dCons (dTwo oIx (dVar 1) (dC (.int 4))) dNil)) (dC (.int 2))) (dC (.int 0)))) (gSet (dArg m_law_costs (dCons (dArg m_law_cell (dCons (dVar 0) (dCons (dTwo oAdd (dC (.int 2)) (dTwo oMul (dC (.int 2)) (dVar 8))) dNil))) (dCons (dVar 4) (dCons (dVar 5) (dCons (dVar 6) dNil))))) (.nm 9)) gSkip) (gSeq (gSet (dArg m_law_cell (dCons (dVar 0) (dCons (dTwo oAdd (dC (.int 3)) (dTwo oMul (dC (.int 2)) (dVar 8))) dNil))) (.nm 10)) (gIf (dAsB (dVar 2)) (gApp 7 (dTup (dCons (dTup (dCons (dVar 4) (dCons (dCut (dArg m_law_drawn_lots (dCons (dVar 10) (dCons (dVar 4) dNil))) dNoP (dPart (dC (.int 2)))) dNil))) (dCons (dVar 9) dNil)))) (gApp 7 (dTup (dCons (dTup (dCons (dVar 4) (dCons (dArg m_law_lots (dCons (dVar 10) (dCons (dVar 4) dNil))) dNil))) (dCons (dVar 9) dNil))))))))
def g_law_game_k47 : Sn := (gSeq (gSet (dArg m_law_draws (dCons (dArg m_law_cell (dCons (dVar 0) (dCons (dC (.int 0)) dNil))) (dCons (dC (.int 6)) dNil))) (.nm 1)) (gSeq (gSet (dTwo oEq (dTwo oMod (dArg bInt (dCons (dTwo oIx (dVar 1) (dC (.int 5))) dNil)) (dC (.int 8))) (dC (.int 1))) (.nm 2)) (gSeq (gSet (dTwo oIx (dTup (dCons (dC (.int 2)) (dCons (dC (.int 3)) (dCons (dC (.int 2)) (dCons (dC (.int 1)) (dCons (dC (.int 3)) (dCons (dC (.int 2)) (dCons (dC (.int 0)) (dCons (dC (.int 2)) dNil))))))))) (dTwo oMod (dArg bInt (dCons (dTwo oIx (dVar 1) (dC (.int 0))) dNil)) (dC (.int 8)))) (.nm 3)) (gSeq (gSet (dTwo oIx (dTup (dCons (dC (.int 3)) (dCons (dC (.int 4)) (dCons (dC (.int 3)) (dCons (dC (.int 2)) (dCons (dC (.int 4)) (dCons (dC (.int 1)) (dCons (dC (.int 3)) (dCons (dC (.int 0)) dNil))))))))) (dTwo oMod (dArg bInt (dCons (dTwo oIx (dVar 1) (dC (.int 1))) dNil)) (dC (.int 8)))) (.nm 4)) (gSeq (gIf (dAsB (dVar 2)) (gSeq (gSet (dTwo oAdd (dC (.int 4)) (dTwo oMod (dArg bInt (dCons (dTwo oIx (dVar 1) (dC (.int 0))) dNil)) (dC (.int 3)))) (.nm 3)) (gSet (dTwo oAdd (dC (.int 6)) (dTwo oMod (dArg bInt (dCons (dTwo oIx (dVar 1) (dC (.int 1))) dNil)) (dC (.int 7)))) (.nm 4))) gSkip) (gSeq (gSet (dTwo oAdd (dVar 3) (dTwo oMod (dArg bInt (dCons (dTwo oIx (dVar 1) (dC (.int 2))) dNil)) (dC (.int 2)))) (.nm 5)) (gSeq (gSet (dTwo oEq (dTwo oMod (dArg bInt (dCons (dTwo oIx (dVar 1) (dC (.int 3))) dNil)) (dC (.int 8))) (dC (.int 1))) (.nm 6)) (gSeq (gOwn (dLst dNil) 7) (gSeq (gFor (dRng1 (dCons (dVar 3) dNil)) (.nm 8) b_law_game_k47_1) (gFrz 7 (gRet (dArg bTuple (dCons (dVar 7) dNil)))))))))))))
def m_law_game_k47 : List PyData → R PyData := runD 11 1 g_law_game_k47
def g_total : Sn := (gRet (dArg bSum (dCons (dLc (dRng1 (dCons (dArg bLen (dCons (dVar 0) dNil)) dNil)) (.nm 2) dYes (dArg m_pay (dCons (dVar 0) (dCons (dVar 1) (dCons (dVar 2) dNil)))) [2]) dNil)))
def m_total : List PyData → R PyData := runD 3 2 g_total
def g_least_total : Sn := (gRet (dArg bMin (dCons (dLc (dItems (dArg m_choices (dCons (dVar 0) dNil))) (.nm 1) dYes (dArg m_total (dCons (dVar 0) (dCons (dVar 1) dNil))) [1]) dNil)))
def m_least_total : List PyData → R PyData := runD 2 1 g_least_total
def b_law_total_1 : Sn := (gSet (dTwo oAdd (dVar 3) (dTwo oIx (dTwo oIx (dTwo oIx (dTwo oIx (dVar 0) (dVar 4)) (dC (.int 1))) (dVar 5)) (dTwo oSub (dTwo oIx (dVar 2) (dVar 5)) (dC (.int 1))))) (.nm 3))
def b_law_total_2 : Sn := (gFor (dItems (dTwo oIx (dVar 1) (dVar 4))) (.nm 5) b_law_total_1)
def g_law_total : Sn := (gSeq (gIf (dAsB (dTwo oEq (dArg bLen (dCons (dVar 0) dNil)) (dC (.int 0)))) (gRet (dC (.int 0))) gSkip) (gSeq (gSet (dArg m_law_loads (dCons (dVar 1) (dCons (dTwo oIx (dTwo oIx (dTwo oIx (dVar 0) (dC (.int 0))) (dC (.int 0))) (dC (.int 0))) dNil))) (.nm 2)) (gSeq (gSet (dC (.int 0)) (.nm 3)) (gSeq (gFor (dRng1 (dCons (dArg bLen (dCons (dVar 0) dNil)) dNil)) (.nm 4) b_law_total_2) (gRet (dVar 3))))))
def m_law_total : List PyData → R PyData := runD 6 2 g_law_total
def b_law_choices_k47_1 : Sn := (gSet (dTwo oAdd (dVar 3) (dLc (dItems (dTwo oIx (dTwo oIx (dVar 2) (dC (.int 0))) (dC (.int 1)))) (.nm 5) dYes (dTwo oAdd (dVar 4) (dTup (dCons (dVar 5) dNil))) [5])) (.nm 3))
def b_law_choices_k47_2 : Sn := (gSeq (gSet (dLst dNil) (.nm 3)) (gSeq (gFor (dItems (dVar 1)) (.nm 4) b_law_choices_k47_1) (gSet (dVar 3) (.nm 1))))
def g_law_choices_k47 : Sn := (gSeq (gSet (dLst (dCons (dTup dNil) dNil)) (.nm 1)) (gSeq (gFor (dItems (dVar 0)) (.nm 2) b_law_choices_k47_2) (gRet (dVar 1))))
def m_law_choices_k47 : List PyData → R PyData := runD 6 1 g_law_choices_k47
def b_law_k47_1 : Sn := (gSeq (gSet (dArg m_total (dCons (dVar 1) (dCons (dVar 5) dNil))) (.nm 6)) (gIf (dOr (dNot (dAsB (dArg m_law_is_integer (dCons (dVar 6) dNil)))) (dOr (dAsB (dTwo oNe (dVar 6) (dArg m_law_total (dCons (dVar 1) (dCons (dVar 5) dNil))))) (dAsB (dTwo oLt (dVar 6) (dVar 4))))) (gRet (dC (.bool false))) gSkip))
def g_law_k47 : Sn := (gSeq (gSet (dArg m_law_game_k47 (dCons (dVar 0) dNil)) (.nm 1)) (gSeq (gSet (dArg m_law_choice (dCons (dArg m_law_cell (dCons (dVar 0) (dCons (dC (.int 14)) dNil))) (dCons (dVar 1) dNil))) (.nm 2)) (gSeq (gSet (dArg m_law_choice (dCons (dArg m_law_cell (dCons (dVar 0) (dCons (dC (.int 15)) dNil))) (dCons (dVar 1) dNil))) (.nm 3)) (gSeq (gSet (dArg m_least_total (dCons (dVar 1) dNil)) (.nm 4)) (gSeq (gIf (dOr (dNot (dAsB (dArg m_law_is_integer (dCons (dVar 4) dNil)))) (dAsB (dTwo oNe (dVar 4) (dArg bMin (dCons (dLc (dItems (dArg m_law_choices_k47 (dCons (dVar 1) dNil))) (.nm 5) dYes (dArg m_law_total (dCons (dVar 1) (dCons (dVar 5) dNil))) [5]) dNil))))) (gRet (dC (.bool false))) gSkip) (gSeq (gFor (dItems (dLst (dCons (dVar 2) (dCons (dVar 3) (dCons (dVar 2) dNil))))) (.nm 5) b_law_k47_1) (gRet (dTwo oEq (dArg m_least_total (dCons (dVar 1) dNil)) (dVar 4)))))))))
def m_law_k47 : List PyData → R PyData := runD 7 1 g_law_k47
end LW

set_option Elab.async false
set_option linter.all false
set_option maxRecDepth 100000
set_option maxHeartbeats 4000000
namespace LW
open PySem PySem.Spec PyProof.Rows L2 PD
def b_law_costs_k79_1 : Sn := (gSeq (gIf (dAsB (dTwo oGt (dVar 10) (dC (.int 0)))) (gSet (dTwo oAdd (dVar 7) (dTwo oIx (dTup (dCons (dC (.int 0)) (dCons (dC (.int 1)) (dCons (dC (.int 3)) (dCons (dC (.int 0)) (dCons (dC (.int 8)) (dCons (dC (.int 2)) dNil))))))) (dTwo oMod (dArg bInt (dCons (dTwo oIx (dVar 4) (dTwo oAdd (dTwo oMul (dVar 6) (dVar 2)) (dVar 10))) dNil)) (dC (.int 6))))) (.nm 7)) gSkip) (gIf (dAsB (dVar 3)) (gApp 9 (dTwo oAdd (dTwo oMul (dVar 7) (dTwo oPow (dC (.int 10)) (dC (.int 30)))) (dVar 8))) (gApp 9 (dVar 7))))
def b_law_costs_k79_2 : Sn := (gSeq (gSet (dTwo oSub (dTwo oMod (dArg bInt (dCons (dTwo oIx (dVar 4) (dTwo oMul (dVar 6) (dVar 2))) dNil)) (dC (.int 9))) (dC (.int 3))) (.nm 7)) (gSeq (gSet (dTwo oMod (dTwo oDiv (dArg bInt (dCons (dTwo oIx (dVar 4) (dTwo oMul (dVar 6) (dVar 2))) dNil)) (dC (.int 9))) (dC (.int 3))) (.nm 8)) (gSeq (gOwn (dLst dNil) 9) (gSeq (gFor (dRng1 (dCons (dVar 2) dNil)) (.nm 10) b_law_costs_k79_1) (gFrz 9 (gApp 5 (dArg bTuple (dCons (dVar 9) dNil))))))))
def g_law_costs_k79 : Sn := (gSeq (gSet (dArg m_law_draws (dCons (dVar 0) (dCons (dTwo oAdd (dTwo oMul (dVar 1) (dVar 2)) (dC (.int 1))) dNil))) (.nm 4)) (gSeq (gOwn (dLst dNil) 5) (gSeq (gFor (dRng1 (dCons (dVar 1) dNil)) (.nm 6) b_law_costs_k79_2) (gFrz 5 (gRet (dArg bTuple (dCons (dVar 5) dNil)))))))
def m_law_costs_k79 : List PyData → R PyData := runD 11 4 g_law_costs_k79
def g_law_any_lots_k79 : Sn := (gSeq (gSet (dArg m_law_draws (dCons (dVar 0) (dCons (dC (.int 9)) dNil))) (.nm 2)) (gSeq (gSet (dArg m_law_parts_of (dCons (dVar 1) dNil)) (.nm 3)) (gSeq (gSet (dLc (dRng1 (dCons (dTwo oAdd (dC (.int 1)) (dTwo oMod (dArg bInt (dCons (dTwo oIx (dVar 2) (dC (.int 2))) dNil)) (dC (.int 6)))) dNil)) (.nm 5) dYes (dTwo oIx (dVar 3) (dTwo oMod (dArg bInt (dCons (dTwo oIx (dVar 2) (dTwo oAdd (dC (.int 3)) (dVar 5))) dNil)) (dArg bLen (dCons (dVar 3) dNil)))) [5]) (.nm 4)) (gRet (dArg m_law_antichain (dCons (dVar 4) dNil))))))
def m_law_any_lots_k79 : List PyData → R PyData := runD 6 2 g_law_any_lots_k79
def g_law_lots_k79 : Sn := (gSeq (gSet (dArg m_law_draws (dCons (dVar 0) (dCons (dC (.int 2)) dNil))) (.nm 2)) (gSeq (gIf (dAsB (dTwo oEq (dTwo oMod (dTwo oDiv (dArg bInt (dCons (dTwo oIx (dVar 2) (dC (.int 1))) dNil)) (dC (.int 8))) (dC (.int 2))) (dC (.int 0)))) (gRet (dArg m_law_smooth_lots_k03 (dCons (dVar 0) (dCons (dVar 1) dNil)))) gSkip) (gRet (dArg m_law_any_lots_k79 (dCons (dVar 0) (dCons (dVar 1) dNil))))))
def m_law_lots_k79 : List PyData → R PyData := runD 3 2 g_law_lots_k79
def b_law_heavy_game_1 : Sn := (gSeq (gSet (dArg m_law_cell (dCons (dVar 0) (dCons (dTwo oAdd (dTwo oAdd (dVar 1) (dC (.int 1))) (dVar 7)) dNil))) (.nm 8)) (gSeq (gIf (dAsB (dVar 2)) (gSet (dArg m_law_smooth_lots_k03 (dCons (dVar 8) (dCons (dVar 5) dNil))) (.nm 9)) (gSet (dArg m_law_lots_k79 (dCons (dVar 8) (dCons (dVar 5) dNil))) (.nm 9))) (gApp 6 (dTup (dCons (dTup (dCons (dVar 5) (dCons (dVar 9) dNil))) (dCons (dTwo oIx (dTup (dCons (dC (.int 1)) (dCons (dC (.int 2)) (dCons (dC (.int 1)) (dCons (dC (.int 3)) (dCons (dC (.int 2)) (dCons (dC (.int 5)) dNil))))))) (dTwo oMod (dArg bInt (dCons (dTwo oIx (dVar 3) (dTwo oAdd (dC (.int 4)) (dVar 7))) dNil)) (dC (.int 6)))) dNil))))))
def g_law_heavy_game : Sn := (gSeq (gSet (dArg m_law_draws (dCons (dArg m_law_cell (dCons (dVar 0) (dCons (dVar 1) dNil))) (dCons (dC (.int 8)) dNil))) (.nm 3)) (gSeq (gSet (dTwo oIx (dTup (dCons (dC (.int 2)) (dCons (dC (.int 2)) (dCons (dC (.int 3)) (dCons (dC (.int 1)) (dCons (dC (.int 2)) (dCons (dC (.int 3)) (dCons (dC (.int 2)) (dCons (dC (.int 0)) dNil))))))))) (dTwo oMod (dArg bInt (dCons (dTwo oIx (dVar 3) (dC (.int 0))) dNil)) (dC (.int 8)))) (.nm 4)) (gSeq (gSet (dTwo oIx (dTup (dCons (dC (.int 3)) (dCons (dC (.int 4)) (dCons (dC (.int 3)) (dCons (dC (.int 2)) (dCons (dC (.int 4)) (dCons (dC (.int 3)) (dCons (dC (.int 1)) (dCons (dC (.int 0)) dNil))))))))) (dTwo oMod (dArg bInt (dCons (dTwo oIx (dVar 3) (dC (.int 1))) dNil)) (dC (.int 8)))) (.nm 5)) (gSeq (gOwn (dLst dNil) 6) (gSeq (gFor (dRng1 (dCons (dVar 4) dNil)) (.nm 7) b_law_heavy_game_1) (gFrz 6 (gSeq (gSet (dTwo oAdd (dArg bSum (dCons (dLc (dItems (dVar 6)) (.nm 12) dYes (dTwo oIx (dVar 12) (dC (.int 1))) [12]) dNil)) (dTwo oMod (dArg bInt (dCons (dTwo oIx (dVar 3) (dC (.int 2))) dNil)) (dC (.int 2)))) (.nm 10)) (gSeq (gSet (dArg m_law_costs_k79 (dCons (dArg m_law_cell (dCons (dVar 0) (dCons (dTwo oAdd (dVar 1) (dC (.int 4))) dNil))) (dCons (dVar 5) (dCons (dVar 10) (dCons (dTwo oEq (dTwo oMod (dArg bInt (dCons (dTwo oIx (dVar 3) (dC (.int 3))) dNil)) (dC (.int 8))) (dC (.int 1))) dNil))))) (.nm 11)) (gRet (dTup (dCons (dVar 11) (dCons (dArg bTuple (dCons (dVar 6) dNil)) dNil))))))))))))
def m_law_heavy_game : List PyData → R PyData := runD 13 3 g_law_heavy_game
def g_law_heavy_choice : Sn := (gSeq (gSet (dArg m_law_draws (dCons (dVar 0) (dCons (dTwo oAdd (dArg bLen (dCons (dVar 1) dNil)) (dC (.int 1))) dNil))) (.nm 2)) (gRet (dArg bTuple (dCons (dLc (dRng1 (dCons (dArg bLen (dCons (dVar 1) dNil)) dNil)) (.nm 3) dYes (dTwo oIx (dTwo oIx (dTwo oIx (dTwo oIx (dVar 1) (dVar 3)) (dC (.int 0))) (dC (.int 1))) (dTwo oMod (dArg bInt (dCons (dTwo oIx (dVar 2) (dVar 3)) dNil)) (dArg bLen (dCons (dTwo oIx (dTwo oIx (dTwo oIx (dVar 1) (dVar 3)) (dC (.int 0))) (dC (.int 1))) dNil)))) [3]) dNil))))
def m_law_heavy_choice : List PyData → R PyData := runD 4 2 g_law_heavy_choice
def g_players_k79 : Sn := (gSeq (gSet (dVar 0) (.tp [(.nm 1), (.nm 2)])) (gRet (dLc (dItems (dVar 2)) (.tp [(.nm 3), (.nm 4)]) dYes (dTup (dCons (dVar 3) (dCons (dVar 1) (dCons (dVar 4) dNil)))) [3, 4])))
def m_players_k79 : List PyData → R PyData := runD 5 1 g_players_k79
def g_heavy_loads : Sn := (gRet (dArg m_count_loads (dCons (dArg bLen (dCons (dTwo oIx (dVar 0) (dC (.int 0))) dNil)) (dCons (dArg m_players_k79 (dCons (dVar 0) dNil)) (dCons (dVar 1) dNil)))))
def m_heavy_loads : List PyData → R PyData := runD 2 2 g_heavy_loads
def g_law_are_integers : Sn := (gSeq (gIf (dOr (dNot (dAsB (dOne (oIsi "tuple") (dVar 0)))) (dAsB (dTwo oNe (dArg bLen (dCons (dVar 0) dNil)) (dVar 1)))) (gRet (dC (.bool false))) gSkip) (gRet (dArg bAll (dCons (dLc (dItems (dVar 0)) (.nm 2) dYes (dArg m_law_is_integer (dCons (dVar 2) dNil)) [2]) dNil))))
def m_law_are_integers : List PyData → R PyData := runD 3 2 g_law_are_integers
def g_heavy_prices : Sn := (gRet (dArg m_prices_for (dCons (dArg m_players_k79 (dCons (dVar 0) dNil)) (dCons (dVar 1) (dCons (dVar 2) dNil)))))
def m_heavy_prices : List PyData → R PyData := runD 3 3 g_heavy_prices
def g_heavy_pay : Sn := (gRet (dArg m_price (dCons (dTwo oIx (dVar 1) (dVar 2)) (dCons (dArg m_heavy_prices (dCons (dVar 0) (dCons (dVar 1) (dCons (dVar 2) dNil)))) dNil))))
def m_heavy_pay : List PyData → R PyData := runD 3 3 g_heavy_pay
def g_law_heavy_load : Sn := (gRet (dArg bSum (dCons (dLc (dRng1 (dCons (dArg bLen (dCons (dVar 0) dNil)) dNil)) (.nm 3) (dAsB (dTwo oIn (dVar 2) (dTwo oIx (dVar 1) (dVar 3)))) (dTwo oIx (dTwo oIx (dVar 0) (dVar 3)) (dC (.int 1))) [3]) dNil)))
def m_law_heavy_load : List PyData → R PyData := runD 4 3 g_law_heavy_load
def g_law_heavy_pay : Sn := (gRet (dArg bSum (dCons (dLc (dItems (dTwo oIx (dVar 1) (dVar 2))) (.nm 3) dYes (dTwo oIx (dTwo oIx (dTwo oIx (dVar 0) (dC (.int 0))) (dVar 3)) (dTwo oSub (dArg m_law_heavy_load (dCons (dTwo oIx (dVar 0) (dC (.int 1))) (dCons (dVar 1) (dCons (dVar 3) dNil)))) (dC (.int 1)))) [3]) dNil)))
def m_law_heavy_pay : List PyData → R PyData := runD 4 3 g_law_heavy_pay
def g_law_heavy_price : Sn := (gSeq (gSet (dArg m_law_heavy_load (dCons (dTwo oIx (dVar 0) (dC (.int 1))) (dCons (dVar 1) (dCons (dVar 3) dNil)))) (.nm 4)) (gSeq (gIf (dAsB (dTwo oNotIn (dVar 3) (dTwo oIx (dVar 1) (dVar 2)))) (gSet (dTwo oAdd (dVar 4) (dTwo oIx (dTwo oIx (dTwo oIx (dVar 0) (dC (.int 1))) (dVar 2)) (dC (.int 1)))) (.nm 4)) gSkip) (gRet (dTwo oIx (dTwo oIx (dTwo oIx (dVar 0) (dC (.int 0))) (dVar 3)) (dTwo oSub (dVar 4) (dC (.int 1)))))))
def m_law_heavy_price : List PyData → R PyData := runD 5 4 g_law_heavy_price
def b_law_taker_tells_1 : Sn := (gIf (dAsB (dTwo oNe (dArg m_heavy_pay (dCons (dVar 0) (dCons (dArg m_law_with (dCons (dVar 1) (dCons (dVar 2) (dCons (dVar 6) dNil)))) (dCons (dVar 2) dNil)))) (dArg bSum (dCons (dLc (dItems (dVar 6)) (.nm 7) dYes (dTwo oIx (dVar 4) (dVar 7)) [7]) dNil)))) (gRet (dC (.bool false))) gSkip)
def g_law_taker_tells : Sn := (gSeq (gSet (dArg bLen (dCons (dTwo oIx (dVar 0) (dC (.int 0))) dNil)) (.nm 3)) (gSeq (gSet (dArg m_heavy_prices (dCons (dVar 0) (dCons (dVar 1) (dCons (dVar 2) dNil)))) (.nm 4)) (gSeq (gIf (dNot (dAsB (dArg m_law_are_integers (dCons (dVar 4) (dCons (dVar 3) dNil))))) (gRet (dC (.bool false))) gSkip) (gSeq (gIf (dAsB (dTwo oNe (dVar 4) (dArg bTuple (dCons (dLc (dRng1 (dCons (dVar 3) dNil)) (.nm 7) dYes (dArg m_law_heavy_price (dCons (dVar 0) (dCons (dVar 1) (dCons (dVar 2) (dCons (dVar 7) dNil))))) [7]) dNil)))) (gRet (dC (.bool false))) gSkip) (gSeq (gSet (dArg m_heavy_pay (dCons (dVar 0) (dCons (dVar 1) (dCons (dVar 2) dNil)))) (.nm 5)) (gSeq (gIf (dOr (dNot (dAsB (dArg m_law_is_integer (dCons (dVar 5) dNil)))) (dAsB (dTwo oNe (dVar 5) (dArg m_law_heavy_pay (dCons (dVar 0) (dCons (dVar 1) (dCons (dVar 2) dNil))))))) (gRet (dC (.bool false))) gSkip) (gSeq (gFor (dItems (dTwo oIx (dTwo oIx (dTwo oIx (dTwo oIx (dVar 0) (dC (.int 1))) (dVar 2)) (dC (.int 0))) (dC (.int 1)))) (.nm 6) b_law_taker_tells_1) (gRet (dC (.bool true))))))))))
def m_law_taker_tells : List PyData → R PyData := runD 8 3 g_law_taker_tells
def g_law_tells_k79 : Sn := (gSeq (gSet (dArg bLen (dCons (dTwo oIx (dVar 0) (dC (.int 0))) dNil)) (.nm 2)) (gSeq (gSet (dArg m_heavy_loads (dCons (dVar 0) (dCons (dVar 1) dNil))) (.nm 3)) (gSeq (gIf (dNot (dAsB (dArg m_law_are_integers (dCons (dVar 3) (dCons (dVar 2) dNil))))) (gRet (dC (.bool false))) gSkip) (gSeq (gIf (dAsB (dTwo oNe (dVar 3) (dArg bTuple (dCons (dLc (dRng1 (dCons (dVar 2) dNil)) (.nm 4) dYes (dArg m_law_heavy_load (dCons (dTwo oIx (dVar 0) (dC (.int 1))) (dCons (dVar 1) (dCons (dVar 4) dNil)))) [4]) dNil)))) (gRet (dC (.bool false))) gSkip) (gRet (dArg bAll (dCons (dLc (dRng1 (dCons (dArg bLen (dCons (dTwo oIx (dVar 0) (dC (.int 1))) dNil)) dNil)) (.nm 5) dYes (dArg m_law_taker_tells (dCons (dVar 0) (dCons (dVar 1) (dCons (dVar 5) dNil)))) [5]) dNil)))))))
def m_law_tells_k79 : List PyData → R PyData := runD 6 2 g_law_tells_k79
def g_law_k79 : Sn := (gSeq (gSet (dArg m_law_heavy_game (dCons (dVar 0) (dCons (dC (.int 0)) (dCons (dC (.bool false)) dNil)))) (.nm 1)) (gSeq (gSet (dArg m_law_heavy_choice (dCons (dArg m_law_cell (dCons (dVar 0) (dCons (dC (.int 6)) dNil))) (dCons (dTwo oIx (dVar 1) (dC (.int 1))) dNil))) (.nm 2)) (gSeq (gSet (dArg m_law_heavy_choice (dCons (dArg m_law_cell (dCons (dVar 0) (dCons (dC (.int 7)) dNil))) (dCons (dTwo oIx (dVar 1) (dC (.int 1))) dNil))) (.nm 3)) (gRet (dArg bAll (dCons (dLc (dItems (dLst (dCons (dVar 2) (dCons (dVar 3) (dCons (dVar 2) dNil))))) (.nm 4) dYes (dArg m_law_tells_k79 (dCons (dVar 1) (dCons (dVar 4) dNil))) [4]) dNil))))))
def m_law_k79 : List PyData → R PyData := runD 5 1 g_law_k79
end LW

set_option Elab.async false
set_option linter.all false
set_option maxRecDepth 100000
set_option maxHeartbeats 4000000
namespace LW
open PySem PySem.Spec PyProof.Rows L2 PD
def b_law_single_game_1 : Sn := (gSeq (gSet (dLc (dRng1 (dCons (dVar 3) dNil)) (.nm 8) (dAsB (dTwo oGt (dTwo oMod (dTwo oDiv (dArg bInt (dCons (dTwo oIx (dVar 1) (dTwo oAdd (dC (.int 4)) (dVar 6))) dNil)) (dTwo oIx (dTup (dCons (dC (.int 1)) (dCons (dC (.int 3)) (dCons (dC (.int 9)) dNil)))) (dVar 8))) (dC (.int 3))) (dC (.int 0)))) (dTup (dCons (dVar 8) dNil)) [8]) (.nm 7)) (gSeq (gIf (dAsB (dTwo oEq (dArg bLen (dCons (dVar 7) dNil)) (dC (.int 0)))) (gSet (dLst (dCons (dTup (dCons (dTwo oMod (dArg bInt (dCons (dTwo oIx (dVar 1) (dC (.int 8))) dNil)) (dVar 3)) dNil)) dNil)) (.nm 7)) gSkip) (gApp 5 (dTup (dCons (dTup (dCons (dVar 3) (dCons (dArg bTuple (dCons (dVar 7) dNil)) dNil))) (dCons (dVar 4) dNil))))))
def g_law_single_game : Sn := (gSeq (gSet (dArg m_law_draws (dCons (dArg m_law_cell (dCons (dVar 0) (dCons (dC (.int 0)) dNil))) (dCons (dC (.int 9)) dNil))) (.nm 1)) (gSeq (gSet (dTwo oIx (dTup (dCons (dC (.int 2)) (dCons (dC (.int 3)) (dCons (dC (.int 1)) (dCons (dC (.int 4)) (dCons (dC (.int 3)) (dCons (dC (.int 2)) dNil))))))) (dTwo oMod (dArg bInt (dCons (dTwo oIx (dVar 1) (dC (.int 0))) dNil)) (dC (.int 6)))) (.nm 2)) (gSeq (gSet (dTwo oIx (dTup (dCons (dC (.int 3)) (dCons (dC (.int 2)) (dCons (dC (.int 3)) (dCons (dC (.int 1)) dNil))))) (dTwo oMod (dArg bInt (dCons (dTwo oIx (dVar 1) (dC (.int 1))) dNil)) (dC (.int 4)))) (.nm 3)) (gSeq (gSet (dArg m_law_costs_k79 (dCons (dArg m_law_cell (dCons (dVar 0) (dCons (dC (.int 1)) dNil))) (dCons (dVar 3) (dCons (dTwo oAdd (dVar 2) (dTwo oMod (dArg bInt (dCons (dTwo oIx (dVar 1) (dC (.int 2))) dNil)) (dC (.int 2)))) (dCons (dTwo oEq (dTwo oMod (dArg bInt (dCons (dTwo oIx (dVar 1) (dC (.int 3))) dNil)) (dC (.int 8))) (dC (.int 1))) dNil))))) (.nm 4)) (gSeq (gOwn (dLst dNil) 5) (gSeq (gFor (dRng1 (dCons (dVar 2) dNil)) (.nm 6) b_law_single_game_1) (gFrz 5 (gRet (dArg bTuple (dCons (dVar 5) dNil))))))))))
def m_law_single_game : List PyData → R PyData := runD 9 1 g_law_single_game
def g_are_alike : Sn := (gRet (dAnyG false (dItems (dVar 0)) (.tp [(.nm 1), (.nm 2)]) dYes (dTwo oEq (dVar 2) (dTwo oIx (dTwo oIx (dVar 0) (dC (.int 0))) (dC (.int 1)))) [1, 2]))
def m_are_alike : List PyData → R PyData := runD 3 1 g_are_alike
def g_check_alike : Sn := (gIf (dNot (dAsB (dArg m_are_alike (dCons (dVar 0) dNil)))) gBad gSkip)
def m_check_alike : List PyData → R PyData := runD 1 1 g_check_alike
def g_with_lot : Sn := (gRet (dTwo oAdd (dTwo oAdd (dCut (dVar 0) dNoP (dPart (dVar 1))) (dTup (dCons (dVar 2) dNil))) (dCut (dVar 0) (dPart (dTwo oAdd (dVar 1) (dC (.int 1)))) dNoP)))
def m_with_lot : List PyData → R PyData := runD 3 3 g_with_lot
def b_settle_1 : Sn := (gSeq (gSet (dArg m_with_lot (dCons (dVar 2) (dCons (dTwo oIx (dVar 4) (dC (.int 0))) (dCons (dTwo oIx (dVar 4) (dC (.int 1))) dNil)))) (.nm 2)) (gSeq (gApp 3 (dVar 4)) (gSet (dArg m_first_gain (dCons (dVar 0) (dCons (dVar 2) dNil))) (.nm 4))))
def g_settle : Sn := (gSeq (gExpr (dArg m_check_alike (dCons (dVar 0) dNil))) (gSeq (gSet (dVar 1) (.nm 2)) (gSeq (gOwn (dLst dNil) 3) (gSeq (gSet (dArg m_first_gain (dCons (dVar 0) (dCons (dVar 2) dNil))) (.nm 4)) (gSeq (gWhile (dAsB (dOne (fun d => .ok (.bool (!isNone d))) (dVar 4))) b_settle_1 (fun _ => 1000000)) (gFrz 3 (gRet (dTup (dCons (dVar 2) (dCons (dArg bTuple (dCons (dVar 3) dNil)) dNil))))))))))
def m_settle : List PyData → R PyData := runD 5 2 g_settle
def g_movers : Sn := (gRet (dLc (dEnum (dCons (dVar 0) dNil)) (.tp [(.nm 2), (.nm 3)]) (dAsB (dTwo oNe (dVar 3) (dTwo oIx (dVar 1) (dVar 2)))) (dVar 2) [2, 3]))
def m_movers : List PyData → R PyData := runD 4 2 g_movers
def g_all_pay_less : Sn := (gRet (dArg bAll (dCons (dLc (dItems (dVar 1)) (.nm 4) dYes (dTwo oLt (dArg m_pay (dCons (dVar 0) (dCons (dVar 3) (dCons (dVar 4) dNil)))) (dArg m_pay (dCons (dVar 0) (dCons (dVar 2) (dCons (dVar 4) dNil))))) [4]) dNil)))
def m_all_pay_less : List PyData → R PyData := runD 5 4 g_all_pay_less
def g_is_step : Sn := (gSeq (gSet (dArg m_movers (dCons (dVar 1) (dCons (dVar 2) dNil))) (.nm 3)) (gRet (dAndV (dTwo oEq (dArg bLen (dCons (dVar 3) dNil)) (dC (.int 1))) (dArg m_all_pay_less (dCons (dVar 0) (dCons (dVar 3) (dCons (dVar 1) (dCons (dVar 2) dNil))))))))
def m_is_step : List PyData → R PyData := runD 4 3 g_is_step
def g_is_ring : Sn := (gSeq (gIf (dAsB (dTwo oLt (dArg bLen (dCons (dVar 1) dNil)) (dC (.int 3)))) (gRet (dC (.bool false))) gSkip) (gRet (dArg bAll (dCons (dLc (dRng1 (dCons (dArg bLen (dCons (dVar 1) dNil)) dNil)) (.nm 2) dYes (dArg m_is_step (dCons (dVar 0) (dCons (dTwo oIx (dVar 1) (dTwo oSub (dVar 2) (dC (.int 1)))) (dCons (dTwo oIx (dVar 1) (dVar 2)) dNil)))) [2]) dNil))))
def m_is_ring : List PyData → R PyData := runD 3 2 g_is_ring
def b_law_are_lots_1 : Sn := (gIf (dOr (dNot (dAsB (dArg m_law_is_set (dCons (dTwo oIx (dVar 0) (dVar 2)) (dCons (dTwo oIx (dTwo oIx (dTwo oIx (dVar 1) (dVar 2)) (dC (.int 0))) (dC (.int 0))) dNil))))) (dAsB (dTwo oNotIn (dTwo oIx (dVar 0) (dVar 2)) (dTwo oIx (dTwo oIx (dTwo oIx (dVar 1) (dVar 2)) (dC (.int 0))) (dC (.int 1)))))) (gRet (dC (.bool false))) gSkip)
def g_law_are_lots : Sn := (gSeq (gIf (dOr (dNot (dAsB (dOne (oIsi "tuple") (dVar 0)))) (dAsB (dTwo oNe (dArg bLen (dCons (dVar 0) dNil)) (dArg bLen (dCons (dVar 1) dNil))))) (gRet (dC (.bool false))) gSkip) (gSeq (gFor (dRng1 (dCons (dArg bLen (dCons (dVar 1) dNil)) dNil)) (.nm 2) b_law_are_lots_1) (gRet (dC (.bool true)))))
def m_law_are_lots : List PyData → R PyData := runD 3 2 g_law_are_lots
def b_law_is_content_1 : Sn := (gIf (dAsB (dTwo oLt (dArg m_law_pay (dCons (dVar 0) (dCons (dArg m_law_with (dCons (dVar 1) (dCons (dVar 2) (dCons (dVar 4) dNil)))) (dCons (dVar 2) dNil)))) (dVar 3))) (gRet (dC (.bool false))) gSkip)
def g_law_is_content : Sn := (gSeq (gSet (dArg m_law_pay (dCons (dVar 0) (dCons (dVar 1) (dCons (dVar 2) dNil)))) (.nm 3)) (gSeq (gFor (dItems (dTwo oIx (dTwo oIx (dTwo oIx (dVar 0) (dVar 2)) (dC (.int 0))) (dC (.int 1)))) (.nm 4) b_law_is_content_1) (gRet (dC (.bool true)))))
def m_law_is_content : List PyData → R PyData := runD 5 3 g_law_is_content
def g_law_is_calm : Sn := (gRet (dArg bAll (dCons (dLc (dRng1 (dCons (dArg bLen (dCons (dVar 0) dNil)) dNil)) (.nm 2) dYes (dArg m_law_is_content (dCons (dVar 0) (dCons (dVar 1) (dCons (dVar 2) dNil)))) [2]) dNil)))
def m_law_is_calm : List PyData → R PyData := runD 3 2 g_law_is_calm
def b_joint_gain_1 : Sn := (gSeq (gSet (dArg m_movers (dCons (dVar 1) (dCons (dVar 2) dNil))) (.nm 3)) (gIf (dAnd (dAsB (dTwo oGt (dArg bLen (dCons (dVar 3) dNil)) (dC (.int 0)))) (dAsB (dArg m_all_pay_less (dCons (dVar 0) (dCons (dVar 3) (dCons (dVar 1) (dCons (dVar 2) dNil))))))) (gRet (dTup (dCons (dArg bTuple (dCons (dVar 3) dNil)) (dCons (dArg bTuple (dCons (dLc (dItems (dVar 3)) (.nm 4) dYes (dTwo oIx (dVar 2) (dVar 4)) [4]) dNil)) dNil)))) gSkip))
def g_joint_gain : Sn := (gSeq (gFor (dItems (dArg m_choices (dCons (dVar 0) dNil))) (.nm 2) b_joint_gain_1) (gRet (dC .none)))
def m_joint_gain : List PyData → R PyData := runD 5 2 g_joint_gain
def b_law_all_choices_1 : Sn := (gSet (dTwo oAdd (dVar 3) (dLc (dItems (dTwo oIx (dTwo oIx (dVar 2) (dC (.int 0))) (dC (.int 1)))) (.nm 5) dYes (dTwo oAdd (dVar 4) (dTup (dCons (dVar 5) dNil))) [5])) (.nm 3))
def b_law_all_choices_2 : Sn := (gSeq (gSet (dLst dNil) (.nm 3)) (gSeq (gFor (dItems (dVar 1)) (.nm 4) b_law_all_choices_1) (gSet (dVar 3) (.nm 1))))
def g_law_all_choices : Sn := (gSeq (gSet (dLst (dCons (dTup dNil) dNil)) (.nm 1)) (gSeq (gFor (dItems (dVar 0)) (.nm 2) b_law_all_choices_2) (gRet (dVar 1))))
def m_law_all_choices : List PyData → R PyData := runD 6 1 g_law_all_choices
def b_law_closed_k87_1 : Sn := (gSeq (gSet (dTwo oMod (dArg bInt (dCons (dTwo oIx (dVar 3) (dTwo oAdd (dC (.int 1)) (dTwo oMul (dC (.int 2)) (dVar 5)))) dNil)) (dArg bLen (dCons (dVar 1) dNil))) (.nm 6)) (gSeq (gSet (dTwo oIx (dTwo oIx (dTwo oIx (dVar 1) (dVar 6)) (dC (.int 0))) (dC (.int 1))) (.nm 7)) (gSeq (gSet (dArg m_law_with (dCons (dVar 2) (dCons (dVar 6) (dCons (dTwo oIx (dVar 7) (dTwo oMod (dArg bInt (dCons (dTwo oIx (dVar 3) (dTwo oAdd (dC (.int 2)) (dTwo oMul (dC (.int 2)) (dVar 5)))) dNil)) (dArg bLen (dCons (dVar 7) dNil)))) dNil)))) (.nm 8)) (gIf (dAsB (dTwo oNe (dVar 8) (dVar 2))) (gSeq (gApp 4 (dVar 8)) (gSet (dVar 8) (.nm 2))) gSkip))))
def b_law_closed_k87_2 : Sn := (gIf (dAsB (dTwo oNe (dTwo oIx (dVar 2) (dVar 6)) (dTwo oIx (dOwnIx 4 (dC (.int 0))) (dVar 6)))) (gSeq (gSet (dArg m_law_with (dCons (dVar 2) (dCons (dVar 6) (dCons (dTwo oIx (dOwnIx 4 (dC (.int 0))) (dVar 6)) dNil)))) (.nm 2)) (gApp 4 (dVar 2))) gSkip)
def g_law_closed_k87 : Sn := (gSeq (gSet (dArg m_law_draws (dCons (dVar 0) (dCons (dC (.int 11)) dNil))) (.nm 3)) (gSeq (gOwn (dLst (dCons (dVar 2) dNil)) 4) (gSeq (gFor (dRng1 (dCons (dTwo oAdd (dC (.int 2)) (dTwo oMod (dArg bInt (dCons (dTwo oIx (dVar 3) (dC (.int 0))) dNil)) (dC (.int 4)))) dNil)) (.nm 5) b_law_closed_k87_1) (gSeq (gFor (dRng1 (dCons (dArg bLen (dCons (dVar 1) dNil)) dNil)) (.nm 6) b_law_closed_k87_2) (gSeq (gIf (dThawB (dAsB (dTwo oGt (dArg bLen (dCons (dVar 4) dNil)) (dC (.int 1))))) (gPop 4) gSkip) (gFrz 4 (gRet (dArg bTuple (dCons (dVar 4) dNil)))))))))
def m_law_closed_k87 : List PyData → R PyData := runD 9 3 g_law_closed_k87
def g_law_k87 : Sn := (gSeq (gSet (dArg m_law_single_game (dCons (dVar 0) dNil)) (.nm 1)) (gSeq (gSet (dArg m_law_choice (dCons (dArg m_law_cell (dCons (dVar 0) (dCons (dC (.int 2)) dNil))) (dCons (dVar 1) dNil))) (.nm 2)) (gSeq (gSet (dArg m_settle (dCons (dVar 1) (dCons (dVar 2) dNil))) (.nm 3)) (gSeq (gIf (dOr (dNot (dAsB (dOne (oIsi "tuple") (dVar 3)))) (dOr (dAsB (dTwo oNe (dArg bLen (dCons (dVar 3) dNil)) (dC (.int 2)))) (dNot (dAsB (dArg m_law_are_lots (dCons (dTwo oIx (dVar 3) (dC (.int 0))) (dCons (dVar 1) dNil))))))) (gRet (dC (.bool false))) gSkip) (gSeq (gIf (dOr (dNot (dAsB (dArg m_law_is_calm (dCons (dVar 1) (dCons (dTwo oIx (dVar 3) (dC (.int 0))) dNil))))) (dAsB (dOne (fun d => .ok (.bool (!isNone d))) (dArg m_joint_gain (dCons (dVar 1) (dCons (dTwo oIx (dVar 3) (dC (.int 0))) dNil)))))) (gRet (dC (.bool false))) gSkip) (gSeq (gSet (dLc (dItems (dArg m_law_all_choices (dCons (dVar 1) dNil))) (.nm 6) (dAsB (dArg m_law_is_calm (dCons (dVar 1) (dCons (dVar 6) dNil)))) (dVar 6) [6]) (.nm 4)) (gSeq (gSet (dArg m_law_draws (dCons (dArg m_law_cell (dCons (dVar 0) (dCons (dC (.int 3)) dNil))) (dCons (dC (.int 1)) dNil))) (.nm 5)) (gSeq (gIf (dOr (dAsB (dTwo oNotIn (dTwo oIx (dVar 3) (dC (.int 0))) (dVar 4))) (dAsB (dOne (fun d => .ok (.bool (!isNone d))) (dArg m_joint_gain (dCons (dVar 1) (dCons (dTwo oIx (dVar 4) (dTwo oMod (dArg bInt (dCons (dTwo oIx (dVar 5) (dC (.int 0))) dNil)) (dArg bLen (dCons (dVar 4) dNil)))) dNil)))))) (gRet (dC (.bool false))) gSkip) (gRet (dTwo oIs (dArg m_is_ring (dCons (dVar 1) (dCons (dArg m_law_closed_k87 (dCons (dArg m_law_cell (dCons (dVar 0) (dCons (dC (.int 4)) dNil))) (dCons (dVar 1) (dCons (dVar 2) dNil)))) dNil))) (dC (.bool false))))))))))))
def m_law_k87 : List PyData → R PyData := runD 7 1 g_law_k87
end LW

set_option Elab.async false
set_option linter.all false
set_option maxRecDepth 100000
set_option maxHeartbeats 4000000
namespace LW
open PySem PySem.Spec PyProof.Rows L2 PD
def b_law_rates_1 : Sn := (gSeq (gSet (dTwo oMod (dArg bInt (dCons (dTwo oIx (dVar 3) (dTwo oMul (dC (.int 2)) (dVar 5))) dNil)) (dC (.int 5))) (.nm 6)) (gSeq (gIf (dAsB (dVar 2)) (gSet (dTwo oMul (dVar 6) (dTwo oPow (dC (.int 10)) (dC (.int 25)))) (.nm 6)) gSkip) (gApp 4 (dTup (dCons (dVar 6) (dCons (dTwo oMod (dArg bInt (dCons (dTwo oIx (dVar 3) (dTwo oAdd (dTwo oMul (dC (.int 2)) (dVar 5)) (dC (.int 1)))) dNil)) (dC (.int 4))) dNil))))))
def g_law_rates : Sn := (gSeq (gSet (dArg m_law_draws (dCons (dVar 0) (dCons (dTwo oAdd (dTwo oMul (dC (.int 2)) (dVar 1)) (dC (.int 1))) dNil))) (.nm 3)) (gSeq (gOwn (dLst dNil) 4) (gSeq (gFor (dRng1 (dCons (dVar 1) dNil)) (.nm 5) b_law_rates_1) (gFrz 4 (gRet (dArg bTuple (dCons (dVar 4) dNil)))))))
def m_law_rates : List PyData → R PyData := runD 7 3 g_law_rates
def g_straight_costs : Sn := (gRet (dArg bTuple (dCons (dLc (dItems (dVar 0)) (.tp [(.nm 2), (.nm 3)]) dYes (dArg bTuple (dCons (dLc (dRng2 (dCons (dC (.int 1)) (dCons (dTwo oAdd (dVar 1) (dC (.int 1))) dNil))) (.nm 4) dYes (dTwo oAdd (dTwo oMul (dVar 2) (dVar 4)) (dVar 3)) [4]) dNil)) [2, 3]) dNil)))
def m_straight_costs : List PyData → R PyData := runD 5 2 g_straight_costs
def b_law_is_choice_1 : Sn := (gIf (dOr (dNot (dAsB (dArg m_law_is_set (dCons (dTwo oIx (dVar 0) (dVar 2)) (dCons (dTwo oIx (dTwo oIx (dTwo oIx (dVar 1) (dVar 2)) (dC (.int 0))) (dC (.int 0))) dNil))))) (dAsB (dTwo oNotIn (dTwo oIx (dVar 0) (dVar 2)) (dTwo oIx (dTwo oIx (dTwo oIx (dVar 1) (dVar 2)) (dC (.int 0))) (dC (.int 1)))))) (gRet (dC (.bool false))) gSkip)
def g_law_is_choice : Sn := (gSeq (gIf (dOr (dNot (dAsB (dOne (oIsi "tuple") (dVar 0)))) (dAsB (dTwo oNe (dArg bLen (dCons (dVar 0) dNil)) (dArg bLen (dCons (dVar 1) dNil))))) (gRet (dC (.bool false))) gSkip) (gSeq (gFor (dRng1 (dCons (dArg bLen (dCons (dVar 1) dNil)) dNil)) (.nm 2) b_law_is_choice_1) (gRet (dC (.bool true)))))
def m_law_is_choice : List PyData → R PyData := runD 3 2 g_law_is_choice
def b_law_bounded_1 : Sn := (gIf (dAsB (dTwo oGt (dTwo oMul (dC (.int 2)) (dVar 5)) (dTwo oMul (dC (.int 5)) (dArg m_total (dCons (dVar 0) (dCons (dVar 6) dNil)))))) (gRet (dC (.bool false))) gSkip)
def g_law_bounded : Sn := (gSeq (gSet (dArg m_least_total (dCons (dVar 0) dNil)) (.nm 3)) (gSeq (gSet (dTwo oIx (dArg m_settle (dCons (dVar 0) (dCons (dVar 1) dNil))) (dC (.int 0))) (.nm 4)) (gSeq (gIf (dOr (dNot (dAsB (dArg m_law_is_integer (dCons (dVar 3) dNil)))) (dOr (dNot (dAsB (dArg m_law_is_choice (dCons (dVar 4) (dCons (dVar 0) dNil))))) (dAsB (dOne (fun d => .ok (.bool (!isNone d))) (dArg m_law_first_gain (dCons (dVar 0) (dCons (dVar 4) dNil))))))) (gRet (dC (.bool false))) gSkip) (gSeq (gSet (dArg m_total (dCons (dVar 0) (dCons (dVar 4) dNil))) (.nm 5)) (gSeq (gIf (dOr (dNot (dAsB (dArg m_law_is_integer (dCons (dVar 5) dNil)))) (dAsB (dTwo oNe (dVar 5) (dArg bSum (dCons (dLc (dRng1 (dCons (dArg bLen (dCons (dVar 0) dNil)) dNil)) (.nm 7) dYes (dArg m_law_pay (dCons (dVar 0) (dCons (dVar 4) (dCons (dVar 7) dNil)))) [7]) dNil))))) (gRet (dC (.bool false))) gSkip) (gSeq (gIf (dAsB (dTwo oGt (dTwo oMul (dC (.int 2)) (dVar 5)) (dTwo oMul (dC (.int 5)) (dVar 3)))) (gRet (dC (.bool false))) gSkip) (gSeq (gFor (dItems (dLst (dCons (dVar 1) (dCons (dVar 2) dNil)))) (.nm 6) b_law_bounded_1) (gRet (dC (.bool true))))))))))
def m_law_bounded : List PyData → R PyData := runD 8 3 g_law_bounded
def g_law_dear : Sn := (gSeq (gSet (dArg bTuple (dCons (dLc (dRng1 (dCons (dC (.int 6)) dNil)) (.nm 2) dYes (dTup (dCons (dC (.int 1)) (dCons (dC (.int 2)) (dCons (dC (.int 3)) dNil)))) [2]) dNil)) (.nm 0)) (gSeq (gSet (dLst (dCons (dTup (dCons (dC (.int 6)) (dCons (dTup (dCons (dTup (dCons (dC (.int 0)) (dCons (dC (.int 3)) dNil))) (dCons (dTup (dCons (dC (.int 1)) (dCons (dC (.int 2)) (dCons (dC (.int 4)) dNil)))) dNil))) dNil))) (dCons (dTup (dCons (dC (.int 6)) (dCons (dTup (dCons (dTup (dCons (dC (.int 0)) (dCons (dC (.int 2)) (dCons (dC (.int 5)) dNil)))) (dCons (dTup (dCons (dC (.int 1)) (dCons (dC (.int 4)) dNil))) dNil))) dNil))) (dCons (dTup (dCons (dC (.int 6)) (dCons (dTup (dCons (dTup (dCons (dC (.int 0)) (dCons (dC (.int 1)) (dCons (dC (.int 3)) dNil)))) (dCons (dTup (dCons (dC (.int 2)) (dCons (dC (.int 5)) dNil))) dNil))) dNil))) dNil)))) (.nm 1)) (gRet (dArg bTuple (dCons (dLc (dItems (dVar 1)) (.nm 3) dYes (dTup (dCons (dVar 3) (dCons (dVar 0) dNil))) [3]) dNil)))))
def m_law_dear : List PyData → R PyData := runD 4 0 g_law_dear
def b_law_is_table_k48_1 : Sn := (gIf (dOr (dNot (dAsB (dOne (oIsi "tuple") (dVar 2)))) (dNot (dAsB (dArg bAll (dCons (dLc (dItems (dVar 2)) (.nm 3) dYes (dArg m_law_is_integer (dCons (dVar 3) dNil)) [3]) dNil))))) (gRet (dC (.bool false))) gSkip)
def g_law_is_table_k48 : Sn := (gSeq (gIf (dOr (dNot (dAsB (dOne (oIsi "tuple") (dVar 0)))) (dAsB (dTwo oNe (dVar 0) (dVar 1)))) (gRet (dC (.bool false))) gSkip) (gSeq (gFor (dItems (dVar 0)) (.nm 2) b_law_is_table_k48_1) (gRet (dC (.bool true)))))
def m_law_is_table_k48 : List PyData → R PyData := runD 4 2 g_law_is_table_k48
def b_law_is_dear_1 : Sn := (gSeq (gIf (dOr (dNot (dAsB (dOne (oIsi "tuple") (dVar 1)))) (dOr (dNot (dAsB (dArg m_law_is_table_k48 (dCons (dTwo oIx (dVar 1) (dC (.int 1))) (dCons (dTwo oIx (dVar 1) (dC (.int 1))) dNil))))) (dNot (dAsB (dArg m_law_is_integer (dCons (dTwo oIx (dTwo oIx (dVar 1) (dC (.int 0))) (dC (.int 0))) dNil)))))) (gRet (dC (.bool false))) gSkip) (gIf (dNot (dAsB (dArg bAll (dCons (dLc (dItems (dTwo oIx (dTwo oIx (dVar 1) (dC (.int 0))) (dC (.int 1)))) (.nm 3) dYes (dArg m_law_is_set (dCons (dVar 3) (dCons (dC (.int 6)) dNil))) [3]) dNil)))) (gRet (dC (.bool false))) gSkip))
def g_law_is_dear : Sn := (gSeq (gIf (dOr (dNot (dAsB (dOne (oIsi "tuple") (dVar 0)))) (dAsB (dTwo oNe (dVar 0) (dArg m_law_dear dNil)))) (gRet (dC (.bool false))) gSkip) (gSeq (gFor (dItems (dVar 0)) (.nm 1) b_law_is_dear_1) (gSeq (gSet (dTup (dCons (dTup (dCons (dC (.int 1)) (dCons (dC (.int 2)) (dCons (dC (.int 4)) dNil)))) (dCons (dTup (dCons (dC (.int 0)) (dCons (dC (.int 2)) (dCons (dC (.int 5)) dNil)))) (dCons (dTup (dCons (dC (.int 0)) (dCons (dC (.int 1)) (dCons (dC (.int 3)) dNil)))) dNil)))) (.nm 2)) (gSeq (gIf (dOr (dAsB (dOne (fun d => .ok (.bool (!isNone d))) (dArg m_law_first_gain (dCons (dArg m_law_dear dNil) (dCons (dVar 2) dNil))))) (dOr (dAsB (dTwo oNe (dArg m_total (dCons (dVar 0) (dCons (dVar 2) dNil))) (dC (.int 15)))) (dAsB (dTwo oNe (dArg m_least_total (dCons (dVar 0) dNil)) (dC (.int 6)))))) (gRet (dC (.bool false))) gSkip) (gRet (dTwo oEq (dArg m_settle (dCons (dVar 0) (dCons (dVar 2) dNil))) (dTup (dCons (dVar 2) (dCons (dTup dNil) dNil)))))))))
def m_law_is_dear : List PyData → R PyData := runD 4 1 g_law_is_dear
def b_make_game_k48_1 : Sn := (gSeq (gSet (dTwo oIx (dVar 2) (dC (.int 0))) (.nm 4)) (gSeq (gIf (dOr (dAsB (dTwo oNe (dVar 4) (dTwo oIx (dTwo oIx (dTwo oIx (dVar 0) (dC (.int 0))) (dC (.int 0))) (dC (.int 0))))) (dAsB (dTwo oNe (dVar 4) (dArg bLen (dCons (dVar 3) dNil))))) gBad gSkip) (gIf (dAnd (dAsB (dTwo oGt (dVar 4) (dC (.int 0)))) (dAsB (dTwo oLt (dArg bLen (dCons (dTwo oIx (dVar 3) (dC (.int 0))) dNil)) (dArg bLen (dCons (dVar 0) dNil))))) gBad gSkip)))
def g_make_game_k48 : Sn := (gSeq (gFor (dEnum (dCons (dVar 0) dNil)) (.tp [(.nm 1), (.tp [(.nm 2), (.nm 3)])]) b_make_game_k48_1) (gRet (dArg bTuple (dCons (dVar 0) dNil))))
def m_make_game_k48 : List PyData → R PyData := runD 5 1 g_make_game_k48
def b_check_things_1 : Sn := (gIf (dAsB (dAnyG true (dItems (dVar 3)) (.nm 4) dYes (dOrV (dTwo oLt (dVar 4) (dC (.int 0))) (dTwo oGe (dVar 4) (dVar 0))) [4])) gBad gSkip)
def g_check_things : Sn := (gFor (dEnum (dCons (dVar 1) dNil)) (.tp [(.nm 2), (.nm 3)]) b_check_things_1)
def m_check_things : List PyData → R PyData := runD 5 2 g_check_things
def b_check_nesting_1 : Sn := (gIf (dAnd (dAsB (dTwo oLt (dArg bLen (dCons (dVar 1) dNil)) (dArg bLen (dCons (dVar 2) dNil)))) (dAsB (dArg m_lies_within (dCons (dVar 1) (dCons (dVar 2) dNil))))) gBad gSkip)
def b_check_nesting_2 : Sn := (gFor (dItems (dVar 0)) (.nm 2) b_check_nesting_1)
def g_check_nesting : Sn := (gFor (dItems (dVar 0)) (.nm 1) b_check_nesting_2)
def m_check_nesting : List PyData → R PyData := runD 3 1 g_check_nesting
def g_make_offer : Sn := (gSeq (gIf (dAsB (dTwo oEq (dArg bLen (dCons (dVar 1) dNil)) (dC (.int 0)))) gBad gSkip) (gSeq (gExpr (dArg m_check_things (dCons (dVar 0) (dCons (dVar 1) dNil)))) (gSeq (gSet (dSortSc (dItems (dVar 1)) (.nm 3) dYes (dArg bTuple (dCons (dOne bSortSet (dVar 3)) dNil)) [3]) (.nm 2)) (gSeq (gExpr (dArg m_check_nesting (dCons (dVar 2) dNil))) (gRet (dTup (dCons (dVar 0) (dCons (dArg bTuple (dCons (dVar 2) dNil)) dNil))))))))
def m_make_offer : List PyData → R PyData := runD 4 2 g_make_offer
def g_dear_offer : Sn := (gSeq (gSet (dTwo oMod (dTwo oAdd (dVar 0) (dC (.int 1))) (dC (.int 3))) (.nm 1)) (gRet (dArg m_make_offer (dCons (dC (.int 6)) (dCons (dLst (dCons (dTup (dCons (dVar 0) (dCons (dTwo oAdd (dC (.int 3)) (dVar 0)) dNil))) (dCons (dTup (dCons (dVar 1) (dCons (dTwo oMod (dTwo oAdd (dVar 0) (dC (.int 2))) (dC (.int 3))) (dCons (dTwo oAdd (dC (.int 3)) (dVar 1)) dNil)))) dNil))) dNil)))))
def m_dear_offer : List PyData → R PyData := runD 2 1 g_dear_offer
def g_dear_game : Sn := (gSeq (gSet (dArg m_straight_costs (dCons (dArg bTuple (dCons (dLc (dRng1 (dCons (dC (.int 6)) dNil)) (.nm 1) dYes (dTup (dCons (dC (.int 1)) (dCons (dC (.int 0)) dNil))) [1]) dNil)) (dCons (dC (.int 3)) dNil))) (.nm 0)) (gRet (dArg m_make_game_k48 (dCons (dLc (dRng1 (dCons (dC (.int 3)) dNil)) (.nm 2) dYes (dTup (dCons (dArg m_dear_offer (dCons (dVar 2) dNil)) (dCons (dVar 0) dNil))) [2]) dNil))))
def m_dear_game : List PyData → R PyData := runD 3 0 g_dear_game
def g_law_table : Sn := (gRet (dArg bTuple (dCons (dLc (dItems (dVar 0)) (.nm 2) dYes (dArg bTuple (dCons (dLc (dRng1 (dCons (dVar 1) dNil)) (.nm 3) dYes (dTwo oAdd (dTwo oMul (dTwo oIx (dVar 2) (dC (.int 0))) (dTwo oAdd (dVar 3) (dC (.int 1)))) (dTwo oIx (dVar 2) (dC (.int 1)))) [3]) dNil)) [2]) dNil)))
def m_law_table : List PyData → R PyData := runD 4 2 g_law_table
def b_law_k48_1 : Sn := (gIf (dAsB (dVar 2)) (gApp 8 (dTup (dCons (dTup (dCons (dVar 4) (dCons (dCut (dArg m_law_drawn_lots (dCons (dArg m_law_cell (dCons (dVar 0) (dCons (dTwo oAdd (dC (.int 2)) (dVar 9)) dNil))) (dCons (dVar 4) dNil))) dNoP (dPart (dC (.int 2)))) dNil))) (dCons (dVar 7) dNil)))) (gApp 8 (dTup (dCons (dTup (dCons (dVar 4) (dCons (dArg m_law_lots (dCons (dArg m_law_cell (dCons (dVar 0) (dCons (dTwo oAdd (dC (.int 2)) (dVar 9)) dNil))) (dCons (dVar 4) dNil))) dNil))) (dCons (dVar 7) dNil)))))
def g_law_k48 : Sn := (gSeq (gSet (dArg m_law_draws (dCons (dArg m_law_cell (dCons (dVar 0) (dCons (dC (.int 0)) dNil))) (dCons (dC (.int 5)) dNil))) (.nm 1)) (gSeq (gSet (dTwo oEq (dTwo oMod (dArg bInt (dCons (dTwo oIx (dVar 1) (dC (.int 4))) dNil)) (dC (.int 8))) (dC (.int 1))) (.nm 2)) (gSeq (gSet (dTwo oIx (dTup (dCons (dC (.int 3)) (dCons (dC (.int 2)) (dCons (dC (.int 3)) (dCons (dC (.int 1)) (dCons (dC (.int 2)) (dCons (dC (.int 3)) (dCons (dC (.int 0)) (dCons (dC (.int 3)) dNil))))))))) (dTwo oMod (dArg bInt (dCons (dTwo oIx (dVar 1) (dC (.int 0))) dNil)) (dC (.int 8)))) (.nm 3)) (gSeq (gSet (dTwo oIx (dTup (dCons (dC (.int 4)) (dCons (dC (.int 3)) (dCons (dC (.int 4)) (dCons (dC (.int 2)) (dCons (dC (.int 3)) (dCons (dC (.int 4)) (dCons (dC (.int 1)) (dCons (dC (.int 0)) dNil))))))))) (dTwo oMod (dArg bInt (dCons (dTwo oIx (dVar 1) (dC (.int 1))) dNil)) (dC (.int 8)))) (.nm 4)) (gSeq (gIf (dAsB (dVar 2)) (gSeq (gSet (dTwo oAdd (dC (.int 4)) (dTwo oMod (dArg bInt (dCons (dTwo oIx (dVar 1) (dC (.int 0))) dNil)) (dC (.int 3)))) (.nm 3)) (gSet (dTwo oAdd (dC (.int 6)) (dTwo oMod (dArg bInt (dCons (dTwo oIx (dVar 1) (dC (.int 1))) dNil)) (dC (.int 7)))) (.nm 4))) gSkip) (gSeq (gSet (dArg m_law_rates (dCons (dArg m_law_cell (dCons (dVar 0) (dCons (dC (.int 1)) dNil))) (dCons (dVar 4) (dCons (dTwo oEq (dTwo oMod (dArg bInt (dCons (dTwo oIx (dVar 1) (dC (.int 2))) dNil)) (dC (.int 8))) (dC (.int 5))) dNil)))) (.nm 5)) (gSeq (gSet (dTwo oAdd (dVar 3) (dTwo oMod (dArg bInt (dCons (dTwo oIx (dVar 1) (dC (.int 3))) dNil)) (dC (.int 2)))) (.nm 6)) (gSeq (gSet (dArg m_straight_costs (dCons (dVar 5) (dCons (dVar 6) dNil))) (.nm 7)) (gSeq (gIf (dOr (dNot (dAsB (dArg m_law_is_table_k48 (dCons (dVar 7) (dCons (dArg m_law_table (dCons (dVar 5) (dCons (dVar 6) dNil))) dNil))))) (dNot (dAsB (dArg m_law_is_dear (dCons (dArg m_dear_game dNil) dNil))))) (gRet (dC (.bool false))) gSkip) (gSeq (gOwn (dLst dNil) 8) (gSeq (gFor (dRng1 (dCons (dVar 3) dNil)) (.nm 9) b_law_k48_1) (gFrz 8 (gSeq (gSet (dArg bTuple (dCons (dVar 8) dNil)) (.nm 10)) (gSeq (gSet (dArg m_law_choice (dCons (dArg m_law_cell (dCons (dVar 0) (dCons (dC (.int 8)) dNil))) (dCons (dVar 10) dNil))) (.nm 11)) (gSeq (gSet (dArg m_law_choice (dCons (dArg m_law_cell (dCons (dVar 0) (dCons (dC (.int 9)) dNil))) (dCons (dVar 10) dNil))) (.nm 12)) (gRet (dAndV (dArg m_law_bounded (dCons (dVar 10) (dCons (dVar 11) (dCons (dVar 12) dNil)))) (dAndV (dArg m_law_bounded (dCons (dVar 10) (dCons (dVar 12) (dCons (dVar 11) dNil)))) (dArg m_law_is_dear (dCons (dArg m_dear_game dNil) dNil))))))))))))))))))))
def m_law_k48 : List PyData → R PyData := runD 13 1 g_law_k48
end LW

set_option Elab.async false
set_option linter.all false
set_option maxRecDepth 100000
set_option maxHeartbeats 4000000
namespace LW
open PySem PySem.Spec PyProof.Rows L2 PD
def g_law_row : Sn := (gSeq (gSet (dArg m_law_draws (dCons (dVar 0) (dCons (dC (.int 9)) dNil))) (.nm 2)) (gRet (dLc (dRng1 (dCons (dTwo oMod (dArg bInt (dCons (dTwo oIx (dVar 2) (dC (.int 0))) dNil)) (dC (.int 9))) dNil)) (.nm 3) (dAsB (dTwo oGt (dVar 1) (dC (.int 0)))) (dTwo oMod (dArg bInt (dCons (dTwo oIx (dVar 2) (dTwo oAdd (dC (.int 1)) (dVar 3))) dNil)) (dVar 1)) [3])))
def m_law_row : List PyData → R PyData := runD 4 2 g_law_row
def g_law_set_of : Sn := (gRet (dArg bTuple (dCons (dLc (dRng1 (dCons (dC (.int 6)) dNil)) (.nm 1) (dAsB (dTwo oIn (dVar 1) (dVar 0))) (dVar 1) [1]) dNil)))
def m_law_set_of : List PyData → R PyData := runD 2 1 g_law_set_of
def g_law_k01 : Sn := (gSeq (gSet (dArg m_law_draws (dCons (dArg m_law_cell (dCons (dVar 0) (dCons (dC (.int 0)) dNil))) (dCons (dC (.int 4)) dNil))) (.nm 1)) (gSeq (gSet (dTwo oMod (dArg bInt (dCons (dTwo oIx (dVar 1) (dC (.int 0))) dNil)) (dC (.int 7))) (.nm 2)) (gSeq (gSet (dLc (dRng1 (dCons (dTwo oAdd (dC (.int 1)) (dTwo oMod (dArg bInt (dCons (dTwo oIx (dVar 1) (dC (.int 1))) dNil)) (dC (.int 6)))) dNil)) (.nm 9) dYes (dArg m_law_row (dCons (dArg m_law_cell (dCons (dVar 0) (dCons (dTwo oAdd (dC (.int 1)) (dVar 9)) dNil))) (dCons (dVar 2) dNil))) [9]) (.nm 3)) (gSeq (gSet (dArg m_law_antichain (dCons (dLc (dItems (dVar 3)) (.nm 10) dYes (dArg m_law_set_of (dCons (dVar 10) dNil)) [10]) dNil)) (.nm 4)) (gSeq (gOwn (dLc (dItems (dVar 3)) (.nm 10) (dAsB (dTwo oIn (dArg m_law_set_of (dCons (dVar 10) dNil)) (dVar 4))) (dVar 10) [10]) 5) (gSeq (gOwn (dArg bList (dCons (dOwnIx 5 (dThaw (dTwo oMod (dArg bInt (dCons (dTwo oIx (dVar 1) (dC (.int 2))) dNil)) (dArg bLen (dCons (dVar 5) dNil))))) dNil)) 6) (gSeq (gRev 6) (gFrz 6 (gSeq (gApp 5 (dVar 6)) (gFrz 5 (gSeq (gSet (dLc (dItems (dVar 5)) (.nm 10) dYes (dArg bList (dCons (dVar 10) dNil)) [10]) (.nm 7)) (gSeq (gIf (dAsB (dTwo oEq (dTwo oMod (dArg bInt (dCons (dTwo oIx (dVar 1) (dC (.int 3))) dNil)) (dC (.int 2))) (dC (.int 0)))) (gSet (dArg m_make_offer (dCons (dVar 2) (dCons (dVar 7) dNil))) (.nm 8)) (gSet (dArg m_make_offer (dCons (dVar 2) (dCons (dArg bTuple (dCons (dLc (dItems (dVar 5)) (.nm 10) dYes (dArg bTuple (dCons (dVar 10) dNil)) [10]) dNil)) dNil))) (.nm 8))) (gRet (dAndV (dArg m_law_is_offer (dCons (dVar 8) (dCons (dVar 2) (dCons (dVar 4) dNil)))) (dTwo oEq (dVar 7) (dVar 5))))))))))))))))
def m_law_k01 : List PyData → R PyData := runD 11 1 g_law_k01
end LW

set_option Elab.async false
set_option linter.all false
set_option maxRecDepth 100000
set_option maxHeartbeats 4000000
namespace LW
open PySem PySem.Spec PyProof.Rows L2 PD
section
variable {P : Program} {w : World} {K : PySem.W.Frag} {mg : Str → Option Value} {base : Heap} {Tb : List Addr}
def topS (i : Nat) : Stmt := PySem.Challenge.pw_takersrest_k01_make_offer.main.body.getD i (.Pass ⟨0, 0, 0, 0⟩)
abbrev s_law_draws : Stmt := topS 13
theorem sc_law_draws : FnScope ["cell", "count", "rest", "digits", "seed", "draws", "k", "mixed"] ["cell", "count"] (defScope s_law_draws) := ⟨rfl, rfl, rfl, by decide +kernel, rfl, by decide +kernel, by decide +kernel⟩
theorem ok_law_draws {a : Addr} {fd : FuncData} (F : Fun K "_law_draws" "_law_draws" s_law_draws a fd) (hg : mg "_law_draws" = some (.ref a)) (hb : Binds K fd ["cell", "count"] []) (B : Bi mg) : FnD P w K mg base Tb "_law_draws" 1 m_law_draws := ⟨a, fd, ["cell", "count"], fn_okD F sc_law_draws fun cdv A outer s H E hr => 
  (fs_cons (fs_set (i := 2) sc_law_draws.nd rfl (.inl rfl) (e_abs B (fa_cons (e_int B (fa_cons (fd_var 0) fa_nil)) fa_nil))) (fs_cons (fs_set (i := 3) sc_law_draws.nd rfl (.inl rfl) (e_ge (fd_var 2) (fd_pow fd_int fd_int))) (fs_cons (fs_set (i := 4) sc_law_draws.nd rfl (.inl rfl) (fd_var 2)) (fs_cons (fs_own (i := 5) sc_law_draws.nd rfl (.inl rfl) (fn_lst fa_nil)) (fs_cons (fs_for (passes_of rfl) rfl (fi_rng1 (by rfl) B.range (fa_cons (fd_var 1) fa_nil)) (fg_nm (i := 6) sc_law_draws.nd rfl (.inl rfl)) (fs_one (fs_if (PW.pt (fw_and (ft_val (fd_var 3)) (fw_and1 (t_gt (fd_var 2) fd_int)))) (fs_cons (fs_app (i := 5) rfl (.inl rfl) (by decide) (by decide) (fd_mod (e_int B (fa_cons (fd_var 2) fa_nil)) fd_int) rfl rfl rfl rfl rfl rfl) (fs_one (fs_set (i := 2) sc_law_draws.nd rfl (.inl rfl) (fd_div (fd_var 2) fd_int)))) (fs_cons (fs_set (i := 7) sc_law_draws.nd rfl (.inl rfl) (fd_mod (e_int B (fa_cons (fd_add (fd_add (fd_mul (fd_var 4) fd_int) (fd_mul (fd_add (fd_var 6) fd_int) fd_int)) fd_int) fa_nil)) fd_int)) (fs_cons (fs_set (i := 7) sc_law_draws.nd rfl (.inl rfl) (fd_mod (e_int B (fa_cons (fd_add (fd_mul (fd_var 7) (fd_var 7)) (fd_mul fd_int (fd_add (fd_var 6) fd_int))) fa_nil)) fd_int)) (fs_one (fs_app (i := 5) rfl (.inl rfl) (by decide) (by decide) (fd_mod (e_int B (fa_cons (fd_div (fd_var 7) fd_int) fa_nil)) fd_int) rfl rfl rfl rfl rfl rfl))))))) (fs_frz 5 (fs_one (fs_ret (fd_var 5))))))))), hg, F.kp, hb⟩
abbrev s_law_within : Stmt := topS 17
theorem sc_law_within : FnScope ["inner", "outer", "thing"] ["inner", "outer"] (defScope s_law_within) := ⟨rfl, rfl, rfl, by decide +kernel, rfl, by decide +kernel, by decide +kernel⟩
theorem ok_law_within {a : Addr} {fd : FuncData} (F : Fun K "_law_within" "_law_within" s_law_within a fd) (hg : mg "_law_within" = some (.ref a)) (hb : Binds K fd ["inner", "outer"] []) (B : Bi mg) : FnD P w K mg base Tb "_law_within" 1 m_law_within := ⟨a, fd, ["inner", "outer"], fn_okD F sc_law_within fun cdv A outer s H E hr => 
  (fs_one (fs_ret (e_all B (fa_cons (fd_lc rfl sc_law_within.nd (fi_seq (fd_var 0)) (own := [("thing", 2)]) (blkOk_by (by rfl)) (fun _ _ _ _ _ => (fg_nm (i := 2) sc_law_within.nd rfl (.inl rfl))) (fun _ _ _ _ _ => ft_yes) (fun _ _ _ _ _ => (e_in hr (fd_var 2) (fd_var 1)))) fa_nil)))), hg, F.kp, hb⟩
abbrev s_law_antichain : Stmt := topS 18
theorem sc_law_antichain : FnScope ["rows", "kept", "row", "other"] ["rows"] (defScope s_law_antichain) := ⟨rfl, rfl, rfl, by decide +kernel, rfl, by decide +kernel, by decide +kernel⟩
theorem ok_law_antichain {a : Addr} {fd : FuncData} (F : Fun K "_law_antichain" "_law_antichain" s_law_antichain a fd) (D_law_within : FnD P w K mg base Tb "_law_within" 1 m_law_within) (hg : mg "_law_antichain" = some (.ref a)) (hb : Binds K fd ["rows"] []) (B : Bi mg) : FnD P w K mg base Tb "_law_antichain" 2 m_law_antichain := ⟨a, fd, ["rows"], fn_okD F sc_law_antichain fun cdv A outer s H E hr => 
  (fs_cons (fs_own (i := 1) sc_law_antichain.nd rfl (.inl rfl) (fn_lst fa_nil)) (fs_cons (fs_for (passes_of rfl) rfl (fi_seq (e_sorted B hr (fa_cons (fd_var 0) fa_nil))) (fg_nm (i := 2) sc_law_antichain.nd rfl (.inr rfl)) (fs_one (fs_if (ft_thaw (PW.pt (fw_and (t_notin hr (fd_var 2) (fd_var 1)) (fw_and1 (ft_not (ft_val (e_any B (fa_cons (fd_lc rfl sc_law_antichain.nd (fi_seq (fd_var 0)) (own := [("other", 3)]) (blkOk_by (by rfl)) (fun _ _ _ _ _ => (fg_nm (i := 3) sc_law_antichain.nd rfl (.inl rfl))) (fun _ _ _ _ _ => ft_yes) (fun _ _ _ _ _ => (fd_and (e_ne hr (fd_var 2) (fd_var 3)) (fd_one (e_call D_law_within (fun σ => lets0 σ) hr (fa_cons (fd_var 2) (fa_cons (fd_var 3) fa_nil))))))) fa_nil)))))))) (fs_one (fs_app (i := 1) rfl (.inl rfl) (by decide) (by decide) (fd_var 2) rfl rfl rfl rfl rfl rfl)) fs_nil))) (fs_frz 1 (fs_one (fs_ret (e_tuple B (fa_cons (fd_var 1) fa_nil))))))), hg, F.kp, hb⟩
abbrev s_law_cell : Stmt := topS 12
theorem sc_law_cell : FnScope ["script", "k"] ["script", "k"] (defScope s_law_cell) := ⟨rfl, rfl, rfl, by decide +kernel, rfl, by decide +kernel, by decide +kernel⟩
theorem ok_law_cell {a : Addr} {fd : FuncData} (F : Fun K "_law_cell" "_law_cell" s_law_cell a fd) (hg : mg "_law_cell" = some (.ref a)) (hb : Binds K fd ["script", "k"] []) (B : Bi mg) : FnD P w K mg base Tb "_law_cell" 1 m_law_cell := ⟨a, fd, ["script", "k"], fn_okD F sc_law_cell fun cdv A outer s H E hr => 
  (fs_cons (fs_if (t_lt (fd_var 1) (e_len B (fa_cons (fd_var 0) fa_nil))) (fs_one (fs_ret (e_ix (fd_var 0) (fd_var 1)))) fs_nil) (fs_one (fs_ret (fd_add (fd_mul fd_int (fd_var 1)) fd_int)))), hg, F.kp, hb⟩
abbrev s_law_row : Stmt := topS 19
theorem sc_law_row : FnScope ["cell", "size", "draws", "k"] ["cell", "size"] (defScope s_law_row) := ⟨rfl, rfl, rfl, by decide +kernel, rfl, by decide +kernel, by decide +kernel⟩
theorem ok_law_row {a : Addr} {fd : FuncData} (F : Fun K "_law_row" "_law_row" s_law_row a fd) (D_law_draws : FnD P w K mg base Tb "_law_draws" 1 m_law_draws) (hg : mg "_law_row" = some (.ref a)) (hb : Binds K fd ["cell", "size"] []) (B : Bi mg) : FnD P w K mg base Tb "_law_row" 2 m_law_row := ⟨a, fd, ["cell", "size"], fn_okD F sc_law_row fun cdv A outer s H E hr => 
  (fs_cons (fs_set (i := 2) sc_law_row.nd rfl (.inr rfl) (e_call D_law_draws (fun σ => lets_of (L2N.takes_of rfl rfl rfl rfl) σ) hr (fa_cons (fd_var 0) (fa_cons fd_int fa_nil)))) (fs_one (fs_ret (fd_lc rfl sc_law_row.nd (fi_rng1 (by rfl) B.range (fa_cons (fd_mod (e_int B (fa_cons (e_ix (fd_var 2) fd_int) fa_nil)) fd_int) fa_nil)) (own := [("k", 3)]) (blkOk_by (by rfl)) (fun _ _ _ _ _ => (fg_nm (i := 3) sc_law_row.nd rfl (.inl rfl))) (fun _ _ _ _ _ => (ft_one (t_gt (fd_var 1) fd_int))) (fun _ _ _ _ _ => (fd_mod (e_int B (fa_cons (e_ix (fd_var 2) (fd_add fd_int (fd_var 3))) fa_nil)) (fd_var 1))))))), hg, F.kp, hb⟩
abbrev s_check_things : Stmt := topS 9
theorem sc_check_things : FnScope ["size", "lots", "position", "row", "number"] ["size", "lots"] (defScope s_check_things) := ⟨rfl, rfl, rfl, by decide +kernel, rfl, by decide +kernel, by decide +kernel⟩
theorem ok_check_things {a : Addr} {fd : FuncData} {cd_check_things pt_check_things : Addr} (F : FunC K "_check_things" "_check_things" s_check_things a fd cd_check_things) (tm_check_things : pt_check_things ∈ Tb) (tb_check_things : GxR.TabB base mg cd_check_things pt_check_things) (hg : mg "_check_things" = some (.ref a)) (hb : Binds K fd ["size", "lots"] []) (B : Bi mg) : FnD P w K mg base Tb "_check_things" 4 m_check_things := ⟨a, fd, ["size", "lots"], fn_okC F sc_check_things fun A outer s H E hr => 
  (fs_one (fs_for (passes_of rfl) rfl (fi_enum (by rfl) B.enumerate (fa_cons (fd_var 1) fa_nil)) (fg_tup rfl (fgs_cons (fg_nm (i := 2) sc_check_things.nd rfl (.inl rfl)) (fgs_cons (fg_nm (i := 3) sc_check_things.nd rfl (.inl rfl)) fgs_nil))) (fs_one (fs_if (ft_val (fd_any (k := 0) (own := [("number", 4)]) (c := cd_check_things) (P := pt_check_things) hr tm_check_things tb_check_things rfl rfl sc_check_things.nd (blkOk_by (by rfl)) (fi_seq (fd_var 3)) (fun _ _ _ _ _ _ _ hr0 => (fg_nm (i := 4) sc_check_things.nd rfl (.inl rfl))) (fun _ _ _ _ _ _ _ hr0 => ft_yes) (fun _ _ _ _ _ _ _ hr0 => (fd_or (e_lt (fd_var 4) fd_int) (fd_one (e_ge (fd_var 4) (fd_var 0))))) (by rfl) B.any)) (fs_one fs_raiseBad) fs_nil)))), hg, F.kp, hb⟩
abbrev s_lies_within : Stmt := topS 6
theorem sc_lies_within : FnScope ["inner", "outer", "thing"] ["inner", "outer"] (defScope s_lies_within) := ⟨rfl, rfl, rfl, by decide +kernel, rfl, by decide +kernel, by decide +kernel⟩
theorem ok_lies_within {a : Addr} {fd : FuncData} {cd_lies_within pt_lies_within : Addr} (F : FunC K "lies_within" "lies_within" s_lies_within a fd cd_lies_within) (tm_lies_within : pt_lies_within ∈ Tb) (tb_lies_within : GxR.TabB base mg cd_lies_within pt_lies_within) (hg : mg "lies_within" = some (.ref a)) (hb : Binds K fd ["inner", "outer"] []) (B : Bi mg) : FnD P w K mg base Tb "lies_within" 4 m_lies_within := ⟨a, fd, ["inner", "outer"], fn_okC F sc_lies_within fun A outer s H E hr => 
  (fs_one (fs_ret (fd_all (k := 0) (own := [("thing", 2)]) (c := cd_lies_within) (P := pt_lies_within) hr tm_lies_within tb_lies_within rfl rfl sc_lies_within.nd (blkOk_by (by rfl)) (fi_seq (fd_var 0)) (fun _ _ _ _ _ _ _ hr0 => (fg_nm (i := 2) sc_lies_within.nd rfl (.inl rfl))) (fun _ _ _ _ _ _ _ hr0 => ft_yes) (fun _ _ _ _ _ _ _ hr0 => (e_in hr0 (fd_var 2) (fd_var 1))) (by rfl) B.all))), hg, F.kp, hb⟩
abbrev s_check_nesting : Stmt := topS 10
theorem sc_check_nesting : FnScope ["lots", "inner", "outer"] ["lots"] (defScope s_check_nesting) := ⟨rfl, rfl, rfl, by decide +kernel, rfl, by decide +kernel, by decide +kernel⟩
theorem ok_check_nesting {a : Addr} {fd : FuncData} (F : Fun K "_check_nesting" "_check_nesting" s_check_nesting a fd) (D_lies_within : FnD P w K mg base Tb "lies_within" 4 m_lies_within) (hg : mg "_check_nesting" = some (.ref a)) (hb : Binds K fd ["lots"] []) (B : Bi mg) : FnD P w K mg base Tb "_check_nesting" 5 m_check_nesting := ⟨a, fd, ["lots"], fn_okD F sc_check_nesting fun cdv A outer s H E hr => 
  (fs_one (fs_for (passes_of rfl) rfl (fi_seq (fd_var 0)) (fg_nm (i := 1) sc_check_nesting.nd rfl (.inl rfl)) (fs_one (fs_for (passes_of rfl) rfl (fi_seq (fd_var 0)) (fg_nm (i := 2) sc_check_nesting.nd rfl (.inl rfl)) (fs_one (fs_if (PW.pt (fw_and (t_lt (e_len B (fa_cons (fd_var 1) fa_nil)) (e_len B (fa_cons (fd_var 2) fa_nil))) (fw_and1 (ft_val (e_call D_lies_within (fun σ => lets_of (L2N.takes_of rfl rfl rfl rfl) σ) hr (fa_cons (fd_var 1) (fa_cons (fd_var 2) fa_nil))))))) (fs_one fs_raiseBad) fs_nil)))))), hg, F.kp, hb⟩
abbrev s_make_offer : Stmt := topS 8
theorem sc_make_offer : FnScope ["size", "lots", "kept", "row"] ["size", "lots"] (defScope s_make_offer) := ⟨rfl, rfl, rfl, by decide +kernel, rfl, by decide +kernel, by decide +kernel⟩
theorem ok_make_offer {a : Addr} {fd : FuncData} (F : Fun K "make_offer" "make_offer" s_make_offer a fd) (D_check_things : FnD P w K mg base Tb "_check_things" 4 m_check_things) (D_check_nesting : FnD P w K mg base Tb "_check_nesting" 5 m_check_nesting) (hg : mg "make_offer" = some (.ref a)) (hb : Binds K fd ["size", "lots"] []) (B : Bi mg) : FnD P w K mg base Tb "make_offer" 6 m_make_offer := ⟨a, fd, ["size", "lots"], fn_okD F sc_make_offer fun cdv A outer s H E hr => 
  (fs_cons (fs_if (t_eq hr (e_len B (fa_cons (fd_var 1) fa_nil)) fd_int) (fs_one fs_raiseBad) fs_nil) (fs_cons (fs_expr (e_call D_check_things (fun σ => lets_of (L2N.takes_of rfl rfl rfl rfl) σ) hr (fa_cons (fd_var 0) (fa_cons (fd_var 1) fa_nil)))) (fs_cons (fs_set (i := 2) sc_make_offer.nd rfl (.inl rfl) (fd_sortSc hr B rfl sc_make_offer.nd (fi_seq (fd_var 1)) (own := [("row", 3)]) (blkOk_by (by rfl)) (fun _ _ _ _ _ => (fg_nm (i := 3) sc_make_offer.nd rfl (.inl rfl))) (fun _ _ _ _ _ => ft_yes) (fun _ _ _ _ _ => (e_tuple B (fa_cons (fd_sortSet B (fd_var 3)) fa_nil))))) (fs_cons (fs_expr (e_call D_check_nesting (fun σ => lets_of (L2N.takes_of rfl rfl rfl rfl) σ) hr (fa_cons (fd_var 2) fa_nil))) (fs_one (fs_ret (fd_tup (fa_cons (fd_var 0) (fa_cons (e_tuple B (fa_cons (fd_var 2) fa_nil)) fa_nil))))))))), hg, F.kp, hb⟩
abbrev s_law_is_integer : Stmt := topS 14
theorem sc_law_is_integer : FnScope ["value"] ["value"] (defScope s_law_is_integer) := ⟨rfl, rfl, rfl, by decide +kernel, rfl, by decide +kernel, by decide +kernel⟩
theorem ok_law_is_integer {a : Addr} {fd : FuncData} (F : Fun K "_law_is_integer" "_law_is_integer" s_law_is_integer a fd) (hg : mg "_law_is_integer" = some (.ref a)) (hb : Binds K fd ["value"] []) (B : Bi mg) : FnD P w K mg base Tb "_law_is_integer" 1 m_law_is_integer := ⟨a, fd, ["value"], fn_okD F sc_law_is_integer fun cdv A outer s H E hr => 
  (fs_one (fs_ret (fd_and (e_isInt B (fd_var 0)) (fd_one (fd_not (e_isBool B (fd_var 0))))))), hg, F.kp, hb⟩
abbrev s_law_is_set : Stmt := topS 15
theorem sc_law_is_set : FnScope ["value", "size", "k"] ["value", "size"] (defScope s_law_is_set) := ⟨rfl, rfl, rfl, by decide +kernel, rfl, by decide +kernel, by decide +kernel⟩
theorem ok_law_is_set {a : Addr} {fd : FuncData} (F : Fun K "_law_is_set" "_law_is_set" s_law_is_set a fd) (D_law_is_integer : FnD P w K mg base Tb "_law_is_integer" 1 m_law_is_integer) (hg : mg "_law_is_set" = some (.ref a)) (hb : Binds K fd ["value", "size"] []) (B : Bi mg) : FnD P w K mg base Tb "_law_is_set" 2 m_law_is_set := ⟨a, fd, ["value", "size"], fn_okD F sc_law_is_set fun cdv A outer s H E hr => 
  (fs_cons (fs_if (ft_not (ft_val (e_isTuple B (fd_var 0)))) (fs_one (fs_ret fd_bl)) fs_nil) (fs_cons (fs_for (passes_of rfl) rfl (fi_rng1 (by rfl) B.range (fa_cons (e_len B (fa_cons (fd_var 0) fa_nil)) fa_nil)) (fg_nm (i := 2) sc_law_is_set.nd rfl (.inl rfl)) (fs_cons (fs_if (PW.pt (fw_or (ft_not (ft_val (e_call D_law_is_integer (fun σ => lets_of (L2N.takes_of rfl rfl rfl rfl) σ) hr (fa_cons (e_ix (fd_var 0) (fd_var 2)) fa_nil)))) (fw_or (t_lt (e_ix (fd_var 0) (fd_var 2)) fd_int) (fw_or1 (t_ge (e_ix (fd_var 0) (fd_var 2)) (fd_var 1)))))) (fs_one (fs_ret fd_bl)) fs_nil) (fs_one (fs_if (PW.pt (fw_and (t_gt (fd_var 2) fd_int) (fw_and1 (t_le (e_ix (fd_var 0) (fd_var 2)) (e_ix (fd_var 0) (fd_sub (fd_var 2) fd_int)))))) (fs_one (fs_ret fd_bl)) fs_nil)))) (fs_one (fs_ret fd_bl)))), hg, F.kp, hb⟩
abbrev s_law_is_offer : Stmt := topS 16
theorem sc_law_is_offer : FnScope ["told", "size", "lots", "lot"] ["told", "size", "lots"] (defScope s_law_is_offer) := ⟨rfl, rfl, rfl, by decide +kernel, rfl, by decide +kernel, by decide +kernel⟩
theorem ok_law_is_offer {a : Addr} {fd : FuncData} (F : Fun K "_law_is_offer" "_law_is_offer" s_law_is_offer a fd) (D_law_is_integer : FnD P w K mg base Tb "_law_is_integer" 1 m_law_is_integer) (D_law_is_set : FnD P w K mg base Tb "_law_is_set" 2 m_law_is_set) (hg : mg "_law_is_offer" = some (.ref a)) (hb : Binds K fd ["told", "size", "lots"] []) (B : Bi mg) : FnD P w K mg base Tb "_law_is_offer" 3 m_law_is_offer := ⟨a, fd, ["told", "size", "lots"], fn_okD F sc_law_is_offer fun cdv A outer s H E hr => 
  (fs_cons (fs_if (PW.pt (fw_or (ft_not (ft_val (e_isTuple B (fd_var 0)))) (fw_or (t_ne hr (e_len B (fa_cons (fd_var 0) fa_nil)) fd_int) (fw_or (ft_not (ft_val (e_call D_law_is_integer (fun σ => lets_of (L2N.takes_of rfl rfl rfl rfl) σ) hr (fa_cons (e_ix (fd_var 0) fd_int) fa_nil)))) (fw_or1 (t_ne hr (e_ix (fd_var 0) fd_int) (fd_var 1))))))) (fs_one (fs_ret fd_bl)) fs_nil) (fs_cons (fs_if (PW.pt (fw_or (ft_not (ft_val (e_isTuple B (e_ix (fd_var 0) fd_int)))) (fw_or1 (t_ne hr (e_ix (fd_var 0) fd_int) (fd_var 2))))) (fs_one (fs_ret fd_bl)) fs_nil) (fs_cons (fs_for (passes_of rfl) rfl (fi_seq (e_ix (fd_var 0) fd_int)) (fg_nm (i := 3) sc_law_is_offer.nd rfl (.inl rfl)) (fs_one (fs_if (ft_not (ft_val (e_call D_law_is_set (fun σ => lets_of (L2N.takes_of rfl rfl rfl rfl) σ) hr (fa_cons (fd_var 3) (fa_cons (fd_var 1) fa_nil))))) (fs_one (fs_ret fd_bl)) fs_nil))) (fs_one (fs_ret fd_bl))))), hg, F.kp, hb⟩
abbrev s_law_set_of : Stmt := topS 20
theorem sc_law_set_of : FnScope ["row", "thing"] ["row"] (defScope s_law_set_of) := ⟨rfl, rfl, rfl, by decide +kernel, rfl, by decide +kernel, by decide +kernel⟩
theorem ok_law_set_of {a : Addr} {fd : FuncData} (F : Fun K "_law_set_of" "_law_set_of" s_law_set_of a fd) (hg : mg "_law_set_of" = some (.ref a)) (hb : Binds K fd ["row"] []) (B : Bi mg) : FnD P w K mg base Tb "_law_set_of" 1 m_law_set_of := ⟨a, fd, ["row"], fn_okD F sc_law_set_of fun cdv A outer s H E hr => 
  (fs_one (fs_ret (e_tuple B (fa_cons (fd_lc rfl sc_law_set_of.nd (fi_rng1 (by rfl) B.range (fa_cons fd_int fa_nil)) (own := [("thing", 1)]) (blkOk_by (by rfl)) (fun _ _ _ _ _ => (fg_nm (i := 1) sc_law_set_of.nd rfl (.inl rfl))) (fun _ _ _ _ _ => (ft_one (t_in hr (fd_var 1) (fd_var 0)))) (fun _ _ _ _ _ => (fd_var 1))) fa_nil)))), hg, F.kp, hb⟩
abbrev s_law : Stmt := topS 21
theorem sc_law : FnScope ["script", "head", "size", "drawn", "due", "rows", "again", "passed", "told", "k", "row"] ["script"] (defScope s_law) := ⟨rfl, rfl, rfl, by decide +kernel, rfl, by decide +kernel, by decide +kernel⟩
theorem okF_law {a : Addr} {fd : FuncData} (F : Fun K "law" "law" s_law a fd) (D_law_draws : FnD P w K mg base Tb "_law_draws" 1 m_law_draws) (D_law_antichain : FnD P w K mg base Tb "_law_antichain" 2 m_law_antichain) (D_law_cell : FnD P w K mg base Tb "_law_cell" 1 m_law_cell) (D_law_row : FnD P w K mg base Tb "_law_row" 2 m_law_row) (D_make_offer : FnD P w K mg base Tb "make_offer" 6 m_make_offer) (D_law_is_offer : FnD P w K mg base Tb "_law_is_offer" 3 m_law_is_offer) (D_law_set_of : FnD P w K mg base Tb "_law_set_of" 1 m_law_set_of) (B : Bi mg) : FnOk P w K mg base (L2N.CX P w) 7 a fd ["script"] (spD K Tb m_law_k01) := fn_okD F sc_law fun cdv A outer s H E hr => 
  (fs_cons (fs_set (i := 1) sc_law.nd rfl (.inl rfl) (e_call D_law_draws (fun σ => lets_of (L2N.takes_of rfl rfl rfl rfl) σ) hr (fa_cons (e_call D_law_cell (fun σ => lets_of (L2N.takes_of rfl rfl rfl rfl) σ) hr (fa_cons (fd_var 0) (fa_cons fd_int fa_nil))) (fa_cons fd_int fa_nil)))) (fs_cons (fs_set (i := 2) sc_law.nd rfl (.inr rfl) (fd_mod (e_int B (fa_cons (e_ix (fd_var 1) fd_int) fa_nil)) fd_int)) (fs_cons (fs_setLc (i := 3) rfl sc_law.nd rfl rfl (by rfl) (fi_rng1 (by rfl) B.range (fa_cons (fd_add fd_int (fd_mod (e_int B (fa_cons (e_ix (fd_var 1) fd_int) fa_nil)) fd_int)) fa_nil)) (own := [("k", 9)]) (blkOk_by (by rfl)) (fun _ _ _ _ _ => (fg_nm (i := 9) sc_law.nd rfl (.inl rfl))) (fun _ _ _ _ _ => ft_yes) (fun _ _ _ _ _ => (e_call D_law_row (fun σ => lets0 σ) hr (fa_cons (e_call D_law_cell (fun σ => lets0 σ) hr (fa_cons (fd_var 0) (fa_cons (fd_add fd_int (fd_var 9)) fa_nil))) (fa_cons (fd_var 2) fa_nil))))) (fs_cons (fs_set (i := 4) sc_law.nd rfl (.inr rfl) (e_call D_law_antichain (fun σ => lets_of (L2N.takes_of rfl rfl rfl rfl) σ) hr (fa_cons (fd_lc rfl sc_law.nd (fi_seq (fd_var 3)) (own := [("row", 10)]) (blkOk_by (by rfl)) (fun _ _ _ _ _ => (fg_nm (i := 10) sc_law.nd rfl (.inl rfl))) (fun _ _ _ _ _ => ft_yes) (fun _ _ _ _ _ => (e_call D_law_set_of (fun σ => lets0 σ) hr (fa_cons (fd_var 10) fa_nil)))) fa_nil))) (fs_cons (fs_ownLc (i := 5) rfl sc_law.nd rfl rfl (by rfl) (fi_seq (fd_var 3)) (own := [("row", 10)]) (blkOk_by (by rfl)) (fun _ _ _ _ _ => (fg_nm (i := 10) sc_law.nd rfl (.inl rfl))) (fun _ _ _ _ _ => (ft_one (t_in hr (e_call D_law_set_of (fun σ => lets0 σ) hr (fa_cons (fd_var 10) fa_nil)) (fd_var 4)))) (fun _ _ _ _ _ => (fd_var 10))) (fs_cons (fs_own (i := 6) sc_law.nd rfl (.inl rfl) (fn_list (by rfl) B.list (fa_cons (e_ownIx (i := 5) rfl (.inl rfl) (by decide) (by decide) (fd_thaw (fd_mod (e_int B (fa_cons (e_ix (fd_var 1) fd_int) fa_nil)) (e_len B (fa_cons (fd_var 5) fa_nil))))) fa_nil))) (fs_cons (fs_rev (i := 6) rfl (.inl rfl) (by decide) (by decide) rfl rfl rfl) (fs_frz 6 (fs_cons (fs_app (i := 5) rfl (.inl rfl) (by decide) (by decide) (fd_var 6) rfl rfl rfl rfl rfl rfl) (fs_frz 5 (fs_cons (fs_setLc (i := 7) rfl sc_law.nd rfl rfl (by rfl) (fi_seq (fd_var 5)) (own := [("row", 10)]) (blkOk_by (by rfl)) (fun _ _ _ _ _ => (fg_nm (i := 10) sc_law.nd rfl (.inl rfl))) (fun _ _ _ _ _ => ft_yes) (fun _ _ _ _ _ => (e_list B (fa_cons (fd_var 10) fa_nil)))) (fs_cons (fs_if (t_eq hr (fd_mod (e_int B (fa_cons (e_ix (fd_var 1) fd_int) fa_nil)) fd_int) fd_int) (fs_one (fs_set (i := 8) sc_law.nd rfl (.inl rfl) (e_call D_make_offer (fun σ => lets_of (L2N.takes_of rfl rfl rfl rfl) σ) hr (fa_cons (fd_var 2) (fa_cons (fd_var 7) fa_nil))))) (fs_one (fs_set (i := 8) sc_law.nd rfl (.inl rfl) (e_call D_make_offer (fun σ => lets_of (L2N.takes_of rfl rfl rfl rfl) σ) hr (fa_cons (fd_var 2) (fa_cons (e_tuple B (fa_cons (fd_lc rfl sc_law.nd (fi_seq (fd_var 5)) (own := [("row", 10)]) (blkOk_by (by rfl)) (fun _ _ _ _ _ => (fg_nm (i := 10) sc_law.nd rfl (.inl rfl))) (fun _ _ _ _ _ => ft_yes) (fun _ _ _ _ _ => (e_tuple B (fa_cons (fd_var 10) fa_nil)))) fa_nil)) fa_nil)))))) (fs_one (fs_ret (fd_and (e_call D_law_is_offer (fun σ => lets_of (L2N.takes_of rfl rfl rfl rfl) σ) hr (fa_cons (fd_var 8) (fa_cons (fd_var 2) (fa_cons (fd_var 4) fa_nil)))) (fd_one (e_eq hr (fd_var 7) (fd_var 5))))))))))))))))))
end
end LW

set_option Elab.async false
set_option maxRecDepth 100000
set_option linter.all false
set_option maxHeartbeats 2000000
namespace LW
open PySem PySem.Spec PyProof.Rows L2 PD

/-! ### the law's own defs -/
theorem v_integer (x : Int) : m_law_is_integer [.int x] = .ok (.bool true) := by
  show endR (g_law_is_integer [some (.d (.int x))]) = _
  simp [g_law_is_integer, isi_int, isi_bool]
theorem v_within (a b : List Int) : m_law_within [tu a, tu b] = .ok (.bool (a.all fun x => decide (x ∈ b))) := by
  show endR (g_law_within [some (.d (tu a)), some (.d (tu b)), none]) = _
  simp [g_law_within]
theorem v_cell (ns : List Int) (k : Int) (h : 0 ≤ k) : ∃ c : Int, m_law_cell [li ns, .int k] = .ok (.int c) := by
  show ∃ c : Int, endR (g_law_cell [some (.d (li ns)), some (.d (.int k))]) = _
  by_cases hk : k < (ns.length : Int)
  · have hl : k.toNat < ns.length := by omega
    refine ⟨ns[k.toNat], ?_⟩
    simp [g_law_cell, hk, oIx_li h (List.getElem?_eq_getElem hl)]
  · refine ⟨5 * k + 3, ?_⟩
    simp [g_law_cell, hk, oMul_l]
theorem v_draws (c n : Int) (h0 : 0 ≤ n) (h1 : n ≤ 1000) : ∃ L : List Int, m_law_draws [.int c, .int n] = .ok (li L) ∧ L.length = n.toNat ∧ ∀ x ∈ L, 0 ≤ x ∧ x < 5040 := by
  show ∃ L : List Int, endR (g_law_draws [some (.d (.int c)), some (.d (.int n)), none, none, none, none, none, none]) = _ ∧ _
  have key := forGo_inv (i := 6) (g := b_law_draws_1) (enc := PyData.int) (fun xs ρ => ∃ (rest seed : Int) (dg : Bool) (L : List Int) (o6 o7 : Option Sl),
    ρ = [some (.d (.int c)), some (.d (.int n)), some (.d (.int rest)), some (.d (.bool dg)), some (.d (.int seed)), some (.own (L.map .int)), o6, o7] ∧ L.length + xs.length = n.toNat ∧ ∀ x ∈ L, 0 ≤ x ∧ x < 5040) (by
    rintro k xs ρ ⟨rest, seed, dg, L, o6, o7, rfl, hl, hL⟩
    have hl' : L.length + (xs.length + 1) = n.toNat := by simpa using hl
    have hs : L.length < sizeLine := line_lt (by omega)
    have app : ∀ y : Int, 0 ≤ y → y < 5040 → ∀ x ∈ L ++ [y], 0 ≤ x ∧ x < 5040 := fun y a b x hx => by
      rcases List.mem_append.mp hx with hx | hx
      · exact hL x hx
      · rw [List.mem_singleton.mp hx]; exact ⟨a, b⟩
    by_cases hb : dg = true ∧ 0 < rest
    · obtain ⟨rfl, hr⟩ := hb
      refine ⟨[some (.d (.int c)), some (.d (.int n)), some (.d (.int (rest.fdiv 5040))), some (.d (.bool true)), some (.d (.int seed)), some (.own ((L ++ [rest.fmod 5040]).map .int)), some (.d (.int k)), o7], ?_, rest.fdiv 5040, seed, true, L ++ [rest.fmod 5040], _, _, rfl, by simp; omega, app _ (fmod_lo _ (by decide)) (fmod_hi _ (by decide))⟩
      simp [b_law_draws_1, hr, oMod_int, oDiv_lit, hs]
    · have hc : (if dg = true then decide (0 < rest) else false) = false := by
        cases dg <;> simp_all
      have m1 := fmod_lo (seed * 48271 + (k + 1) * 69621 + 11) (b := 2147483647) (by decide)
      have m2 := fmod_hi (seed * 48271 + (k + 1) * 69621 + 11) (b := 2147483647) (by decide)
      generalize hm : (seed * 48271 + (k + 1) * 69621 + 11).fmod 2147483647 = mx at m1 m2
      refine ⟨[some (.d (.int c)), some (.d (.int n)), some (.d (.int rest)), some (.d (.bool dg)), some (.d (.int seed)), some (.own ((L ++ [(((mx * mx + 40692 * (k + 3)).fmod 2147483399).fdiv 64).fmod 5040]).map .int)), some (.d (.int k)), some (.d (.int ((mx * mx + 40692 * (k + 3)).fmod 2147483399)))], ?_,
        rest, seed, dg, L ++ [(((mx * mx + 40692 * (k + 3)).fmod 2147483399).fdiv 64).fmod 5040], _, _, rfl, by simp; omega, app _ (fmod_lo _ (by decide)) (fmod_hi _ (by decide))⟩
      have e1 : oMul (.int mx) (.int mx) = .ok (.int (mx * mx)) := oMul_l (by omega) (by omega)
      simp [b_law_draws_1, hc, oMod_int, oDiv_lit, hs, oMul_r, oMul_l, hm, e1]
      exact fun a b => absurd ⟨a, b⟩ hb)
  obtain ⟨ρ', e, rest, seed, dg, L, o6, o7, rfl, hl, hL⟩ := key (rangeI 0 n) [some (.d (.int c)), some (.d (.int n)), some (.d (.int (if c < 0 then -c else c))), some (.d (.bool (decide (1000000000000000000 ≤ (if c < 0 then -c else c))))), some (.d (.int (if c < 0 then -c else c))), some (.own []), none, none]
    ⟨_, _, _, [], none, none, rfl, by rw [rangeI_len]; simp, by simp⟩
  refine ⟨L, ?_, by simpa using hl, hL⟩
  simp [g_law_draws, rngA1_ok (show n ≤ 100000 by omega) (show -1000 ≤ n by omega), e]

/-! ### sets of things -/
def Asc (n : Int) (l : List Int) : Prop := l.Pairwise (· < ·) ∧ ∀ x ∈ l, 0 ≤ x ∧ x < n
theorem asc_len' : ∀ (l : List Int) (lo n : Int), l.Pairwise (· < ·) → (∀ x ∈ l, lo ≤ x ∧ x < n) → l.length ≤ (n - lo).toNat
  | [], _, _, _, _ => Nat.zero_le _
  | x :: xs, lo, n, h, b => by
    obtain ⟨h1, h2⟩ := List.pairwise_cons.mp h
    obtain ⟨b1, b2⟩ := b x List.mem_cons_self
    have ih := asc_len' xs (x + 1) n h2 fun y hy => ⟨by have := h1 y hy; omega, (b y (List.mem_cons_of_mem _ hy)).2⟩
    rw [List.length_cons]; omega
theorem Asc.len {n : Int} {l : List Int} (h : Asc n l) : l.length ≤ n.toNat := by
  have := asc_len' l 0 n h.1 h.2
  rwa [Int.sub_zero] at this
theorem Asc.nil (n : Int) : Asc n [] := ⟨.nil, by simp⟩
theorem asc_succ {k : Int} (hk : 0 ≤ k) {r : List Int} : Asc (k + 1) r ↔ Asc k r ∨ ∃ r', Asc k r' ∧ r' ++ [k] = r := by
  constructor
  · intro ⟨h1, h2⟩
    rcases List.eq_nil_or_concat r with rfl | ⟨r', z, rfl⟩
    · exact .inl (Asc.nil _)
    · rw [List.concat_eq_append] at h1 h2 ⊢
      obtain ⟨p1, _, p3⟩ := List.pairwise_append.mp h1
      have hz := h2 z (by simp)
      have hr : ∀ x ∈ r', x < z := fun x hx => p3 x hx z (by simp)
      by_cases e : z = k
      · subst e
        exact .inr ⟨r', ⟨p1, fun x hx => ⟨(h2 x (by simp [hx])).1, hr x hx⟩⟩, rfl⟩
      · refine .inl ⟨h1, fun x hx => ⟨(h2 x hx).1, ?_⟩⟩
        rcases List.mem_append.mp hx with hx | hx
        · have := hr x hx; omega
        · rw [List.mem_singleton.mp hx]; omega
  · rintro (⟨h1, h2⟩ | ⟨r', ⟨h1, h2⟩, rfl⟩)
    · exact ⟨h1, fun x hx => ⟨(h2 x hx).1, by have := (h2 x hx).2; omega⟩⟩
    · refine ⟨List.pairwise_append.mpr ⟨h1, List.pairwise_singleton _ _, fun a ha b hb => ?_⟩, fun x hx => ?_⟩
      · rw [List.mem_singleton.mp hb]; exact (h2 a ha).2
      · rcases List.mem_append.mp hx with hx | hx
        · have := h2 x hx; omega
        · rw [List.mem_singleton.mp hx]; omega
theorem rangeI_cons {k n : Int} (h : k < n) : rangeI k n = k :: rangeI (k + 1) n := by
  unfold rangeI
  have e : (n - k).toNat = (n - (k + 1)).toNat + 1 := by omega
  rw [e, List.range_succ_eq_map, List.map_cons, List.map_map]
  congr 1
  · simp
  · refine List.map_congr_left fun i _ => ?_
    show k + ((i + 1 : Nat) : Int) = k + 1 + (i : Int)
    omega
theorem rangeI_nil {k n : Int} (h : n ≤ k) : rangeI k n = [] := by
  unfold rangeI
  rw [show (n - k).toNat = 0 by omega]; rfl
theorem rangeI_inv {k n : Int} {x : Int} {xs : List Int} (h : x :: xs = rangeI k n) : k < n ∧ x = k ∧ xs = rangeI (k + 1) n := by
  by_cases hk : k < n
  · rw [rangeI_cons hk] at h
    exact ⟨hk, (List.cons.inj h).1, (List.cons.inj h).2⟩
  · rw [rangeI_nil (by omega)] at h; cases h
theorem lcR_mem {α β : Type} {f : α → R β} {g : α → β} {xs : List α} (h : ∀ x ∈ xs, f x = .ok (g x)) : lcR (fun _ => .ok true) f xs = .ok (xs.map g) := by
  have := lcR_of (p := fun _ => .ok true) (q := fun _ => true) (g := g) (xs := xs) fun x hx => ⟨rfl, fun _ => h x hx⟩
  rw [this, List.filter_eq_self.mpr (fun _ _ => rfl)]
theorem v_parts (n : Int) (h0 : 0 ≤ n) (h1 : n ≤ 12) : ∃ rows : List (List Int), m_law_parts_of [.int n] = .ok (lt rows) ∧ (∀ r, r ∈ rows ↔ Asc n r) ∧ rows.length ≤ 4096 := by
  show ∃ rows : List (List Int), endR (g_law_parts_of [some (.d (.int n)), none, none, none]) = _ ∧ _
  have key := forGo_inv (i := 2) (g := b_law_parts_of_1) (enc := PyData.int) (fun xs ρ => ∃ (k : Int) (rows : List (List Int)) (o2 : Option Sl),
    xs = rangeI k n ∧ 0 ≤ k ∧ k ≤ n ∧ ρ = [some (.d (.int n)), some (.d (lt rows)), o2, none] ∧ (∀ r, r ∈ rows ↔ Asc k r) ∧ rows.length = 2 ^ k.toNat) (by
    rintro x xs ρ ⟨k, rows, o2, hx, hk, hkn, rfl, hr, hz⟩
    obtain ⟨hk1, rfl, rfl⟩ := rangeI_inv hx
    have hp : 2 ^ x.toNat ≤ 2 ^ 12 := Nat.pow_le_pow_right (by decide) (by omega)
    have e1 : lcR (fun _ => R.ok true) (fun r : List Int => oAdd (tu r) (tu [x])) rows = .ok (rows.map fun r => tu (r ++ [x])) := lcR_mem fun r hm => oAdd_tu (by have := ((hr r).mp hm).len; simp; omega)
    have e2 : oAdd (lt rows) (lt (rows.map fun r => r ++ [x])) = .ok (lt (rows ++ rows.map fun r => r ++ [x])) := oAdd_lt (by rw [List.length_map, hz]; omega)
    refine ⟨[some (.d (.int n)), some (.d (lt (rows ++ rows.map fun r => r ++ [x]))), some (.d (.int x)), none], ?_, x + 1, _, _, rfl, by omega, by omega, rfl, fun r => ?_, ?_⟩
    · simp [b_law_parts_of_1, e1, e2]
    · rw [List.mem_append, List.mem_map, asc_succ hk, hr r]
      constructor
      · rintro (h | ⟨a, ha, rfl⟩)
        · exact .inl h
        · exact .inr ⟨a, (hr a).mp ha, rfl⟩
      · rintro (h | ⟨a, ha, rfl⟩)
        · exact .inl h
        · exact .inr ⟨a, (hr a).mpr ha, rfl⟩
    · rw [List.length_append, List.length_map, hz, show (x + 1).toNat = x.toNat + 1 by omega, Nat.pow_succ]; omega)
  have hi : ∀ r : List Int, r ∈ [[]] ↔ Asc 0 r := fun r => by
    constructor
    · intro h
      rw [List.mem_singleton.mp h]; exact Asc.nil _
    · intro h
      have := h.len
      have : r.length = 0 := by simpa using this
      rw [List.length_eq_zero_iff.mp this]; simp
  obtain ⟨ρ', e, k, rows, o2, hx, hk, hkn, rfl, hr, hz⟩ := key (rangeI 0 n) [some (.d (.int n)), some (.d (lt [[]])), none, none] ⟨0, [[]], none, rfl, by omega, h0, rfl, hi, rfl⟩
  · have ek : k = n := by
      by_cases h : k < n
      · rw [rangeI_cons h] at hx; cases hx
      · omega
    subst ek
    have hp : 2 ^ k.toNat ≤ 2 ^ 12 := Nat.pow_le_pow_right (by decide) (by omega)
    refine ⟨sortT rows, ?_, fun r => mem_sortT.trans (hr r), ?_⟩
    · simp [g_law_parts_of, rngA1_ok (show k ≤ 100000 by omega) (show -1000 ≤ k by omega), e]
    · rw [(sortT_perm rows).length_eq, hz]; omega
/-- x lies strictly within none of the rows -/
def Top (rows : List (List Int)) (x : List Int) : Prop := ∀ o ∈ rows, x ≠ o → ¬ ∀ y ∈ x, y ∈ o
theorem top_iff {rows : List (List Int)} {x : List Int} : Top rows x ↔ ∀ o ∈ rows, ¬ x = o → ∃ y, y ∈ x ∧ ¬ y ∈ o := by
  constructor
  · intro h o ho e
    refine Classical.byContradiction fun hc => h o ho e fun y hy => Classical.byContradiction fun hn => hc ⟨y, hy, hn⟩
  · intro h o ho e hall
    obtain ⟨y, h1, h2⟩ := h o ho e
    exact h2 (hall y h1)
theorem v_antichain (rows : List (List Int)) (hz : rows.length ≤ 5000) : ∃ ks : List (List Int), m_law_antichain [lt rows] = .ok (tt ks) ∧ (∀ x, x ∈ ks ↔ x ∈ rows ∧ Top rows x) := by
  show ∃ ks : List (List Int), endR (g_law_antichain [some (.d (lt rows)), none, none, none]) = _ ∧ _
  have key := forGo_inv (i := 2) (g := b_law_antichain_1) (enc := tu) (fun xs ρ => ∃ (kept : List (List Int)) (o2 : Option Sl),
    ρ = [some (.d (lt rows)), some (.own (kept.map tu)), o2, none] ∧ (∀ x ∈ xs, x ∈ rows) ∧ kept.length + xs.length ≤ rows.length ∧ (∀ x ∈ kept, x ∈ rows ∧ Top rows x) ∧ ∀ x ∈ rows, Top rows x → x ∈ kept ∨ x ∈ xs) (by
    rintro x xs ρ ⟨kept, o2, rfl, hx, hl, h1, h2⟩
    have hl' : kept.length + (xs.length + 1) ≤ rows.length := by simpa using hl
    have hs : kept.length < sizeLine := line_lt (by omega)
    by_cases hb : x ∉ kept ∧ Top rows x
    · refine ⟨[some (.d (lt rows)), some (.own ((kept ++ [x]).map tu)), some (.d (tu x)), none], ?_, kept ++ [x], _, rfl, fun y hy => hx y (List.mem_cons_of_mem _ hy), by simp; omega, fun y hy => ?_, fun y hy ht => ?_⟩
      · obtain ⟨hb1, hb2⟩ := hb
        simp [b_law_antichain_1, v_within, hb1, hs]
        exact top_iff.mp hb2
      · rcases List.mem_append.mp hy with hy | hy
        · exact h1 y hy
        · rw [List.mem_singleton.mp hy]; exact ⟨hx x List.mem_cons_self, hb.2⟩
      · rcases h2 y hy ht with h | h
        · exact .inl (List.mem_append_left _ h)
        · rcases List.mem_cons.mp h with rfl | h
          · exact .inl (by simp)
          · exact .inr h
    · refine ⟨[some (.d (lt rows)), some (.own (kept.map tu)), some (.d (tu x)), none], ?_, kept, _, rfl, fun y hy => hx y (List.mem_cons_of_mem _ hy), by omega, h1, fun y hy ht => ?_⟩
      · by_cases hm : x ∈ kept
        · simp [b_law_antichain_1, v_within, hm]
        · have hn : ¬ Top rows x := fun h => hb ⟨hm, h⟩
          simp [b_law_antichain_1, v_within, hm]
          exact fun h => absurd (top_iff.mpr h) hn
      · rcases h2 y hy ht with h | h
        · exact .inl h
        · rcases List.mem_cons.mp h with rfl | h
          · by_cases hm : y ∈ kept
            · exact .inl hm
            · exact absurd ⟨hm, ht⟩ hb
          · exact .inr h)
  obtain ⟨ρ', e, kept, o2, rfl, _, _, h1, h2⟩ := key (sortT rows) [some (.d (lt rows)), some (.own []), none, none] ⟨[], none, rfl, fun x hx => mem_sortT.mp hx, by rw [(sortT_perm rows).length_eq]; simp, by simp, fun x hx _ => .inr (mem_sortT.mpr hx)⟩
  refine ⟨kept, ?_, fun x => ⟨h1 x, fun ⟨a, b⟩ => (h2 x a b).elim (fun h => h) (fun h => by simp at h)⟩⟩
  simp [g_law_antichain, e]
end LW

set_option Elab.async false
set_option maxRecDepth 100000
set_option linter.all false
set_option maxHeartbeats 2000000
namespace LW
open PySem PySem.Spec PyProof.Rows L2 PD
def ixv (L : List Int) (i : Int) : Int := (L[i.toNat]?).getD 0
def ixr (L : List (List Int)) (i : Int) : List Int := (L[i.toNat]?).getD []
theorem ix_li {L : List Int} {i : Int} (h0 : 0 ≤ i) (h1 : i < (L.length : Int)) : oIx (li L) (.int i) = .ok (.int (ixv L i)) := by
  have hl : i.toNat < L.length := by omega
  unfold ixv
  rw [oIx_li h0 (List.getElem?_eq_getElem hl), List.getElem?_eq_getElem hl]; rfl
theorem ix_tu {L : List Int} {i : Int} (h0 : 0 ≤ i) (h1 : i < (L.length : Int)) : oIx (tu L) (.int i) = .ok (.int (ixv L i)) := by
  have hl : i.toNat < L.length := by omega
  unfold ixv
  rw [oIx_tu h0 (List.getElem?_eq_getElem hl), List.getElem?_eq_getElem hl]; rfl
theorem ix_lt {L : List (List Int)} {i : Int} (h0 : 0 ≤ i) (h1 : i < (L.length : Int)) : oIx (lt L) (.int i) = .ok (tu (ixr L i)) := by
  have hl : i.toNat < L.length := by omega
  unfold ixr
  rw [oIx_lt h0 (List.getElem?_eq_getElem hl), List.getElem?_eq_getElem hl]; rfl
theorem ixv_mem {L : List Int} {i : Int} (h0 : 0 ≤ i) (h1 : i < (L.length : Int)) : ixv L i ∈ L := by
  have hl : i.toNat < L.length := by omega
  unfold ixv
  rw [List.getElem?_eq_getElem hl]; exact List.getElem_mem hl
theorem ixr_mem {L : List (List Int)} {i : Int} (h0 : 0 ≤ i) (h1 : i < (L.length : Int)) : ixr L i ∈ L := by
  have hl : i.toNat < L.length := by omega
  unfold ixr
  rw [List.getElem?_eq_getElem hl]; exact List.getElem_mem hl
theorem v_any_lots (c n : Int) (h0 : 0 ≤ n) (h1 : n ≤ 12) : ∃ ks : List (List Int), m_law_any_lots [.int c, .int n] = .ok (tt ks) ∧ ∀ k ∈ ks, Asc n k := by
  show ∃ ks : List (List Int), endR (g_law_any_lots [some (.d (.int c)), some (.d (.int n)), none, none, none, none]) = _ ∧ _
  obtain ⟨L, e1, hL, bL⟩ := v_draws c 7 (by decide) (by decide)
  have hL7 : L.length = 7 := hL
  obtain ⟨rows, e2, hr, hz⟩ := v_parts n h0 h1
  have e3 := ix_li (L := L) (i := 0) (by decide) (by omega)
  generalize ixv L 0 = d0 at e3
  have b1 := fmod_lo d0 (b := 6) (by decide)
  have b2 := fmod_hi d0 (b := 6) (by decide)
  have hne : 0 < rows.length := List.length_pos_of_mem ((hr []).mpr (Asc.nil n))
  have e5 := rngA1_ok (n := 1 + d0.fmod 6) (by omega) (by omega)
  have f1 : ∀ a : Int, 0 ≤ a.fmod rows.length ∧ a.fmod rows.length < rows.length := fun a => ⟨fmod_lo a (by omega), fmod_hi a (by omega)⟩
  obtain ⟨ks, e6, h6⟩ := v_antichain ((rangeI 0 (1 + d0.fmod 6)).map fun k => ixr rows ((ixv L (1 + k)).fmod rows.length)) (by rw [List.length_map, rangeI_len]; omega)
  refine ⟨ks, ?_, fun k hk => ?_⟩
  · simp [g_law_any_lots, e1, e2, e3, oMod_int, e5]
    rw [lcR_mem (g := fun k => tu (ixr rows ((ixv L (1 + k)).fmod rows.length)))]
    · simp [e6]
    · intro k hk
      obtain ⟨k1, k2⟩ := mem_rangeI.mp hk
      have n0 : (rows.length : Int) ≠ 0 := by omega
      simp [ix_li (L := L) (i := 1 + k) (by omega) (by omega), oMod_int n0, ix_lt (f1 _).1 (f1 _).2]
  · obtain ⟨q, _⟩ := (h6 k).mp hk
    obtain ⟨j, hj, rfl⟩ := List.mem_map.mp q
    exact (hr _).mp (ixr_mem (f1 _).1 (f1 _).2)
theorem v_rest (row : List Int) (n : Int) (h0 : 0 ≤ n) (h1 : n ≤ 1000) : m_law_rest [tu row, .int n] = .ok (tu ((rangeI 0 n).filter fun x => !decide (x ∈ row))) := by
  show endR (g_law_rest [some (.d (tu row)), some (.d (.int n)), none]) = _
  simp [g_law_rest, rngA1_ok (show n ≤ 100000 by omega) (show -1000 ≤ n by omega)]
theorem v_count (row cl : List Int) (c : Int) (h : ∀ x ∈ row, 0 ≤ x ∧ x < (cl.length : Int)) : m_law_count [tu row, li cl, .int c] = .ok (.int (row.filter fun x => ixv cl x == c).length) := by
  show endR (g_law_count [some (.d (tu row)), some (.d (li cl)), some (.d (.int c)), none]) = _
  simp [g_law_count]
  rw [lcR_of (q := fun x => ixv cl x == c) (g := fun x => PyData.int x)]
  · simp
  · intro x hx
    simp [ix_li (h x hx).1 (h x hx).2]
theorem v_closed_up (l : List Int) (x : Int) : m_closed_up [tu l, .int x] = .ok (tu (l.map fun y => if x < y then y - 1 else y)) := by
  show endR (g_closed_up [some (.d (tu l)), some (.d (.int x)), none]) = _
  simp [g_closed_up]
theorem v_leave_out (l : List Int) (x : Int) : m_leave_out [tu l, .int x] = .ok (tu (l.filter (fun y => !(y == x)))) := by
  show endR (g_leave_out [some (.d (tu l)), some (.d (.int x)), none]) = _
  simp [g_leave_out]
def gone (x : Int) (l : List Int) : List Int := (l.filter (fun y => !(y == x))).map fun y => if x < y then y - 1 else y
theorem gone_asc {n x : Int} {l : List Int} (h : Asc n l) (hx : 0 ≤ x ∧ x < n) : Asc (n - 1) (gone x l) := by
  unfold gone
  constructor
  · rw [List.pairwise_map]
    refine List.Pairwise.imp_of_mem (R := fun a b => a < b) (fun {a b} ha hb hab => ?_) (h.1.filter _)
    have ha' := (List.mem_filter.mp ha).2
    have hb' := (List.mem_filter.mp hb).2
    have na : ¬ a = x := by simpa using ha'
    have nb : ¬ b = x := by simpa using hb'
    show (if x < a then a - 1 else a) < (if x < b then b - 1 else b)
    split <;> split <;> omega
  · intro z hz
    obtain ⟨y, hy, rfl⟩ := List.mem_map.mp hz
    obtain ⟨hy1, hy2⟩ := List.mem_filter.mp hy
    have ny : ¬ y = x := by simpa using hy2
    have := h.2 y hy1
    show 0 ≤ (if x < y then y - 1 else y) ∧ (if x < y then y - 1 else y) < n - 1
    split <;> omega
theorem v_without_thing (d : PyData) (ls : List (List Int)) (hd : items d = .ok (ls.map tu)) (x : Int) : m_without_thing [d, .int x] = .ok (tt (sortT (ls.map (gone x)))) := by
  show endR (g_without_thing [some (.d d), some (.d (.int x)), none]) = _
  simp [g_without_thing, hd, v_closed_up, v_leave_out, gone]
  rfl
def orAll (ls kept : List (List Int)) : List (List Int) := if kept.length = 0 then ls else kept
theorem v_without (n : Int) (ls : List (List Int)) (x : Int) : m_without [.tuple [.int n, tt ls], .int x] = .ok (.tuple [.int (n - 1), tt (sortT ((orAll ls (ls.filter fun l => !decide (x ∈ l))).map (gone x)))]) := by
  show endR (g_without [some (.d (.tuple [.int n, tt ls])), some (.d (.int x)), none, none, none, none]) = _
  by_cases h : (ls.filter fun l => !decide (x ∈ l)).length = 0
  · have e : orAll ls (ls.filter fun l => !decide (x ∈ l)) = ls := if_pos h
    rw [e]
    have w := v_without_thing (tt ls) ls (by simp) x
    have hk : ls.filter (fun l => !decide (x ∈ l)) = [] := List.length_eq_zero_iff.mp h
    have hk' : ∀ a ∈ ls, x ∈ a := by simpa using hk
    have hk2 : ¬ ∃ a, a ∈ ls ∧ ¬ x ∈ a := fun ⟨a, h1, h2⟩ => h2 (hk' a h1)
    simp [g_without, hk2, w]
  · have e : orAll ls (ls.filter fun l => !decide (x ∈ l)) = ls.filter fun l => !decide (x ∈ l) := if_neg h
    rw [e]
    have w := v_without_thing (lt (ls.filter fun l => !decide (x ∈ l))) _ (items_lt _) x
    have hk2 : ∃ a, a ∈ ls ∧ ¬ x ∈ a := by
      refine Classical.byContradiction fun hc => h ?_
      rw [List.length_eq_zero_iff, List.filter_eq_nil_iff]
      intro a ha
      simp
      exact Classical.byContradiction fun hn => hc ⟨a, ha, hn⟩
    simp [g_without, hk2, w]
theorem v_holding (n : Int) (ls : List (List Int)) (x : Int) : m_holding [.tuple [.int n, tt ls], .int x] = .ok (.tuple [.int (n - 1), tt (sortT ((orAll ls (ls.filter fun l => decide (x ∈ l))).map (gone x)))]) := by
  show endR (g_holding [some (.d (.tuple [.int n, tt ls])), some (.d (.int x)), none, none, none, none]) = _
  by_cases h : (ls.filter fun l => decide (x ∈ l)).length = 0
  · have e : orAll ls (ls.filter fun l => decide (x ∈ l)) = ls := if_pos h
    rw [e]
    have w := v_without_thing (tt ls) ls (by simp) x
    have hk : ls.filter (fun l => decide (x ∈ l)) = [] := List.length_eq_zero_iff.mp h
    have hk' : ∀ a ∈ ls, ¬ x ∈ a := by simpa using hk
    have hk2 : ¬ ∃ a, a ∈ ls ∧ x ∈ a := fun ⟨a, h1, h2⟩ => hk' a h1 h2
    simp [g_holding, hk2, w]
  · have e : orAll ls (ls.filter fun l => decide (x ∈ l)) = ls.filter fun l => decide (x ∈ l) := if_neg h
    rw [e]
    have w := v_without_thing (lt (ls.filter fun l => decide (x ∈ l))) _ (items_lt _) x
    have hk2 : ∃ a, a ∈ ls ∧ x ∈ a := by
      refine Classical.byContradiction fun hc => h ?_
      rw [List.length_eq_zero_iff, List.filter_eq_nil_iff]
      intro a ha
      simp
      exact fun hn => hc ⟨a, ha, hn⟩
    simp [g_holding, hk2, w]
end LW

set_option Elab.async false
set_option maxRecDepth 100000
set_option linter.all false
set_option maxHeartbeats 2000000
namespace LW
open PySem PySem.Spec PyProof.Rows L2 PD
theorem asc_ix {l : List Int} (h : l.Pairwise (· < ·)) {i j : Int} (h0 : 0 ≤ i) (h1 : i < j) (h2 : j < (l.length : Int)) : ixv l i < ixv l j := by
  have a : i.toNat < l.length := by omega
  have b : j.toNat < l.length := by omega
  unfold ixv
  rw [List.getElem?_eq_getElem a, List.getElem?_eq_getElem b]
  exact List.pairwise_iff_getElem.mp h i.toNat j.toNat a b (by omega)
theorem v_is_set (l : List Int) (n : Int) (h : Asc n l) (hl : l.length ≤ 1000) : m_law_is_set [tu l, .int n] = .ok (.bool true) := by
  show endR (g_law_is_set [some (.d (tu l)), some (.d (.int n)), none]) = _
  have key := forGo_inv (i := 2) (g := b_law_is_set_1) (enc := PyData.int) (fun xs ρ => ∃ o2, ρ = [some (.d (tu l)), some (.d (.int n)), o2] ∧ ∀ k ∈ xs, 0 ≤ k ∧ k < (l.length : Int)) (by
    rintro k xs ρ ⟨o2, rfl, hk⟩
    obtain ⟨k0, k1⟩ := hk k List.mem_cons_self
    refine ⟨[some (.d (tu l)), some (.d (.int n)), some (.d (.int k))], ?_, _, rfl, fun y hy => hk y (List.mem_cons_of_mem _ hy)⟩
    have e := ix_tu (L := l) k0 k1
    have m := h.2 _ (ixv_mem k0 k1)
    have a1 : ¬ ixv l k < 0 := by omega
    have a2 : ¬ n ≤ ixv l k := by omega
    by_cases hp : 0 < k
    · have e2 := ix_tu (L := l) (i := k - 1) (by omega) (by omega)
      have a3 := asc_ix h.1 (i := k - 1) (j := k) (by omega) (by omega) k1
      have a4 : ¬ ixv l k ≤ ixv l (k - 1) := by omega
      simp [b_law_is_set_1, e, v_integer, a1, a2, hp, e2, a4]
    · simp [b_law_is_set_1, e, v_integer, a1, a2, hp])
  obtain ⟨ρ', e, o2, rfl, _⟩ := key (rangeI 0 l.length) [some (.d (tu l)), some (.d (.int n)), none] ⟨none, rfl, fun k hk => mem_rangeI.mp hk⟩
  simp [g_law_is_set, isi_tu, rngA1_ok (n := (l.length : Int)) (by omega) (by omega), e]
theorem orAll_sub {ls kept : List (List Int)} (h : ∀ l ∈ kept, l ∈ ls) {l : List Int} (hl : l ∈ orAll ls kept) : l ∈ ls := by
  unfold orAll at hl
  split at hl
  · exact hl
  · exact h l hl
theorem asc_rest (n : Int) (p : Int → Bool) : Asc n ((rangeI 0 n).filter p) := ⟨(rangeI_asc 0 n).filter p, fun x hx => mem_rangeI.mp (List.mem_filter.mp hx).1⟩
theorem v_smooth_lots (c n : Int) (h0 : 0 ≤ n) (h1 : n ≤ 12) : ∃ ks : List (List Int), m_law_smooth_lots [.int c, .int n] = .ok (tt ks) ∧ ∀ k ∈ ks, Asc n k := by
  show ∃ ks : List (List Int), endR (g_law_smooth_lots [some (.d (.int c)), some (.d (.int n)), none, none, none, none, none, none, none, none, none]) = _ ∧ _
  obtain ⟨L, e1, hL, bL⟩ := v_draws c (3 + n) (by omega) (by omega)
  have hLn : (L.length : Int) = 3 + n := by rw [hL]; omega
  obtain ⟨rows, e2, hr, hz⟩ := v_parts n h0 h1
  have e30 := ix_li (L := L) (i := 0) (by decide) (by omega)
  have e31 := ix_li (L := L) (i := 1) (by decide) (by omega)
  have e32 := ix_li (L := L) (i := 2) (by decide) (by omega)
  generalize hcl : (rangeI 0 n).map (fun k => (ixv L (3 + k)).fmod 3) = cl
  have lcl : (cl.length : Int) = n := by rw [← hcl, List.length_map, rangeI_len]; omega
  generalize hb0 : 1 + (ixv L 1).fmod 2 = B0
  generalize hb1 : 1 + ((ixv L 1).fdiv 2).fmod 2 = B1
  generalize hb2 : ((ixv L 1).fdiv 4).fmod 3 = B2
  have er := rngA1_ok (n := n) (by omega) (by omega)
  have er3 := rngA1_ok (n := 3) (by decide) (by decide)
  let fit : List Int → Bool := fun row => (rangeI 0 3).all fun k => decide (((row.filter fun x => ixv cl x == k).length : Int) ≤ ixv [B0, B1, B2] k)
  have key := forGo_inv (i := 6) (g := b_law_smooth_lots_1) (enc := tu) (fun xs ρ => ∃ (kept : List (List Int)) (o6 : Option Sl), ρ = [some (.d (.int c)), some (.d (.int n)), some (.d (li L)), some (.d (li cl)), some (.d (li [B0, B1, B2])), some (.own (kept.map tu)), o6, none, none, none, none] ∧
      (∀ x ∈ xs, Asc n x) ∧ kept.length + xs.length ≤ 4096 ∧ (∀ x ∈ kept, Asc n x) ∧ ∀ r, Asc n r → fit r = true → r ∈ kept ∨ r ∈ xs) (by
    rintro x xs ρ ⟨kept, o6, rfl, hx, hl, hk, hf⟩
    have hl' : kept.length + (xs.length + 1) ≤ 4096 := by simpa using hl
    have hs : kept.length < sizeLine := line_lt (by omega)
    have hxa := hx x List.mem_cons_self
    have et : lcR (fun _ => R.ok true) (fun k : Int => m_law_count [tu x, li cl, .int k] >>= fun a => oIx (li [B0, B1, B2]) (.int k) >>= fun b => oLe a b) (rangeI 0 3) = .ok ((rangeI 0 3).map fun k => PyData.bool (decide (((x.filter fun y => ixv cl y == k).length : Int) ≤ ixv [B0, B1, B2] k))) := lcR_mem fun k hk => by
      obtain ⟨k1, k2⟩ := mem_rangeI.mp hk
      simp [v_count x cl k (fun y hy => by have := hxa.2 y hy; omega), ix_li (L := [B0, B1, B2]) (i := k) k1 (by simpa using k2)]
    by_cases hb : fit x = true
    · refine ⟨[some (.d (.int c)), some (.d (.int n)), some (.d (li L)), some (.d (li cl)), some (.d (li [B0, B1, B2])), some (.own ((kept ++ [x]).map tu)), some (.d (tu x)), none, none, none, none], ?_, kept ++ [x], _, rfl, fun y hy => hx y (List.mem_cons_of_mem _ hy), by simp; omega, fun y hy => ?_, fun r ha hr => ?_⟩
      · have hb' : ∀ k ∈ rangeI 0 3, ((x.filter fun y => ixv cl y == k).length : Int) ≤ ixv [B0, B1, B2] k := by simpa [fit] using hb
        simp [b_law_smooth_lots_1, er3, et, hs]
        exact hb'
      · rcases List.mem_append.mp hy with hy | hy
        · exact hk y hy
        · rw [List.mem_singleton.mp hy]; exact hxa
      · rcases hf r ha hr with h | h
        · exact .inl (List.mem_append_left _ h)
        · rcases List.mem_cons.mp h with rfl | h
          · exact .inl (by simp)
          · exact .inr h
    · refine ⟨[some (.d (.int c)), some (.d (.int n)), some (.d (li L)), some (.d (li cl)), some (.d (li [B0, B1, B2])), some (.own (kept.map tu)), some (.d (tu x)), none, none, none, none], ?_, kept, _, rfl, fun y hy => hx y (List.mem_cons_of_mem _ hy), by omega, hk, fun r ha hr => ?_⟩
      rotate_left
      · rcases hf r ha hr with h | h
        · exact .inl h
        · rcases List.mem_cons.mp h with rfl | h
          · exact absurd hr hb
          · exact .inr h
      have hb' : ¬ ∀ k ∈ rangeI 0 3, ((x.filter fun y => ixv cl y == k).length : Int) ≤ ixv [B0, B1, B2] k := fun h => hb (by simpa [fit] using h)
      simp [b_law_smooth_lots_1, er3, et, hs]
      refine Classical.byContradiction fun hc => hb' fun k hk2 => ?_
      exact Classical.byContradiction fun hn => hc ⟨k, hk2, by omega⟩)
  obtain ⟨ρ', e, kept, o6, rfl, _, hl, hk, hf⟩ := key rows [some (.d (.int c)), some (.d (.int n)), some (.d (li L)), some (.d (li cl)), some (.d (li [B0, B1, B2])), some (.own []), none, none, none, none, none]
    ⟨[], none, rfl, fun x hx => (hr x).mp hx, by simpa using hz, by simp, fun r ha _ => .inr ((hr r).mpr ha)⟩
  have hB0 : 0 ≤ B0 := by have := fmod_lo (ixv L 1) (b := 2) (by decide); omega
  have hB1 : 0 ≤ B1 := by have := fmod_lo ((ixv L 1).fdiv 2) (b := 2) (by decide); omega
  have hB2 : 0 ≤ B2 := by have := fmod_lo ((ixv L 1).fdiv 4) (b := 3) (by decide); omega
  have fit0 : fit [] = true := by
    show ((rangeI 0 3).all fun k => decide (((([] : List Int).filter fun x => ixv cl x == k).length : Int) ≤ ixv [B0, B1, B2] k)) = true
    rw [List.all_eq_true]
    intro k hk2
    obtain ⟨k1, k2⟩ := mem_rangeI.mp hk2
    have this : ixv [B0, B1, B2] k ∈ [B0, B1, B2] := ixv_mem k1 (by simpa using k2)
    simp only [List.mem_cons, List.not_mem_nil, or_false] at this
    refine decide_eq_true ?_
    show (0 : Int) ≤ _
    rcases this with h | h | h <;> omega
  have hne : kept ≠ [] := fun z => by
    rcases hf [] (Asc.nil n) fit0 with h | h
    · rw [z] at h; cases h
    · cases h
  have hmx := bMax_li (l := kept.map fun r => (r.length : Int)) (by simpa using hne)
  generalize hM : maxI (kept.map fun r => (r.length : Int)) = M at hmx
  have f8a := fmod_lo (ixv L 0) (b := 8) (by decide)
  have f8b := fmod_hi (ixv L 0) (b := 8) (by decide)
  have e8 := ix_tu (L := [2, 1, 2, 3, 2, 1, 3, 0]) (i := (ixv L 0).fmod 8) f8a (by simpa using f8b)
  generalize ixv [2, 1, 2, 3, 2, 1, 3, 0] ((ixv L 0).fmod 8) = T at e8
  generalize hC : (if T < M then T else M) = C
  have hrest : ∀ ls : List (List Int), lcR (fun _ => R.ok true) (fun l => m_law_rest [tu l, .int n]) ls = .ok (ls.map fun l => tu ((rangeI 0 n).filter fun x => !decide (x ∈ l))) := fun ls => lcR_mem fun l _ => v_rest l n h0 (by omega)
  by_cases h3 : (ixv L 2).fmod 3 = 1
  · refine ⟨sortT ((kept.filter fun r => (r.length : Int) == C).map fun l => (rangeI 0 n).filter fun x => !decide (x ∈ l)), ?_, fun k hk2 => ?_⟩
    · simp [g_law_smooth_lots, e1, er]
      rw [lcR_mem (g := fun k => PyData.int ((ixv L (3 + k)).fmod 3))]
      · simp [e2, e30, e31, e32, hcl, oMod_int, oDiv_lit, hb0, hb1, hb2, e, hmx, e8, hC, h3, hrest]
      · intro k hk3
        obtain ⟨k1, k2⟩ := mem_rangeI.mp hk3
        simp [ix_li (L := L) (i := 3 + k) (by omega) (by omega), oMod_int]
    · obtain ⟨l, _, rfl⟩ := List.mem_map.mp (mem_sortT.mp hk2)
      exact asc_rest n _
  · refine ⟨kept.filter fun r => (r.length : Int) == C, ?_, fun k hk2 => hk k (List.mem_filter.mp hk2).1⟩
    simp [g_law_smooth_lots, e1, er]
    rw [lcR_mem (g := fun k => PyData.int ((ixv L (3 + k)).fmod 3))]
    · simp [e2, e30, e31, e32, hcl, oMod_int, oDiv_lit, hb0, hb1, hb2, e, hmx, e8, hC, h3, hrest]
    · intro k hk3
      obtain ⟨k1, k2⟩ := mem_rangeI.mp hk3
      simp [ix_li (L := L) (i := 3 + k) (by omega) (by omega), oMod_int]
theorem v_lots (c n : Int) (h0 : 0 ≤ n) (h1 : n ≤ 12) : ∃ ks : List (List Int), m_law_lots [.int c, .int n] = .ok (tt ks) ∧ ∀ k ∈ ks, Asc n k := by
  show ∃ ks : List (List Int), endR (g_law_lots [some (.d (.int c)), some (.d (.int n))]) = _ ∧ _
  obtain ⟨L, e1, hL, bL⟩ := v_draws c 3 (by decide) (by decide)
  have hL3 : L.length = 3 := hL
  have e32 := ix_li (L := L) (i := 2) (by decide) (by omega)
  by_cases h : ((ixv L 2).fdiv 3).fmod 2 = 0
  · obtain ⟨ks, e, hk⟩ := v_smooth_lots c n h0 h1
    refine ⟨ks, ?_, hk⟩
    simp [g_law_lots, e1, e32, oDiv_lit, oMod_int, h, e]
  · obtain ⟨ks, e, hk⟩ := v_any_lots c n h0 h1
    refine ⟨ks, ?_, hk⟩
    simp [g_law_lots, e1, e32, oDiv_lit, oMod_int, h, e]
end LW

set_option Elab.async false
set_option maxRecDepth 100000
set_option linter.all false
set_option maxHeartbeats 2000000
namespace LW
open PySem PySem.Spec PyProof.Rows L2 PD
def exch (l : List Int) (x t : Int) : List Int := sortI (l.filter (fun y => !(y == x)) ++ [t])
theorem v_law_exch (l : List Int) (x t : Int) (h : l.length ≤ 1000) : m_law_exchanged [tu l, .int x, .int t] = .ok (tu (exch l x t)) := by
  show endR (g_law_exchanged [some (.d (tu l)), some (.d (.int x)), some (.d (.int t)), none]) = _
  have hl := List.length_filter_le (fun y => !(y == x)) l
  have e1 : PyData.list [.int t] = li [t] := rfl
  have e2 := oAdd_li (a := l.filter (fun y => !(y == x))) (b := [t]) (by simp; omega)
  simp [g_law_exchanged, e1, e2, exch]
theorem v_put_in (l : List Int) (t : Int) (h : l.length ≤ 1000) : m_put_in [tu l, .int t] = .ok (tu (sortI (l ++ [t]))) := by
  show endR (g_put_in [some (.d (tu l)), some (.d (.int t))]) = _
  have e2 := oAdd_tu (a := l) (b := [t]) (by simp; omega)
  simp [g_put_in, e2]
theorem v_exchange (l : List Int) (x t : Int) (h : l.length ≤ 1000) : m_exchange [tu l, .int x, .int t] = .ok (tu (exch l x t)) := by
  show endR (g_exchange [some (.d (tu l)), some (.d (.int x)), some (.d (.int t))]) = _
  have hl := List.length_filter_le (fun y => !(y == x)) l
  simp [g_exchange, v_leave_out, v_put_in (l.filter fun y => !(y == x)) t (by omega), exch]
theorem bTupR1_ok {n : Int} (h : rgOk 0 n = true) : bTupR1 (.int n) = .ok (tu (rangeI 0 n)) := by
  have e1 : bLstR1 (.int n) = .ok (.list (lstRg 0 n)) := if_pos h
  have e2 : bTupR1 (.int n) = .ok (.tuple (lstRg 0 n)) := if_pos h
  have e := bLstR1_ok h
  rw [e1] at e
  unfold li at e
  injection e with e
  injection e with e
  rw [e2, e]
  rfl
theorem v_difference (a b : List Int) : m_difference [tu a, tu b] = .ok (tu (a.filter fun x => !decide (x ∈ b))) := by
  show endR (g_difference [some (.d (tu a)), some (.d (tu b)), none]) = _
  simp [g_difference]
theorem v_missing (n : Int) (l : List Int) (h0 : 0 ≤ n) (h1 : n ≤ 1000) : m_things_missing [.int n, tu l] = .ok (tu ((rangeI 0 n).filter fun x => !decide (x ∈ l))) := by
  show endR (g_things_missing [some (.d (.int n)), some (.d (tu l))]) = _
  simp [g_things_missing, bTupR1_ok (rgOk_small (show -1000 ≤ n by omega) (show n ≤ 100000 by omega)), v_difference]
/-- the keys of the dict of the lots -/
def known (ls : List (List Int)) : List (List Int) := (ls.map fun l => l).foldl insK []
theorem mem_known {ls : List (List Int)} {k : List Int} : k ∈ known ls ↔ k ∈ ls := by
  unfold known
  rw [mem_foldK]; simp
theorem v_known (n : Int) (ls : List (List Int)) : m_known_lots [.tuple [.int n, tt ls]] = .ok (.dict ((known ls).map keyD)) := by
  show endR (g_known_lots [some (.d (.tuple [.int n, tt ls])), none]) = _
  have e : dDc (dItems (dTwo oIx (dVar 0) (dC (.int 1)))) (.nm 1) dYes (dVar 1) [1] [some (.d (.tuple [.int n, tt ls])), none] = .ok (.dict ((known ls).map keyD)) := by
    show (nx (dcGo (.nm 1) dYes (dVar 1) _ (ls.map tu) []) fun ks => R.ok (PyData.dict (ks.map keyD))) = _
    rw [dcGo_all (kf := fun l => l) (fun l hl => by simp)]
    rfl
  simp [g_known_lots, e]
def part (n : Int) (ls : List (List Int)) (l : List Int) (x : Int) : List Int := ((rangeI 0 n).filter fun t => !decide (t ∈ l)).filter fun t => decide (exch l x t ∈ ls)
theorem v_repl (n : Int) (ls ks : List (List Int)) (l : List Int) (x : Int) (h0 : 0 ≤ n) (h1 : n ≤ 1000) (hl : l.length ≤ 1000) (hk : ∀ k, k ∈ ks ↔ k ∈ ls) : m_replacements [.tuple [.int n, tt ls], .dict (ks.map keyD), tu l, .int x] = .ok (li (part n ls l x)) := by
  show endR (g_replacements [some (.d (.tuple [.int n, tt ls])), some (.d (.dict (ks.map keyD))), some (.d (tu l)), some (.d (.int x)), none, none]) = _
  have e : ∀ t : Int, decide (exch l x t ∈ ks) = decide (exch l x t ∈ ls) := fun t => decide_eq_decide.mpr (hk _)
  simp [g_replacements, v_missing n l h0 h1, v_exchange l x _ hl, e, part]
theorem anyR_ok {α : Type} (p : α → Bool) (xs : List α) : anyR true (fun x => .ok (.bool (p x))) xs = .ok (xs.any p) := anyR_of fun _ _ => rfl
def Bad (ls : List (List Int)) (l : List Int) (x : Int) (o : List Int) : Prop := ¬ x ∈ o ∧ ∀ t, t ∈ o → ¬ t ∈ l → ¬ exch l x t ∈ ls
instance (ls : List (List Int)) (l : List Int) (x : Int) (o : List Int) : Decidable (Bad ls l x o) := by unfold Bad; infer_instance
def trip (l : List Int) (x : Int) (o : List Int) : PyData := .tuple [tu l, .int x, tu o]
def findO (ls : List (List Int)) (l : List Int) (x : Int) (o : List Int) : Option PyData := if Bad ls l x o then some (trip l x o) else none
def findX (ls : List (List Int)) (l : List Int) (x : Int) : Option PyData := ls.findSome? (findO ls l x)
def findL (ls : List (List Int)) (l : List Int) : Option PyData := l.findSome? (findX ls l)
def faultD (ls : List (List Int)) : PyData := (ls.findSome? (findL ls)).getD .none
theorem v_law_fault (ls : List (List Int)) (h : ∀ l ∈ ls, l.length ≤ 1000) : m_law_fault [tt ls] = .ok (faultD ls) := by
  show endR (g_law_fault [some (.d (tt ls)), none, none, none, none, none]) = _
  have k3 := forGo_find (i := 1) (g := b_law_fault_3) (enc := tu) (fun ρ => ∃ o1 o2 o3 o4, ρ = [some (.d (tt ls)), o1, o2, o3, o4, none]) (findL ls) (xs := ls) (by
    rintro l hl ρ ⟨o1, o2, o3, o4, rfl⟩
    have k2 := forGo_find (i := 2) (g := b_law_fault_2) (enc := PyData.int) (fun ρ => ∃ o2 o3 o4, ρ = [some (.d (tt ls)), some (.d (tu l)), o2, o3, o4, none]) (findX ls l) (xs := l) (by
      rintro x hx ρ ⟨o2, o3, o4, rfl⟩
      have k1 := forGo_find (i := 3) (g := b_law_fault_1) (enc := tu) (fun ρ => ∃ o3 o4, ρ = [some (.d (tt ls)), some (.d (tu l)), some (.d (.int x)), o3, o4, none]) (findO ls l x) (xs := ls) (by
        rintro o ho ρ ⟨o3, o4, rfl⟩
        have ee := fun t => v_law_exch l x t (h l hl)
        unfold findO
        by_cases hb : Bad ls l x o
        · simp only [hb, if_true]
          obtain ⟨h1, h2⟩ := hb
          simp [b_law_fault_1, h1, ee, trip]
          exact h2
        · simp only [hb, if_false]
          by_cases hx : x ∈ o
          · exact ⟨[some (.d (tt ls)), some (.d (tu l)), some (.d (.int x)), some (.d (tu o)), o4, none], by simp [b_law_fault_1, hx], _, _, rfl⟩
          · have h2 : ¬ ∀ t, t ∈ o → ¬ t ∈ l → ¬ exch l x t ∈ ls := fun z => hb ⟨hx, z⟩
            refine ⟨[some (.d (tt ls)), some (.d (tu l)), some (.d (.int x)), some (.d (tu o)), some (.d (li (o.filter fun t => !decide (t ∈ l)))), none], ?_, _, _, rfl⟩
            simp [b_law_fault_1, hx, ee, h2])
      have r := k1 [some (.d (tt ls)), some (.d (tu l)), some (.d (.int x)), o3, o4, none] ⟨o3, o4, rfl⟩
      unfold findX
      cases e : ls.findSome? (findO ls l x) with
      | some d => rw [e] at r; simp only; simp [b_law_fault_2]; exact r
      | none =>
        rw [e] at r
        obtain ⟨ρ', r1, o3', o4', rfl⟩ := r
        refine ⟨[some (.d (tt ls)), some (.d (tu l)), some (.d (.int x)), o3', o4', none], ?_, _, _, _, rfl⟩
        simp [b_law_fault_2]; exact r1)
    have r := k2 [some (.d (tt ls)), some (.d (tu l)), o2, o3, o4, none] ⟨o2, o3, o4, rfl⟩
    unfold findL
    cases e : l.findSome? (findX ls l) with
    | some d => rw [e] at r; simp only; simp [b_law_fault_3]; exact r
    | none =>
      rw [e] at r
      obtain ⟨ρ', r1, o2', o3', o4', rfl⟩ := r
      refine ⟨[some (.d (tt ls)), some (.d (tu l)), o2', o3', o4', none], ?_, _, _, _, _, rfl⟩
      simp [b_law_fault_3]; exact r1)
  have r := k3 [some (.d (tt ls)), none, none, none, none, none] ⟨none, none, none, none, rfl⟩
  unfold faultD
  cases e : ls.findSome? (findL ls) with
  | some d => rw [e] at r; simp [g_law_fault]; rw [r]; rfl
  | none =>
    rw [e] at r
    obtain ⟨ρ', r1, o1, o2, o3, o4, rfl⟩ := r
    simp [g_law_fault]; rw [r1]; rfl
theorem part_iff {n : Int} {ls : List (List Int)} {l o : List Int} {x : Int} (ho : Asc n o) : (¬ ∃ t, t ∈ o ∧ t ∈ part n ls l x) ↔ ∀ t, t ∈ o → ¬ t ∈ l → ¬ exch l x t ∈ ls := by
  have m : ∀ t, t ∈ o → (t ∈ part n ls l x ↔ ¬ t ∈ l ∧ exch l x t ∈ ls) := fun t ht => by
    unfold part
    rw [List.mem_filter, List.mem_filter, mem_rangeI]
    have := ho.2 t ht
    constructor
    · rintro ⟨⟨_, a⟩, b⟩
      exact ⟨by simpa using a, by simpa using b⟩
    · rintro ⟨a, b⟩
      exact ⟨⟨by omega, by simpa using a⟩, by simpa using b⟩
  constructor
  · intro h t ht hl he
    exact h ⟨t, ht, (m t ht).mpr ⟨hl, he⟩⟩
  · rintro h ⟨t, ht, hp⟩
    obtain ⟨a, b⟩ := (m t ht).mp hp
    exact h t ht a b
theorem v_first_fault (n : Int) (ls : List (List Int)) (h0 : 0 ≤ n) (h1 : n ≤ 1000) (h : ∀ l ∈ ls, Asc n l) : m_first_fault [.tuple [.int n, tt ls]] = .ok (faultD ls) := by
  show endR (g_first_fault [some (.d (.tuple [.int n, tt ls])), none, none, none, none, none, none, none]) = _
  generalize hO : PyData.tuple [.int n, tt ls] = O
  have ep : ∀ l ∈ ls, ∀ x : Int, m_replacements [O, .dict ((known ls).map keyD), tu l, .int x] = .ok (li (part n ls l x)) := fun l hl x => by
    rw [← hO]
    exact v_repl n ls (known ls) l x h0 h1 (by have := (h l hl).len; omega) fun k => mem_known
  have eD : m_known_lots [O] = .ok (.dict ((known ls).map keyD)) := by
    rw [← hO]
    exact v_known n ls
  generalize hD : PyData.dict ((known ls).map keyD) = D at ep eD
  have k3 := forGo_find (i := 3) (g := b_first_fault_3) (enc := tu) (fun ρ => ∃ o3 o4 o5 o6, ρ = [some (.d O), some (.d (tt ls)), some (.d D), o3, o4, o5, o6, none]) (findL ls) (xs := ls) (by
    rintro l hl ρ ⟨o3, o4, o5, o6, rfl⟩
    have k2 := forGo_find (i := 4) (g := b_first_fault_2) (enc := PyData.int) (fun ρ => ∃ o4 o5 o6, ρ = [some (.d O), some (.d (tt ls)), some (.d D), some (.d (tu l)), o4, o5, o6, none]) (findX ls l) (xs := l) (by
      rintro x hx ρ ⟨o4, o5, o6, rfl⟩
      have k1 := forGo_find (i := 6) (g := b_first_fault_1) (enc := tu) (fun ρ => ∃ o6, ρ = [some (.d O), some (.d (tt ls)), some (.d D), some (.d (tu l)), some (.d (.int x)), some (.d (li (part n ls l x))), o6, none]) (findO ls l x) (xs := ls) (by
        rintro o ho ρ ⟨o6, rfl⟩
        have pi := part_iff (ls := ls) (l := l) (x := x) (h o ho)
        unfold findO
        by_cases hb : Bad ls l x o
        · simp only [hb, if_true]
          obtain ⟨h1, h2⟩ := hb
          have h3 := pi.mpr h2
          have h4 : ∀ t, t ∈ o → ¬ t ∈ part n ls l x := fun t a b => h3 ⟨t, a, b⟩
          simp [b_first_fault_1, h1, anyR_map, anyR_ok, trip]
          exact h4
        · simp only [hb, if_false]
          refine ⟨[some (.d O), some (.d (tt ls)), some (.d D), some (.d (tu l)), some (.d (.int x)), some (.d (li (part n ls l x))), some (.d (tu o)), none], ?_, _, rfl⟩
          by_cases hx : x ∈ o
          · simp [b_first_fault_1, hx]
          · have h3 : ∃ t, t ∈ o ∧ t ∈ part n ls l x := Classical.byContradiction fun z => hb ⟨hx, pi.mp z⟩
            have h4 : ¬ ∀ t, t ∈ o → ¬ t ∈ part n ls l x := fun z => let ⟨t, a, b⟩ := h3; z t a b
            simp [b_first_fault_1, hx, anyR_map, anyR_ok, h3, h4])
      have r := k1 [some (.d O), some (.d (tt ls)), some (.d D), some (.d (tu l)), some (.d (.int x)), some (.d (li (part n ls l x))), o6, none] ⟨o6, rfl⟩
      unfold findX
      cases e : ls.findSome? (findO ls l x) with
      | some d => rw [e] at r; simp only; simp [b_first_fault_2, ep l hl]; exact r
      | none =>
        rw [e] at r
        obtain ⟨ρ', r1, o6', rfl⟩ := r
        refine ⟨[some (.d O), some (.d (tt ls)), some (.d D), some (.d (tu l)), some (.d (.int x)), some (.d (li (part n ls l x))), o6', none], ?_, _, _, _, rfl⟩
        simp [b_first_fault_2, ep l hl]; exact r1)
    have r := k2 [some (.d O), some (.d (tt ls)), some (.d D), some (.d (tu l)), o4, o5, o6, none] ⟨o4, o5, o6, rfl⟩
    unfold findL
    cases e : l.findSome? (findX ls l) with
    | some d => rw [e] at r; simp only; simp [b_first_fault_3]; exact r
    | none =>
      rw [e] at r
      obtain ⟨ρ', r1, o4', o5', o6', rfl⟩ := r
      refine ⟨[some (.d O), some (.d (tt ls)), some (.d D), some (.d (tu l)), o4', o5', o6', none], ?_, _, _, _, _, rfl⟩
      simp [b_first_fault_3]; exact r1)
  have r := k3 [some (.d O), some (.d (tt ls)), some (.d D), none, none, none, none, none] ⟨none, none, none, none, rfl⟩
  have e0 : oIx O (.int 1) = .ok (tt ls) := by rw [← hO]; rfl
  unfold faultD
  cases e : ls.findSome? (findL ls) with
  | some d => rw [e] at r; simp [g_first_fault, e0, eD]; rw [r]; rfl
  | none =>
    rw [e] at r
    obtain ⟨ρ', r1, o3, o4, o5, o6, rfl⟩ := r
    simp [g_first_fault, e0, eD]; rw [r1]; rfl
theorem faultD_is (ls : List (List Int)) : faultD ls = .none ∨ ∃ l x o, l ∈ ls ∧ o ∈ ls ∧ faultD ls = trip l x o := by
  unfold faultD
  cases e : ls.findSome? (findL ls) with
  | none => exact .inl rfl
  | some d =>
    refine .inr ?_
    obtain ⟨l, hl, e1⟩ := List.exists_of_findSome?_eq_some e
    obtain ⟨x, hx, e2⟩ := List.exists_of_findSome?_eq_some e1
    obtain ⟨o, ho, e3⟩ := List.exists_of_findSome?_eq_some e2
    unfold findO at e3
    split at e3
    · cases e3
      exact ⟨l, x, o, hl, ho, rfl⟩
    · cases e3
theorem v_is_smooth (n : Int) (ls : List (List Int)) (h0 : 0 ≤ n) (h1 : n ≤ 1000) (h : ∀ l ∈ ls, Asc n l) : m_is_smooth [.tuple [.int n, tt ls]] = .ok (.bool (isNone (faultD ls))) := by
  show endR (g_is_smooth [some (.d (.tuple [.int n, tt ls]))]) = _
  simp [g_is_smooth, v_first_fault n ls h0 h1 h]
end LW

set_option Elab.async false
set_option maxRecDepth 100000
set_option linter.all false
set_option maxHeartbeats 2000000
namespace LW
open PySem PySem.Spec PyProof.Rows L2 PD
theorem ix_tt {L : List (List Int)} {i : Int} (h0 : 0 ≤ i) (h1 : i < (L.length : Int)) : oIx (tt L) (.int i) = .ok (tu (ixr L i)) := ix_lt (L := L) h0 h1
theorem asd_ix {ls : List (List Int)} (h : Asd ls) {i j : Int} (h0 : 0 ≤ i) (h1 : i < j) (h2 : j < (ls.length : Int)) : HT.lexLt (ixr ls i) (ixr ls j) = true := by
  have a : i.toNat < ls.length := by omega
  have b : j.toNat < ls.length := by omega
  unfold ixr
  rw [List.getElem?_eq_getElem a, List.getElem?_eq_getElem b]
  exact (List.pairwise_iff_getElem.mp h) _ _ a b (by omega)
theorem oLeT_tus (k l : List Int) : oLeT (tu k) (tu l) = .ok (.bool (leT k l)) := oLeT_tu k l
theorem bLen_tt (ls : List (List Int)) : bLen [tt ls] = .ok (.int ls.length) := by
  show R.ok (PyData.int ((ls.map tu).length : Int)) = _
  rw [List.length_map]
theorem v_is_some_offer (n : Int) (ls : List (List Int)) (h : ∀ l ∈ ls, Asc n l) (hn : n ≤ 1000) (ha : Asd ls) (hne : ls ≠ []) (hz : ls.length ≤ 1000) : m_law_is_some_offer [.tuple [.int n, tt ls], .int n] = .ok (.bool true) := by
  show endR (g_law_is_some_offer [some (.d (.tuple [.int n, tt ls])), some (.d (.int n)), none]) = _
  have j1 : oIx (.tuple [.int n, tt ls]) (.int 1) = .ok (tt ls) := rfl
  have j0 : oIx (.tuple [.int n, tt ls]) (.int 0) = .ok (.int n) := rfl
  have key := forGo_inv (i := 2) (g := b_law_is_some_offer_1) (enc := PyData.int) (fun xs ρ => ∃ o2, ρ = [some (.d (.tuple [.int n, tt ls])), some (.d (.int n)), o2] ∧ ∀ k ∈ xs, 0 ≤ k ∧ k < (ls.length : Int)) (by
    rintro k xs ρ ⟨o2, rfl, hk⟩
    obtain ⟨k0, k1⟩ := hk k List.mem_cons_self
    refine ⟨[some (.d (.tuple [.int n, tt ls])), some (.d (.int n)), some (.d (.int k))], ?_, _, rfl, fun y hy => hk y (List.mem_cons_of_mem _ hy)⟩
    have e := ix_tt (L := ls) k0 k1
    have m := h _ (ixr_mem k0 k1)
    have s := v_is_set _ n m (by have := m.len; omega)
    by_cases hp : 0 < k
    · have e2 := ix_tt (L := ls) (i := k - 1) (by omega) (by omega)
      have a3 := asd_ix ha (i := k - 1) (j := k) (by omega) (by omega) k1
      have a4 : leT (ixr ls k) (ixr ls (k - 1)) = false := by unfold leT; rw [a3]; rfl
      simp [b_law_is_some_offer_1, j1, e, s, hp, e2, oLeT_tus, a4]
    · simp [b_law_is_some_offer_1, j1, e, s, hp])
  obtain ⟨ρ', e, o2, rfl, _⟩ := key (rangeI 0 ls.length) [some (.d (.tuple [.int n, tt ls])), some (.d (.int n)), none] ⟨none, rfl, fun k hk => mem_rangeI.mp hk⟩
  have b2 : bLen [.tuple [.int n, tt ls]] = .ok (.int 2) := rfl
  have hl : ls.length ≠ 0 := fun z => hne (List.eq_nil_of_length_eq_zero z)
  simp [g_law_is_some_offer, isi_tuple, isi_tt, b2, j0, j1, bLen_tt, v_integer, hne, hl, rngA1_ok (n := (ls.length : Int)) (by omega) (by omega), e]
/-- what a lot does not have -/
def rest (n : Int) (l : List Int) : List Int := (rangeI 0 n).filter fun x => !decide (x ∈ l)
theorem v_opposite (n : Int) (ls : List (List Int)) (h0 : 0 ≤ n) (h1 : n ≤ 1000) : m_opposite [.tuple [.int n, tt ls]] = .ok (.tuple [.int n, tt (sortT (ls.map (rest n)))]) := by
  show endR (g_opposite [some (.d (.tuple [.int n, tt ls])), none, none, none]) = _
  have e : lcR (fun _ => .ok true) (fun l => m_things_missing [.int n, tu l]) ls = .ok (ls.map fun l => tu (rest n l)) := lcR_mem fun l _ => v_missing n l h0 h1
  simp [g_opposite, e]
def opened (g : Int) (l : List Int) : List Int := l.filter (fun x => decide (x < g)) ++ (l.filter fun x => decide (g ≤ x)).map (· + 1)
theorem v_opened (g : Int) (l : List Int) (hl : l.length ≤ 1000) : m_law_opened [tu l, .int g] = .ok (tu (opened g l)) := by
  show endR (g_law_opened [some (.d (tu l)), some (.d (.int g)), none]) = _
  have a : (l.filter fun x => decide (x < g)).length ≤ l.length := List.length_filter_le _ _
  have b : (l.filter fun x => decide (g ≤ x)).length ≤ l.length := List.length_filter_le _ _
  have c := oAdd_li (a := l.filter fun x => decide (x < g)) (b := (l.filter fun x => decide (g ≤ x)).map (· + 1)) (by rw [List.length_map]; omega)
  simp [g_law_opened, opened, c]
def rank (A : List Int) (ls : List (List Int)) : Int := maxI (ls.map fun l => ((l.filter fun x => decide (x ∈ A)).length : Int))
theorem v_rank (A : List Int) (ls : List (List Int)) (hne : ls ≠ []) : m_law_rank [tu A, tt ls] = .ok (.int (rank A ls)) := by
  show endR (g_law_rank [some (.d (tu A)), some (.d (tt ls)), none, none]) = _
  have hb := bMax_li (l := ls.map fun l => ((l.filter fun x => decide (x ∈ A)).length : Int)) (by simpa using hne)
  simp [g_law_rank, rank, hb]
end LW

set_option Elab.async false
set_option maxRecDepth 100000
set_option linter.all false
set_option maxHeartbeats 2000000
namespace LW
open PySem PySem.Spec PyProof.Rows L2 PD
theorem asc_sub : ∀ {x o : List Int}, x.Pairwise (· < ·) → o.Pairwise (· < ·) → (∀ y ∈ x, y ∈ o) → x.Sublist o
  | [], o, _, _, _ => List.nil_sublist o
  | a :: x, [], _, _, h => absurd (h a List.mem_cons_self) (by simp)
  | a :: x, b :: o, hx, ho, h => by
    obtain ⟨x1, x2⟩ := List.pairwise_cons.mp hx
    obtain ⟨o1, o2⟩ := List.pairwise_cons.mp ho
    by_cases e : a = b
    · subst e
      refine (asc_sub x2 o2 fun y hy => ?_).cons_cons a
      rcases List.mem_cons.mp (h y (List.mem_cons_of_mem _ hy)) with z | z
      · have := x1 y hy; omega
      · exact z
    · have ha : a ∈ o := (List.mem_cons.mp (h a List.mem_cons_self)).resolve_left e
      have hb := o1 a ha
      refine (asc_sub hx o2 fun y hy => ?_).cons b
      rcases List.mem_cons.mp (h y hy) with z | z
      · rcases List.mem_cons.mp hy with q | q
        · omega
        · have := x1 y q; omega
      · exact z
theorem asc_ext {x o : List Int} (hx : x.Pairwise (· < ·)) (ho : o.Pairwise (· < ·)) (h : ∀ y, y ∈ x ↔ y ∈ o) : x = o :=
  let a := asc_sub hx ho fun y hy => (h y).mp hy
  a.eq_of_length (Nat.le_antisymm a.length_le (asc_sub ho hx fun y hy => (h y).mpr hy).length_le)
theorem sortT_congr {ls ks : List (List Int)} (p : ls.Perm ks) : sortT ls = sortT ks := by
  refine List.Perm.eq_of_pairwise (le := fun a b => leT a b = true) ?_ (sortT_le ls) (sortT_le ks) (((sortT_perm ls).trans p).trans (sortT_perm ks).symm)
  intro a b _ _ h1 h2
  unfold leT at h1 h2
  exact lex_ne a b (by simpa using h2) (by simpa using h1)
theorem mem_gone {x y : Int} {l : List Int} : y ∈ gone x l ↔ if y < x then y ∈ l else y + 1 ∈ l := by
  unfold gone
  rw [List.mem_map]
  constructor
  · rintro ⟨z, hz, e⟩
    obtain ⟨h1, h2⟩ := List.mem_filter.mp hz
    have h3 : ¬ z = x := by simpa using h2
    by_cases c : x < z
    · rw [if_pos c] at e
      have e2 : y + 1 = z := by omega
      rw [if_neg (by omega), e2]
      exact h1
    · rw [if_neg c] at e
      rw [if_pos (by omega), ← e]
      exact h1
  · intro h
    by_cases c : y < x
    · rw [if_pos c] at h
      exact ⟨y, List.mem_filter.mpr ⟨h, by simp; omega⟩, if_neg (by omega)⟩
    · rw [if_neg c] at h
      exact ⟨y + 1, List.mem_filter.mpr ⟨h, by simp; omega⟩, by rw [if_pos (by omega)]; omega⟩
theorem mem_rest {n y : Int} {l : List Int} : y ∈ rest n l ↔ (0 ≤ y ∧ y < n) ∧ ¬ y ∈ l := by
  unfold rest
  rw [List.mem_filter, mem_rangeI]
  simp
theorem rest_asc (n : Int) (l : List Int) : Asc n (rest n l) := asc_rest n _
theorem rest_rest {n : Int} {l : List Int} (h : Asc n l) : rest n (rest n l) = l := by
  refine asc_ext (rest_asc n _).1 h.1 fun y => ?_
  rw [mem_rest, mem_rest]
  constructor
  · rintro ⟨a, b⟩
    exact Classical.byContradiction fun c => b ⟨a, c⟩
  · intro c
    exact ⟨h.2 y c, fun z => z.2 c⟩
theorem gone_rest {n x : Int} {l : List Int} (h : Asc n l) (hx : 0 ≤ x ∧ x < n) : gone x (rest n l) = rest (n - 1) (gone x l) := by
  refine asc_ext (gone_asc (rest_asc n l) hx).1 (rest_asc _ _).1 fun y => ?_
  rw [mem_gone, mem_rest (n := n - 1), mem_gone]
  by_cases c : y < x
  · rw [if_pos c, if_pos c, mem_rest]
    constructor
    · rintro ⟨⟨a, b⟩, d⟩
      exact ⟨⟨a, by omega⟩, d⟩
    · rintro ⟨⟨a, b⟩, d⟩
      exact ⟨⟨a, by omega⟩, d⟩
  · rw [if_neg c, if_neg c, mem_rest]
    constructor
    · rintro ⟨⟨a, b⟩, d⟩
      exact ⟨⟨by omega, by omega⟩, d⟩
    · rintro ⟨⟨a, b⟩, d⟩
      exact ⟨⟨by omega, by omega⟩, d⟩
theorem gone_inj {n x : Int} {l k : List Int} (h : Asc n l) (h' : Asc n k) (hx : x ∈ l ↔ x ∈ k) (e : gone x l = gone x k) : l = k := by
  refine asc_ext h.1 h'.1 fun y => ?_
  have m : ∀ z, (if z < x then z ∈ l else z + 1 ∈ l) ↔ (if z < x then z ∈ k else z + 1 ∈ k) := fun z => by rw [← mem_gone, ← mem_gone, e]
  by_cases c : y = x
  · rw [c]; exact hx
  · by_cases d : y < x
    · have := m y
      rwa [if_pos d, if_pos d] at this
    · have := m (y - 1)
      rw [if_neg (by omega), if_neg (by omega)] at this
      rwa [show y - 1 + 1 = y by omega] at this
theorem orAll_same {ls : List (List Int)} {p : List Int → Bool} {l k : List Int} (hl : l ∈ orAll ls (ls.filter p)) (hk : k ∈ orAll ls (ls.filter p)) : p l = p k := by
  unfold orAll at hl hk
  by_cases c : (ls.filter p).length = 0
  · rw [if_pos c] at hl hk
    have z := List.eq_nil_of_length_eq_zero c
    have f : ∀ m ∈ ls, p m = false := fun m hm => by
      cases e : p m with
      | false => rfl
      | true =>
        have : m ∈ ls.filter p := List.mem_filter.mpr ⟨hm, e⟩
        rw [z] at this
        cases this
    rw [f l hl, f k hk]
  · rw [if_neg c] at hl hk
    rw [(List.mem_filter.mp hl).2, (List.mem_filter.mp hk).2]
theorem orAll_mem {ls : List (List Int)} {p : List Int → Bool} {l : List Int} (hl : l ∈ orAll ls (ls.filter p)) : l ∈ ls := by
  unfold orAll at hl
  split at hl
  · exact hl
  · exact (List.mem_filter.mp hl).1
theorem orAll_nodup {ls : List (List Int)} {p : List Int → Bool} (n : ls.Nodup) : (orAll ls (ls.filter p)).Nodup := by
  unfold orAll
  split
  · exact n
  · exact n.filter p
theorem orAll_ne {ls : List (List Int)} {p : List Int → Bool} (n : ls ≠ []) : orAll ls (ls.filter p) ≠ [] := by
  unfold orAll
  split
  · exact n
  · rename_i c
    exact fun z => c (by rw [z]; rfl)
/-- the lots behind without and holding -/
def less (p : List Int → Bool) (x : Int) (ls : List (List Int)) : List (List Int) := sortT ((orAll ls (ls.filter p)).map (gone x))
theorem less_asd {n x : Int} {p : List Int → Bool} {ls : List (List Int)} (h : ∀ l ∈ ls, Asc n l) (nd : ls.Nodup) (hp : ∀ l k, p l = p k → (x ∈ l ↔ x ∈ k)) : Asd (less p x ls) := by
  refine asd_sortT ?_
  refine List.pairwise_map.mpr ((orAll_nodup nd).imp_of_mem fun {a b} ha hb ne e => ne ?_)
  exact gone_inj (h a (orAll_mem ha)) (h b (orAll_mem hb)) (hp a b (orAll_same ha hb)) e
theorem less_asc {n x : Int} {p : List Int → Bool} {ls : List (List Int)} (h : ∀ l ∈ ls, Asc n l) (hx : 0 ≤ x ∧ x < n) : ∀ l ∈ less p x ls, Asc (n - 1) l := fun l hl => by
  obtain ⟨k, hk, rfl⟩ := List.mem_map.mp (mem_sortT.mp hl)
  exact gone_asc (h k (orAll_mem hk)) hx
theorem less_ne {x : Int} {p : List Int → Bool} {ls : List (List Int)} (h : ls ≠ []) : less p x ls ≠ [] := fun z => by
  have : (less p x ls).length = 0 := by rw [z]; rfl
  unfold less at this
  rw [(sortT_perm _).length_eq, List.length_map] at this
  exact orAll_ne h (List.eq_nil_of_length_eq_zero this)
theorem less_len {x : Int} {p : List Int → Bool} {ls : List (List Int)} : (less p x ls).length ≤ ls.length := by
  unfold less
  rw [(sortT_perm _).length_eq, List.length_map]
  unfold orAll
  split
  · exact Nat.le_refl _
  · exact List.length_filter_le _ _
/-- what the lots do not have -/
def opp (n : Int) (ls : List (List Int)) : List (List Int) := sortT (ls.map (rest n))
theorem orAll_map (f : List Int → List Int) (p : List Int → Bool) (ls : List (List Int)) : orAll (ls.map f) ((ls.map f).filter p) = (orAll ls (ls.filter (p ∘ f))).map f := by
  unfold orAll
  rw [List.filter_map, List.length_map]
  split <;> rfl
theorem orAll_perm {ls ks : List (List Int)} (h : ls.Perm ks) (p : List Int → Bool) : (orAll ls (ls.filter p)).Perm (orAll ks (ks.filter p)) := by
  unfold orAll
  rw [(h.filter p).length_eq]
  split
  · exact h
  · exact h.filter p
theorem opp_less {n x : Int} {ls : List (List Int)} {p q : List Int → Bool} (h : ∀ l ∈ ls, Asc n l) (hx : 0 ≤ x ∧ x < n) (hpq : ∀ l ∈ ls, q (rest n l) = p l) : opp (n - 1) (less p x ls) = less q x (opp n ls) := by
  unfold opp less
  have a := sortT_congr ((sortT_perm ((orAll ls (ls.filter p)).map (gone x))).map (rest (n - 1)))
  have b := sortT_congr ((orAll_perm (sortT_perm (ls.map (rest n))) q).map (gone x))
  rw [a, b, orAll_map, List.map_map, List.map_map]
  have c : ls.filter (q ∘ rest n) = ls.filter p := List.filter_congr fun l hl => hpq l hl
  rw [c]
  congr 1
  refine List.map_congr_left fun l hl => ?_
  exact (gone_rest (h l (orAll_mem hl)) hx).symm
def has (x : Int) (l : List Int) : Bool := decide (x ∈ l)
def hasno (x : Int) (l : List Int) : Bool := !decide (x ∈ l)
theorem v_withoutL (n : Int) (ls : List (List Int)) (x : Int) : m_without [.tuple [.int n, tt ls], .int x] = .ok (.tuple [.int (n - 1), tt (less (hasno x) x ls)]) := v_without n ls x
theorem v_holdingL (n : Int) (ls : List (List Int)) (x : Int) : m_holding [.tuple [.int n, tt ls], .int x] = .ok (.tuple [.int (n - 1), tt (less (has x) x ls)]) := v_holding n ls x
theorem v_oppositeL (n : Int) (ls : List (List Int)) (h0 : 0 ≤ n) (h1 : n ≤ 1000) : m_opposite [.tuple [.int n, tt ls]] = .ok (.tuple [.int n, tt (opp n ls)]) := v_opposite n ls h0 h1
theorem has_rest {n x : Int} (l : List Int) (hx : 0 ≤ x ∧ x < n) : has x (rest n l) = hasno x l := by
  unfold has hasno
  by_cases c : x ∈ l
  · rw [decide_eq_true c, decide_eq_false fun z => (mem_rest.mp z).2 c]; rfl
  · rw [decide_eq_false c, decide_eq_true (mem_rest.mpr ⟨hx, c⟩)]; rfl
theorem hasno_rest {n x : Int} (l : List Int) (hx : 0 ≤ x ∧ x < n) : hasno x (rest n l) = has x l := by
  have z := has_rest l hx
  unfold has hasno at *
  rw [z]
  cases decide (x ∈ l) <;> rfl
end LW

set_option Elab.async false
set_option maxRecDepth 100000
set_option linter.all false
set_option maxHeartbeats 2000000
namespace LW
open PySem PySem.Spec PyProof.Rows L2 PD
/-- an offer as data -/
def ofr (n : Int) (ls : List (List Int)) : PyData := .tuple [.int n, tt ls]
/-- rows that an offer can have -/
structure Good (n : Int) (ls : List (List Int)) : Prop where
  asc : ∀ l ∈ ls, Asc n l
  asd : Asd ls
  ne : ls ≠ []
  len : ls.length ≤ 1000
theorem Good.less {n x : Int} {p : List Int → Bool} {ls : List (List Int)} (g : Good n ls) (hx : 0 ≤ x ∧ x < n) (hp : ∀ l k, p l = p k → (x ∈ l ↔ x ∈ k)) : Good (n - 1) (less p x ls) :=
  ⟨less_asc g.asc hx, less_asd g.asc g.asd.nodup hp, less_ne g.ne, Nat.le_trans less_len g.len⟩
theorem has_iff (x : Int) : ∀ l k, has x l = has x k → (x ∈ l ↔ x ∈ k) := fun l k h => by
  unfold has at h
  by_cases c : x ∈ k
  · rw [decide_eq_true c] at h
    exact ⟨fun _ => c, fun _ => of_decide_eq_true h⟩
  · rw [decide_eq_false c] at h
    exact ⟨fun z => absurd z (of_decide_eq_false h), fun z => absurd z c⟩
theorem hasno_iff (x : Int) : ∀ l k, hasno x l = hasno x k → (x ∈ l ↔ x ∈ k) := fun l k h => by
  refine has_iff x l k ?_
  unfold hasno at h
  unfold has
  cases a : decide (x ∈ l) <;> cases b : decide (x ∈ k) <;> simp_all
theorem Good.opp {n : Int} {ls : List (List Int)} (g : Good n ls) : Good n (opp n ls) := by
  refine ⟨fun l hl => ?_, asd_sortT ?_, fun z => ?_, ?_⟩
  · obtain ⟨k, _, rfl⟩ := List.mem_map.mp (mem_sortT.mp hl)
    exact rest_asc n k
  · refine List.pairwise_map.mpr (g.asd.nodup.imp_of_mem fun {a b} ha hb ne e => ne ?_)
    rw [← rest_rest (g.asc a ha), ← rest_rest (g.asc b hb), e]
  · have : (LW.opp n ls).length = 0 := by rw [z]; rfl
    unfold LW.opp at this
    rw [(sortT_perm _).length_eq, List.length_map] at this
    exact g.ne (List.eq_nil_of_length_eq_zero this)
  · unfold LW.opp
    rw [(sortT_perm _).length_eq, List.length_map]
    exact g.len
theorem v_some {n : Int} {ls : List (List Int)} (g : Good n ls) (hn : n ≤ 1000) : m_law_is_some_offer [ofr n ls, .int n] = .ok (.bool true) := v_is_some_offer n ls g.asc hn g.asd g.ne g.len
theorem shp_ofr (n : Int) (ls : List (List Int)) : shp (ofr n ls) = true := shp_of (n := 3) (dep_tuple fun y hy => by
  simp only [List.mem_cons, List.not_mem_nil, or_false] at hy
  rcases hy with rfl | rfl
  · exact ⟨rfl, Nat.zero_le _⟩
  · exact dep_tt ls)
theorem eqv_ofr (n : Int) (ls : List (List Int)) : PyData.eqv (ofr n ls) (ofr n ls) = true := by
  unfold ofr
  rw [PyData.eqv, PyData.eqvAll, PyData.eqvAll, PyData.eqvAll, eqv_int, eqv_tt]
  simp
theorem oNe_ofr (n : Int) (ls : List (List Int)) : oNe (ofr n ls) (ofr n ls) = .ok (.bool false) := by
  unfold oNe
  rw [if_pos ⟨shp_ofr n ls, shp_ofr n ls⟩, eqv_ofr]
  rfl
theorem oEq_ofr (n : Int) (ls : List (List Int)) : oEq (ofr n ls) (ofr n ls) = .ok (.bool true) := by
  unfold oEq
  rw [if_pos ⟨shp_ofr n ls, shp_ofr n ls⟩, eqv_ofr]
theorem v_mirrored (n : Int) (ls : List (List Int)) (g : Good n ls) (h0 : 0 ≤ n) (h1 : n ≤ 1000) : m_law_mirrored [ofr n ls] = .ok (.bool true) := by
  show endR (g_law_mirrored [some (.d (ofr n ls)), none, none, none, none]) = _
  have j0 : oIx (ofr n ls) (.int 0) = .ok (.int n) := rfl
  have eo : m_opposite [ofr n ls] = .ok (ofr n (opp n ls)) := v_oppositeL n ls h0 h1
  have key := forGo_inv (i := 3) (g := b_law_mirrored_1) (enc := PyData.int) (fun xs ρ => ∃ o3 o4, ρ = [some (.d (ofr n ls)), some (.d (.int n)), some (.d (ofr n (opp n ls))), o3, o4] ∧ ∀ k ∈ xs, 0 ≤ k ∧ k < n) (by
    rintro k xs ρ ⟨o3, o4, rfl, hk⟩
    have kk := hk k List.mem_cons_self
    have e1 : m_without [ofr n ls, .int k] = .ok (ofr (n - 1) (less (hasno k) k ls)) := v_withoutL n ls k
    have e2 : m_holding [ofr n ls, .int k] = .ok (ofr (n - 1) (less (has k) k ls)) := v_holdingL n ls k
    have e3 : m_without [ofr n (opp n ls), .int k] = .ok (ofr (n - 1) (less (hasno k) k (opp n ls))) := v_withoutL n _ k
    have e4 : m_holding [ofr n (opp n ls), .int k] = .ok (ofr (n - 1) (less (has k) k (opp n ls))) := v_holdingL n _ k
    have e5 : m_opposite [ofr (n - 1) (less (hasno k) k ls)] = .ok (ofr (n - 1) (opp (n - 1) (less (hasno k) k ls))) := v_oppositeL _ _ (by omega) (by omega)
    have e6 : m_opposite [ofr (n - 1) (less (has k) k ls)] = .ok (ofr (n - 1) (opp (n - 1) (less (has k) k ls))) := v_oppositeL _ _ (by omega) (by omega)
    rw [opp_less g.asc kk fun l _ => has_rest l kk] at e5
    rw [opp_less g.asc kk fun l _ => hasno_rest l kk] at e6
    have s1 := v_some (g.opp.less (p := has k) kk (has_iff k)) (by omega)
    have s2 := v_some (g.opp.less (p := hasno k) kk (hasno_iff k)) (by omega)
    refine ⟨[some (.d (ofr n ls)), some (.d (.int n)), some (.d (ofr n (opp n ls))), some (.d (.int k)), some (.d (ofr (n - 1) (less (hasno k) k (opp n ls))))], ?_, _, _, rfl, fun y hy => hk y (List.mem_cons_of_mem _ hy)⟩
    simp [b_law_mirrored_1, e1, e2, e3, e4, e5, e6, s1, s2, oNe_ofr])
  obtain ⟨ρ', e, o3, o4, rfl, _⟩ := key (rangeI 0 n) [some (.d (ofr n ls)), some (.d (.int n)), some (.d (ofr n (opp n ls))), none, none] ⟨none, none, rfl, fun k hk => mem_rangeI.mp hk⟩
  simp [g_law_mirrored, j0, eo, rngA1_ok (n := n) (by omega) (by omega), e]
end LW

set_option Elab.async false
set_option maxRecDepth 100000
set_option linter.all false
set_option maxHeartbeats 2000000
namespace LW
open PySem PySem.Spec PyProof.Rows L2 PD
theorem sortI_eq (l : List Int) : sortI l = l.mergeSort fun a b => decide (a ≤ b) := by
  have h : sortD (l.map PyData.int) = (l.mergeSort fun a b => decide (a ≤ b)).map PyData.int := by
    unfold sortD
    refine (List.map_mergeSort (f := PyData.int) (r := fun a b => decide (a ≤ b)) (s := PySem.W.dataLe false id) (l := l) fun a _ b _ => ?_).symm
    show decide (a ≤ b) = !(PySem.W.dataLt (.int b) (.int a))
    rw [PySem.W.dataLt_int, PySem.W.not_lt_int]
  have e := (sortD_ints l).1
  rw [h] at e
  have inj : ∀ {a b : List Int}, a.map PyData.int = b.map PyData.int → a = b := fun {a b} z => by
    induction a generalizing b with
    | nil => cases b with
      | nil => rfl
      | cons y b => cases z
    | cons x a ih => cases b with
      | nil => cases z
      | cons y b =>
        rw [List.map_cons, List.map_cons] at z
        obtain ⟨z1, z2⟩ := List.cons.inj z
        rw [PyData.int.inj z1, ih z2]
  exact (inj e).symm
theorem sortI_le (l : List Int) : (sortI l).Pairwise (· ≤ ·) := by
  rw [sortI_eq]
  exact (List.pairwise_mergeSort (le := fun a b : Int => decide (a ≤ b)) (fun a b c h1 h2 => by simp only [decide_eq_true_eq] at *; omega) (fun a b => by simp only [Bool.or_eq_true, decide_eq_true_eq]; omega) l).imp fun h => of_decide_eq_true h
theorem sortI_asc {n : Int} {l : List Int} (nd : l.Nodup) (h : ∀ x ∈ l, 0 ≤ x ∧ x < n) : Asc n (sortI l) := by
  refine ⟨((sortI_le l).and ((sortD_ints l).2.nodup_iff.mpr nd)).imp fun {a b} ⟨h1, h2⟩ => by omega, fun x hx => h x (mem_sortI.mp hx)⟩
theorem Asc.nodup {n : Int} {l : List Int} (h : Asc n l) : l.Nodup := h.1.imp fun {a b} z e => by omega
theorem mem_exch {l : List Int} {x t y : Int} : y ∈ exch l x t ↔ (y ∈ l ∧ ¬ y = x) ∨ y = t := by
  unfold exch
  rw [mem_sortI, List.mem_append, List.mem_filter, List.mem_singleton]
  simp
theorem exch_asc {n x t : Int} {l : List Int} (h : Asc n l) (ht : ¬ t ∈ l) (b : 0 ≤ t ∧ t < n) : Asc n (exch l x t) := by
  unfold exch
  refine sortI_asc ?_ fun y hy => ?_
  · rw [List.nodup_append]
    refine ⟨h.nodup.filter _, by simp, fun a ha c hc e => ?_⟩
    rw [List.mem_singleton.mp hc] at e
    exact ht (e ▸ (List.mem_filter.mp ha).1)
  · rcases List.mem_append.mp hy with z | z
    · exact h.2 y (List.mem_filter.mp z).1
    · rw [List.mem_singleton.mp z]; exact b
/-- all exchanges are there -/
def Exc (ls : List (List Int)) : Prop := ∀ l ∈ ls, ∀ x ∈ l, ∀ o ∈ ls, ¬ x ∈ o → ∃ t ∈ o, ¬ t ∈ l ∧ exch l x t ∈ ls
theorem faultD_none {ls : List (List Int)} (h : Exc ls) : faultD ls = .none := by
  rcases faultD_is ls with e | ⟨l, x, o, hl, ho, e⟩
  · exact e
  · exfalso
    unfold faultD at e
    cases q : ls.findSome? (findL ls) with
    | none => rw [q] at e; cases e
    | some d =>
      obtain ⟨l, hl, e1⟩ := List.exists_of_findSome?_eq_some q
      obtain ⟨x, hx, e2⟩ := List.exists_of_findSome?_eq_some e1
      obtain ⟨o, ho, e3⟩ := List.exists_of_findSome?_eq_some e2
      unfold findO at e3
      split at e3
      · rename_i b
        obtain ⟨t, ht, hn, hi⟩ := h l hl x hx o ho b.1
        exact b.2 t ht hn hi
      · cases e3
/-- y's place behind the closing of a gap at x -/
def shut (x y : Int) : Int := if x < y then y - 1 else y
theorem shut_mem {x y : Int} {l : List Int} (h : ¬ y = x) : shut x y ∈ gone x l ↔ y ∈ l := by
  rw [mem_gone]
  unfold shut
  by_cases c : x < y
  · rw [if_pos c, if_neg (by omega), show y - 1 + 1 = y by omega]
  · rw [if_neg c, if_pos (by omega)]
theorem gone_exch {n x a b : Int} {l : List Int} (h : Asc n l) (hx : 0 ≤ x ∧ x < n) (ha : ¬ a = x) (hb : ¬ b = x) (hbl : ¬ b ∈ l) (hbn : 0 ≤ b ∧ b < n) : gone x (exch l a b) = exch (gone x l) (shut x a) (shut x b) := by
  have g := gone_asc h hx
  have c : ¬ shut x b ∈ gone x l := fun z => hbl ((shut_mem hb).mp z)
  have d : 0 ≤ shut x b ∧ shut x b < n - 1 := by
    unfold shut
    split <;> omega
  refine asc_ext (gone_asc (exch_asc h hbl hbn) hx).1 (exch_asc g c d).1 fun y => ?_
  rw [mem_gone, mem_exch (l := gone x l), mem_gone, mem_exch, mem_exch]
  unfold shut
  by_cases e : y < x
  · rw [if_pos e, if_pos e]
    have : y = a ↔ y = if x < a then a - 1 else a := by split <;> omega
    have : y = b ↔ y = if x < b then b - 1 else b := by split <;> omega
    simp_all
  · rw [if_neg e, if_neg e]
    have : y + 1 = a ↔ y = if x < a then a - 1 else a := by split <;> omega
    have : y + 1 = b ↔ y = if x < b then b - 1 else b := by split <;> omega
    simp_all
end LW

set_option Elab.async false
set_option maxRecDepth 100000
set_option linter.all false
set_option maxHeartbeats 2000000
namespace LW
open PySem PySem.Spec PyProof.Rows L2 PD
theorem gone_shut {x y : Int} {l : List Int} : y ∈ gone x l ↔ ∃ a, a ∈ l ∧ ¬ a = x ∧ shut x a = y := by
  unfold gone
  rw [List.mem_map]
  constructor
  · rintro ⟨a, ha, e⟩
    obtain ⟨h1, h2⟩ := List.mem_filter.mp ha
    exact ⟨a, h1, by simpa using h2, e⟩
  · rintro ⟨a, h1, h2, e⟩
    exact ⟨a, List.mem_filter.mpr ⟨h1, by simpa using h2⟩, e⟩
theorem orAll_in {ls : List (List Int)} {p : List Int → Bool} {l m : List Int} (hl : l ∈ orAll ls (ls.filter p)) (hm : m ∈ ls) (e : p m = p l) : m ∈ orAll ls (ls.filter p) := by
  unfold orAll at *
  split at hl
  · rename_i c
    rw [if_pos c]
    exact hm
  · rename_i c
    rw [if_neg c]
    exact List.mem_filter.mpr ⟨hm, e.trans (List.mem_filter.mp hl).2⟩
theorem mem_less {x : Int} {p : List Int → Bool} {ls : List (List Int)} {l : List Int} : l ∈ less p x ls ↔ ∃ k ∈ orAll ls (ls.filter p), gone x k = l := by
  unfold less
  rw [mem_sortT, List.mem_map]
/-- p looks at x alone -/
def Of (x : Int) (p : List Int → Bool) : Prop := ∀ l k, p l = p k ↔ (x ∈ l ↔ x ∈ k)
theorem of_has (x : Int) : Of x (has x) := fun l k => ⟨has_iff x l k, fun h => by
  unfold has
  by_cases c : x ∈ k
  · rw [decide_eq_true c, decide_eq_true (h.mpr c)]
  · rw [decide_eq_false c, decide_eq_false fun z => c (h.mp z)]⟩
theorem of_hasno (x : Int) : Of x (hasno x) := fun l k => ⟨hasno_iff x l k, fun h => by
  have := (of_has x l k).mpr h
  unfold has at this
  unfold hasno
  rw [this]⟩
theorem less_exc {n x : Int} {p : List Int → Bool} {ls : List (List Int)} (g : Good n ls) (hx : 0 ≤ x ∧ x < n) (hp : Of x p) (h : Exc ls) : Exc (less p x ls) := by
  intro l' hl' a' ha' o' ho' na
  obtain ⟨l, hl, rfl⟩ := mem_less.mp hl'
  obtain ⟨o, ho, rfl⟩ := mem_less.mp ho'
  obtain ⟨a, hal, hax, rfl⟩ := gone_shut.mp ha'
  have nao : ¬ a ∈ o := fun z => na ((shut_mem hax).mpr z)
  obtain ⟨t, hto, htl, hi⟩ := h l (orAll_mem hl) a hal o (orAll_mem ho) nao
  have same := (hp l o).mp (orAll_same hl ho)
  have htx : ¬ t = x := fun z => htl (z ▸ same.mpr (z ▸ hto))
  have al := g.asc l (orAll_mem hl)
  refine ⟨shut x t, (shut_mem htx).mpr hto, fun z => htl ((shut_mem htx).mp z), ?_⟩
  rw [← gone_exch al hx hax htx htl ((g.asc o (orAll_mem ho)).2 t hto)]
  refine mem_less.mpr ⟨_, orAll_in hl hi ((hp _ _).mpr ?_), rfl⟩
  rw [mem_exch]
  constructor
  · rintro (z | z)
    · exact z.1
    · exact absurd z.symm htx
  · intro z
    exact .inl ⟨z, fun e => hax e.symm⟩
theorem gone_len {x : Int} : ∀ {l : List Int}, l.Nodup → (gone x l).length = if x ∈ l then l.length - 1 else l.length := by
  intro l nd
  unfold gone
  rw [List.length_map]
  induction l with
  | nil => rfl
  | cons y l ih =>
    obtain ⟨h1, h2⟩ := List.nodup_cons.mp nd
    by_cases c : y = x
    · subst c
      rw [List.filter_cons_of_neg (by simp), ih h2, if_neg h1, if_pos List.mem_cons_self]
      rfl
    · rw [List.filter_cons_of_pos (by simpa using c), List.length_cons, ih h2]
      by_cases d : x ∈ l
      · rw [if_pos d, if_pos (List.mem_cons_of_mem _ d), List.length_cons]
        have := List.length_pos_of_mem d
        omega
      · rw [if_neg d, if_neg fun z => by
          rcases List.mem_cons.mp z with z | z
          · exact c z.symm
          · exact d z]
        rfl
/-- all rows have the same number of things -/
def Eqs (ls : List (List Int)) : Prop := ∀ l ∈ ls, ∀ k ∈ ls, l.length = k.length
theorem less_eqs {n x : Int} {p : List Int → Bool} {ls : List (List Int)} (g : Good n ls) (hp : Of x p) (h : Eqs ls) : Eqs (less p x ls) := by
  intro l' hl' k' hk'
  obtain ⟨l, hl, rfl⟩ := mem_less.mp hl'
  obtain ⟨k, hk, rfl⟩ := mem_less.mp hk'
  have same := (hp l k).mp (orAll_same hl hk)
  have e := h l (orAll_mem hl) k (orAll_mem hk)
  rw [gone_len (g.asc l (orAll_mem hl)).nodup, gone_len (g.asc k (orAll_mem hk)).nodup, e]
  by_cases c : x ∈ k
  · rw [if_pos c, if_pos (same.mpr c)]
  · rw [if_neg c, if_neg fun z => c (same.mp z)]
/-- lots of which all exchanges are there, all of one size -/
structure Smooth (n : Int) (ls : List (List Int)) : Prop where
  good : Good n ls
  exc : Exc ls
  eqs : Eqs ls
theorem Smooth.less {n x : Int} {p : List Int → Bool} {ls : List (List Int)} (s : Smooth n ls) (hx : 0 ≤ x ∧ x < n) (hp : Of x p) : Smooth (n - 1) (less p x ls) :=
  ⟨s.good.less hx fun l k => (hp l k).mp, less_exc s.good hx hp s.exc, less_eqs s.good hp s.eqs⟩
theorem Smooth.tells {n : Int} {ls : List (List Int)} (s : Smooth n ls) (h0 : 0 ≤ n) (h1 : n ≤ 1000) : m_law_fault [tt ls] = .ok .none ∧ m_is_smooth [ofr n ls] = .ok (.bool true) := by
  have e := faultD_none s.exc
  have a := v_law_fault ls fun l hl => by have := (s.good.asc l hl).len; omega
  have b := v_is_smooth n ls h0 h1 s.good.asc
  rw [e] at a b
  exact ⟨a, b⟩
end LW

set_option Elab.async false
set_option maxRecDepth 100000
set_option linter.all false
set_option maxHeartbeats 2000000
namespace LW
open PySem PySem.Spec PyProof.Rows L2 PD
theorem mem_opened {x y : Int} {row : List Int} : y ∈ opened x row ↔ ¬ y = x ∧ shut x y ∈ row := by
  unfold opened shut
  rw [List.mem_append, List.mem_map, List.mem_filter]
  constructor
  · rintro (⟨h1, h2⟩ | ⟨z, hz, e⟩)
    · have := of_decide_eq_true h2
      refine ⟨by omega, ?_⟩
      rw [if_neg (by omega)]
      exact h1
    · obtain ⟨h1, h2⟩ := List.mem_filter.mp hz
      have := of_decide_eq_true h2
      refine ⟨by omega, ?_⟩
      rw [if_pos (by omega), show y - 1 = z by omega]
      exact h1
  · rintro ⟨h1, h2⟩
    by_cases c : x < y
    · rw [if_pos c] at h2
      exact .inr ⟨y - 1, List.mem_filter.mpr ⟨h2, decide_eq_true (by omega)⟩, by omega⟩
    · rw [if_neg c] at h2
      exact .inl ⟨h2, decide_eq_true (by omega)⟩
/-- how many of these things a lot has -/
def cnt (A l : List Int) : Nat := (l.filter fun y => decide (y ∈ A)).length
theorem cnt_gone {x : Int} {row l : List Int} : cnt row (gone x l) = cnt (opened x row) l := by
  unfold cnt gone
  rw [List.filter_map, List.length_map, List.filter_filter]
  congr 1
  refine List.filter_congr fun y _ => ?_
  show (decide (shut x y ∈ row) && !(y == x)) = decide (y ∈ opened x row)
  by_cases c : y = x
  · rw [decide_eq_false fun z => (mem_opened.mp z).1 c]
    simp [c]
  · by_cases d : shut x y ∈ row
    · rw [decide_eq_true d, decide_eq_true (mem_opened.mpr ⟨c, d⟩)]
      simp [c]
    · rw [decide_eq_false d, decide_eq_false fun z => d (mem_opened.mp z).2]
      rfl
theorem sub_len {l k : List Int} (h : l.Pairwise (· < ·)) (h' : k.Pairwise (· < ·)) (s : ∀ y ∈ l, y ∈ k) : l.length ≤ k.length := (asc_sub h h' s).length_le
theorem cnt_mono {n m : Int} {A l k : List Int} (h : Asc n l) (h' : Asc m k) (s : ∀ y ∈ l, y ∈ A → y ∈ k) : cnt A l ≤ cnt A k := by
  refine sub_len (h.1.filter _) (h'.1.filter _) fun y hy => ?_
  obtain ⟨h1, h2⟩ := List.mem_filter.mp hy
  exact List.mem_filter.mpr ⟨s y h1 (of_decide_eq_true h2), h2⟩
/-- from a lot with x: one with x whose other things are in l -/
theorem near {n x : Int} {ls : List (List Int)} {l : List Int} (s : Smooth n ls) (hl : l ∈ ls) (hxl : ¬ x ∈ l) : ∀ (m : Nat) (k : List Int), k ∈ ls → x ∈ k → (k.filter fun y => !decide (y ∈ l)).length ≤ m → ∃ k' ∈ ls, x ∈ k' ∧ ∀ y ∈ k', ¬ y = x → y ∈ l
  | 0, k, hk, hxk, hm => by
    have e := List.eq_nil_of_length_eq_zero (Nat.le_zero.mp hm)
    have : x ∈ k.filter fun y => !decide (y ∈ l) := List.mem_filter.mpr ⟨hxk, by simpa using hxl⟩
    rw [e] at this
    cases this
  | m + 1, k, hk, hxk, hm => by
    by_cases c : ∀ y ∈ k, ¬ y = x → y ∈ l
    · exact ⟨k, hk, hxk, c⟩
    · obtain ⟨z, hz⟩ := Classical.not_forall.mp c
      obtain ⟨z1, hz⟩ := Classical.not_imp.mp hz
      obtain ⟨z2, z3⟩ := Classical.not_imp.mp hz
      obtain ⟨t, t1, t2, t3⟩ := s.exc k hk z z1 l hl z3
      refine near s hl hxl m (exch k z t) t3 (mem_exch.mpr (.inl ⟨hxk, fun e => z2 e.symm⟩)) ?_
      have ka := s.good.asc k hk
      have ea := s.good.asc _ t3
      -- z is gone from the outer part, nothing comes into it
      have sub : ((exch k z t).filter fun y => !decide (y ∈ l)).length ≤ ((k.filter fun y => !decide (y ∈ l)).filter fun y => !(y == z)).length := by
        refine sub_len (ea.1.filter _) ((ka.1.filter _).filter _) fun y hy => ?_
        obtain ⟨y1, y2⟩ := List.mem_filter.mp hy
        have y3 : ¬ y ∈ l := by simpa using y2
        rcases mem_exch.mp y1 with q | q
        · exact List.mem_filter.mpr ⟨List.mem_filter.mpr ⟨q.1, y2⟩, by simpa using q.2⟩
        · exact absurd (q ▸ t1) y3
      have one := gone_len (x := z) (l := k.filter fun y => !decide (y ∈ l)) (ka.nodup.filter _)
      unfold gone at one
      rw [List.length_map, if_pos (List.mem_filter.mpr ⟨z1, by simpa using z3⟩)] at one
      omega
theorem cnt_near {n x : Int} {ls : List (List Int)} {l k A : List Int} (s : Smooth n ls) (hl : l ∈ ls) (hk : k ∈ ls) (hxk : x ∈ k) (hxl : ¬ x ∈ l) (h : ∀ y ∈ k, ¬ y = x → y ∈ l) : cnt A l ≤ cnt A k + 1 := by
  have la := s.good.asc l hl
  have ka := s.good.asc k hk
  have e := s.eqs l hl k hk
  -- l within k, l outside k
  have split : ∀ (m : List Int) (p : Int → Bool), m.length = (m.filter p).length + (m.filter fun y => !p y).length := fun m p => by
    induction m with
    | nil => rfl
    | cons y m ih =>
      cases q : p y with
      | true => rw [List.filter_cons_of_pos q, List.filter_cons_of_neg (by simp [q]), List.length_cons, List.length_cons]; omega
      | false => rw [List.filter_cons_of_neg (by simp [q]), List.filter_cons_of_pos (by simp [q]), List.length_cons, List.length_cons]; omega
  have a := split l fun y => decide (y ∈ k)
  have b : k.length ≤ (l.filter fun y => decide (y ∈ k)).length + 1 := by
    have one := gone_len (x := x) ka.nodup
    unfold gone at one
    rw [List.length_map, if_pos hxk] at one
    have : (k.filter fun y => !(y == x)).length ≤ (l.filter fun y => decide (y ∈ k)).length := sub_len (ka.1.filter _) (la.1.filter _) fun y hy => by
      obtain ⟨y1, y2⟩ := List.mem_filter.mp hy
      exact List.mem_filter.mpr ⟨h y y1 (by simpa using y2), decide_eq_true y1⟩
    omega
  have c := split (l.filter fun y => decide (y ∈ A)) fun y => decide (y ∈ k)
  have d : ((l.filter fun y => decide (y ∈ A)).filter fun y => decide (y ∈ k)).length ≤ cnt A k := sub_len ((la.1.filter _).filter _) (ka.1.filter _) fun y hy => by
    obtain ⟨y1, y2⟩ := List.mem_filter.mp hy
    exact List.mem_filter.mpr ⟨of_decide_eq_true y2, (List.mem_filter.mp y1).2⟩
  have f : ((l.filter fun y => decide (y ∈ A)).filter fun y => !decide (y ∈ k)).length ≤ (l.filter fun y => !decide (y ∈ k)).length := sub_len ((la.1.filter _).filter _) (la.1.filter _) fun y hy => by
    obtain ⟨y1, y2⟩ := List.mem_filter.mp hy
    exact List.mem_filter.mpr ⟨(List.mem_filter.mp y1).1, y2⟩
  unfold cnt at d ⊢
  omega
end LW

set_option Elab.async false
set_option maxRecDepth 100000
set_option linter.all false
set_option maxHeartbeats 2000000
namespace LW
open PySem PySem.Spec PyProof.Rows L2 PD
theorem le_rank {A l : List Int} {ls : List (List Int)} (h : l ∈ ls) : (cnt A l : Int) ≤ rank A ls := le_maxI (List.mem_map.mpr ⟨l, h, rfl⟩)
theorem rank_at {A : List Int} {ls : List (List Int)} (h : ls ≠ []) : ∃ l ∈ ls, rank A ls = (cnt A l : Int) := by
  have m : rank A ls ∈ ls.map fun l => (cnt A l : Int) := maxI_mem (by rw [List.length_map]; exact List.length_pos_iff.mpr h)
  obtain ⟨l, hl, e⟩ := List.mem_map.mp m
  exact ⟨l, hl, e.symm⟩
theorem orAll_of {ls : List (List Int)} {p : List Int → Bool} {o : List Int} (ho : o ∈ ls) (hp : p o = true) {l : List Int} : l ∈ orAll ls (ls.filter p) ↔ l ∈ ls ∧ p l = true := by
  have z : ¬ (ls.filter p).length = 0 := fun z => by
    have : o ∈ ls.filter p := List.mem_filter.mpr ⟨ho, hp⟩
    rw [List.eq_nil_of_length_eq_zero z] at this
    cases this
  unfold orAll
  rw [if_neg z, List.mem_filter]
theorem orAll_no {ls : List (List Int)} {p : List Int → Bool} (h : ∀ o ∈ ls, p o = false) : orAll ls (ls.filter p) = ls := by
  have z : ls.filter p = [] := List.filter_eq_nil_iff.mpr fun o ho q => by rw [h o ho] at q; cases q
  unfold orAll
  rw [z]
  rfl
theorem has_true {x : Int} {l : List Int} : has x l = true ↔ x ∈ l := by unfold has; exact decide_eq_true_iff
theorem hasno_true {x : Int} {l : List Int} : hasno x l = true ↔ ¬ x ∈ l := by unfold hasno; simp
/-- the rank of a set in the offer without x -/
theorem rank_without {n x : Int} {ls : List (List Int)} {row : List Int} (s : Smooth n ls) : rank row (less (hasno x) x ls) = rank (opened x row) ls := by
  have hne := less_ne (x := x) (p := hasno x) s.good.ne
  have hxA : ¬ x ∈ opened x row := fun z => (mem_opened.mp z).1 rfl
  obtain ⟨l', hl', e⟩ := rank_at (A := row) hne
  obtain ⟨l, hl, rfl⟩ := mem_less.mp hl'
  rw [cnt_gone] at e
  have up := le_rank (A := opened x row) (orAll_mem hl)
  obtain ⟨o, ho, f⟩ := rank_at (A := opened x row) s.good.ne
  have down : rank (opened x row) ls ≤ rank row (less (hasno x) x ls) := by
    rw [f]
    have fin : ∀ k ∈ orAll ls (ls.filter (hasno x)), cnt (opened x row) o ≤ cnt (opened x row) k → (cnt (opened x row) o : Int) ≤ rank row (less (hasno x) x ls) := fun k hk q => by
      have := le_rank (A := row) (mem_less (x := x).mpr ⟨k, hk, rfl⟩)
      rw [cnt_gone] at this
      omega
    by_cases c : ∃ k ∈ ls, hasno x k = true
    · obtain ⟨k, hk, hxk⟩ := c
      by_cases d : x ∈ o
      · obtain ⟨t, t1, t2, t3⟩ := s.exc o ho x d k hk (hasno_true.mp hxk)
        refine fin (exch o x t) ((orAll_of hk hxk).mpr ⟨t3, hasno_true.mpr fun z => ?_⟩) (cnt_mono (s.good.asc o ho) (s.good.asc _ t3) fun y hy hA => mem_exch.mpr (.inl ⟨hy, fun z => hxA (z ▸ hA)⟩))
        rcases mem_exch.mp z with z | z
        · exact z.2 rfl
        · exact t2 (z ▸ d)
      · exact fin o ((orAll_of hk hxk).mpr ⟨ho, hasno_true.mpr d⟩) (Nat.le_refl _)
    · refine fin o ?_ (Nat.le_refl _)
      rw [orAll_no fun k hk => by
        cases q : hasno x k with
        | false => rfl
        | true => exact absurd ⟨k, hk, q⟩ c]
      exact ho
  omega
theorem cnt_plus {x : Int} {A l : List Int} (hx : ¬ x ∈ A) (nd : l.Nodup) : cnt (A ++ [x]) l = cnt A l + if x ∈ l then 1 else 0 := by
  unfold cnt
  induction l with
  | nil => rfl
  | cons y l ih =>
    obtain ⟨h1, h2⟩ := List.nodup_cons.mp nd
    have ih := ih h2
    by_cases c : y = x
    · subst c
      rw [List.filter_cons_of_pos (by simp), List.filter_cons_of_neg (by simpa using hx), List.length_cons, ih, if_neg h1, if_pos List.mem_cons_self]
    · have e : (if x ∈ y :: l then 1 else 0) = if x ∈ l then 1 else 0 := by
        by_cases d : x ∈ l
        · rw [if_pos d, if_pos (List.mem_cons_of_mem _ d)]
        · rw [if_neg d, if_neg fun z => (List.mem_cons.mp z).elim (fun z => c z.symm) d]
      rw [e]
      by_cases d : y ∈ A
      · rw [List.filter_cons_of_pos (by simp [d]), List.filter_cons_of_pos (by simpa using d), List.length_cons, List.length_cons, ih]
        omega
      · rw [List.filter_cons_of_neg (by simp [d, c]), List.filter_cons_of_neg (by simpa using d), ih]
theorem cnt_one {x : Int} {l : List Int} (nd : l.Nodup) : cnt [x] l = if x ∈ l then 1 else 0 := by
  have := cnt_plus (x := x) (A := []) (by simp) nd
  rw [List.nil_append] at this
  rw [this]
  have z : cnt [] l = 0 := by
    unfold cnt
    rw [List.filter_eq_nil_iff.mpr (by simp)]
    rfl
  omega
/-- the rank of a set in the offer holding x -/
theorem rank_holding {n x : Int} {ls : List (List Int)} {row : List Int} (s : Smooth n ls) : rank row (less (has x) x ls) = rank (opened x row ++ [x]) ls - rank [x] ls := by
  have hne := less_ne (x := x) (p := has x) s.good.ne
  have hxA : ¬ x ∈ opened x row := fun z => (mem_opened.mp z).1 rfl
  obtain ⟨l', hl', e⟩ := rank_at (A := row) hne
  obtain ⟨l, hl, rfl⟩ := mem_less.mp hl'
  rw [cnt_gone] at e
  have nd : ∀ k ∈ ls, k.Nodup := fun k hk => (s.good.asc k hk).nodup
  obtain ⟨o, ho, f⟩ := rank_at (A := opened x row ++ [x]) s.good.ne
  obtain ⟨q, hq, r⟩ := rank_at (A := [x]) s.good.ne
  rw [cnt_plus hxA (nd o ho)] at f
  rw [cnt_one (nd q hq)] at r
  have up := le_rank (A := opened x row ++ [x]) (orAll_mem hl)
  rw [cnt_plus hxA (nd l (orAll_mem hl))] at up
  have low : ∀ k ∈ orAll ls (ls.filter (has x)), (cnt (opened x row) k : Int) ≤ rank row (less (has x) x ls) := fun k hk => by
    have := le_rank (A := row) (mem_less (x := x).mpr ⟨k, hk, rfl⟩)
    rwa [cnt_gone] at this
  by_cases c : ∃ k ∈ ls, has x k = true
  · obtain ⟨k, hk, hxk⟩ := c
    have one := le_rank (A := [x]) hk
    rw [cnt_one (nd k hk), if_pos (has_true.mp hxk)] at one
    have hxl := has_true.mp ((orAll_of hk hxk).mp hl).2
    rw [if_pos hxl] at up
    have r1 : rank [x] ls = 1 := by
      rw [r]
      rw [r] at one
      split at one <;> simp_all
    by_cases d : x ∈ o
    · have := low o ((orAll_of hk hxk).mpr ⟨ho, has_true.mpr d⟩)
      rw [if_pos d] at f
      omega
    · obtain ⟨k', k1, k2, k3⟩ := near s ho d _ k hk (has_true.mp hxk) (Nat.le_refl _)
      have := low k' ((orAll_of hk hxk).mpr ⟨k1, has_true.mpr k2⟩)
      have := cnt_near (A := opened x row) s ho k1 k2 d k3
      rw [if_neg d] at f
      omega
  · have no : ∀ k ∈ ls, ¬ x ∈ k := fun k hk z => c ⟨k, hk, has_true.mpr z⟩
    have all := orAll_no (ls := ls) (p := has x) fun k hk => by
      cases q : has x k with
      | false => rfl
      | true => exact absurd ⟨k, hk, q⟩ c
    have := low o (by rw [all]; exact ho)
    rw [if_neg (no o ho)] at f
    rw [if_neg (no q hq)] at r
    rw [if_neg (no l (orAll_mem hl))] at up
    omega
end LW

set_option Elab.async false
set_option maxRecDepth 100000
set_option linter.all false
set_option maxHeartbeats 2000000
namespace LW
open PySem PySem.Spec PyProof.Rows L2 PD
theorem v_ranks_fit (n x : Int) (ls : List (List Int)) (s : Smooth n ls) (hx : 0 ≤ x ∧ x < n) (hn : n ≤ 12) :
    m_law_ranks_fit [ofr n ls, .int x, ofr (n - 1) (less (hasno x) x ls), ofr (n - 1) (less (has x) x ls)] = .ok (.bool true) := by
  show endR (g_law_ranks_fit [some (.d (ofr n ls)), some (.d (.int x)), some (.d (ofr (n - 1) (less (hasno x) x ls))), some (.d (ofr (n - 1) (less (has x) x ls))), none, none]) = _
  obtain ⟨rows, er, hr, hz⟩ := v_parts (n - 1) (by omega) (by omega)
  have j0 : ∀ m ks, oIx (ofr m ks) (.int 0) = .ok (.int m) := fun _ _ => rfl
  have j1 : ∀ m ks, oIx (ofr m ks) (.int 1) = .ok (tt ks) := fun _ _ => rfl
  have n1 := less_ne (x := x) (p := hasno x) s.good.ne
  have n2 := less_ne (x := x) (p := has x) s.good.ne
  have key := forGo_inv (i := 4) (g := b_law_ranks_fit_1) (enc := tu) (fun xs ρ => ∃ o4 o5, ρ = [some (.d (ofr n ls)), some (.d (.int x)), some (.d (ofr (n - 1) (less (hasno x) x ls))), some (.d (ofr (n - 1) (less (has x) x ls))), o4, o5] ∧ ∀ r ∈ xs, Asc (n - 1) r) (by
    rintro r xs ρ ⟨o4, o5, rfl, hk⟩
    have ra := hk r List.mem_cons_self
    have rl := ra.len
    have e0 := v_opened x r (by omega)
    have e1 := v_rank r _ n1
    have e2 := v_rank r _ n2
    have e3 := v_rank (opened x r) ls s.good.ne
    have e4 := v_rank (opened x r ++ [x]) ls s.good.ne
    have e5 : m_law_rank [tu [x], tt ls] = .ok (.int (rank [x] ls)) := v_rank [x] ls s.good.ne
    have ol : (opened x r).length ≤ 1000 := by
      unfold opened
      rw [List.length_append, List.length_map]
      have a := List.length_filter_le (fun y => decide (y < x)) r
      have b := List.length_filter_le (fun y => decide (x ≤ y)) r
      omega
    have e6 : oAdd (tu (opened x r)) (tu [x]) = .ok (tu (opened x r ++ [x])) := oAdd_tu (a := opened x r) (b := [x]) (by simp; omega)
    rw [rank_without s] at e1
    rw [rank_holding s] at e2
    refine ⟨[some (.d (ofr n ls)), some (.d (.int x)), some (.d (ofr (n - 1) (less (hasno x) x ls))), some (.d (ofr (n - 1) (less (has x) x ls))), some (.d (tu r)), some (.d (tu (opened x r)))], ?_, _, _, rfl, fun y hy => hk y (List.mem_cons_of_mem _ hy)⟩
    simp [b_law_ranks_fit_1, e0, j1, e1, e2, e3, e4, e5, e6])
  obtain ⟨ρ', e, o4, o5, rfl, _⟩ := key rows [some (.d (ofr n ls)), some (.d (.int x)), some (.d (ofr (n - 1) (less (hasno x) x ls))), some (.d (ofr (n - 1) (less (has x) x ls))), none, none] ⟨none, none, rfl, fun r hk => (hr r).mp hk⟩
  simp [g_law_ranks_fit, j0, er, e]
end LW

set_option Elab.async false
set_option maxRecDepth 100000
set_option linter.all false
set_option maxHeartbeats 2000000
namespace LW
open PySem PySem.Spec PyProof.Rows L2 PD
/-- one choice behind the other -/
def sel (p q : List Int → Bool) (ls : List (List Int)) : List (List Int) := orAll (orAll ls (ls.filter p)) ((orAll ls (ls.filter p)).filter q)
theorem mem_less2 {a y : Int} {p q' q : List Int → Bool} {ls : List (List Int)} {z : List Int} (hq : ∀ l, q' (gone a l) = q l) : z ∈ less q' y (less p a ls) ↔ ∃ l, l ∈ sel p q ls ∧ gone y (gone a l) = z := by
  have h : ∀ k, k ∈ orAll (less p a ls) ((less p a ls).filter q') ↔ ∃ l, l ∈ sel p q ls ∧ gone a l = k := fun k => by
    have pm := orAll_perm (sortT_perm ((orAll ls (ls.filter p)).map (gone a))) q'
    rw [orAll_map] at pm
    have e : (orAll ls (ls.filter p)).filter (q' ∘ gone a) = (orAll ls (ls.filter p)).filter q := List.filter_congr fun l _ => hq l
    rw [e] at pm
    rw [show less p a ls = sortT ((orAll ls (ls.filter p)).map (gone a)) from rfl, pm.mem_iff, List.mem_map]
    rfl
  rw [mem_less]
  constructor
  · rintro ⟨k, hk, e⟩
    obtain ⟨l, hl, rfl⟩ := (h k).mp hk
    exact ⟨l, hl, e⟩
  · rintro ⟨l, hl, e⟩
    exact ⟨_, (h _).mpr ⟨l, hl, rfl⟩, e⟩
theorem sel_both {p q : List Int → Bool} {ls : List (List Int)} {o l : List Int} (ho : o ∈ ls) (hp : p o = true) (hq : q o = true) : l ∈ sel p q ls ↔ l ∈ ls ∧ p l = true ∧ q l = true := by
  unfold sel
  rw [orAll_of (o := o) ((orAll_of ho hp).mpr ⟨ho, hp⟩) hq, orAll_of ho hp, and_assoc]
theorem sel_left {p q : List Int → Bool} {ls : List (List Int)} (h : ∀ l ∈ ls, p l = false) : sel p q ls = orAll ls (ls.filter q) := by
  unfold sel
  rw [orAll_no h]
theorem sel_right {p q : List Int → Bool} {ls : List (List Int)} (h : ∀ l ∈ ls, q l = false) : sel p q ls = orAll ls (ls.filter p) := by
  unfold sel
  exact orAll_no fun l hl => h l (orAll_mem hl)
theorem sel_one {p q : List Int → Bool} {ls : List (List Int)} {o l : List Int} (ho : o ∈ ls) (hp : p o = true) (h : ∀ l ∈ ls, p l = true → q l = false) : l ∈ sel p q ls ↔ l ∈ ls ∧ p l = true := by
  unfold sel
  rw [orAll_no fun l hl => h l (orAll_mem hl) ((orAll_of ho hp).mp hl).2, orAll_of ho hp]
theorem sel_comm {f : List Int → List Int} {p q : List Int → Bool} {ls : List (List Int)}
    (h : (∃ l ∈ ls, p l = true) → (∃ l ∈ ls, q l = true) → (∃ l ∈ ls, p l = true ∧ q l = true) ∨ ((∀ l ∈ ls, p l = true → ∃ m ∈ ls, q m = true ∧ f l = f m) ∧ ∀ m ∈ ls, q m = true → ∃ l ∈ ls, p l = true ∧ f m = f l)) (z : List Int) :
    (∃ l, l ∈ sel p q ls ∧ f l = z) ↔ ∃ l, l ∈ sel q p ls ∧ f l = z := by
  by_cases c : ∃ l ∈ ls, p l = true ∧ q l = true
  · obtain ⟨o, ho, hp, hq⟩ := c
    constructor
    · rintro ⟨l, hl, e⟩
      obtain ⟨a, b, d⟩ := (sel_both ho hp hq).mp hl
      exact ⟨l, (sel_both ho hq hp).mpr ⟨a, d, b⟩, e⟩
    · rintro ⟨l, hl, e⟩
      obtain ⟨a, b, d⟩ := (sel_both ho hq hp).mp hl
      exact ⟨l, (sel_both ho hp hq).mpr ⟨a, d, b⟩, e⟩
  · have nf : ∀ {r : List Int → Bool}, ¬ (∃ l ∈ ls, r l = true) → ∀ l ∈ ls, r l = false := fun {r} n l hl => by
      cases e : r l with
      | false => rfl
      | true => exact absurd ⟨l, hl, e⟩ n
    by_cases a : ∃ l ∈ ls, p l = true
    · by_cases b : ∃ l ∈ ls, q l = true
      · rcases h a b with d | ⟨d1, d2⟩
        · exact absurd d c
        · obtain ⟨o, ho, hp⟩ := a
          obtain ⟨u, hu, hq⟩ := b
          have n1 : ∀ l ∈ ls, p l = true → q l = false := fun l hl e => by
            cases e2 : q l with
            | false => rfl
            | true => exact absurd ⟨l, hl, e, e2⟩ c
          have n2 : ∀ l ∈ ls, q l = true → p l = false := fun l hl e => by
            cases e2 : p l with
            | false => rfl
            | true => exact absurd ⟨l, hl, e2, e⟩ c
          constructor
          · rintro ⟨l, hl, e⟩
            obtain ⟨x1, x2⟩ := (sel_one ho hp n1).mp hl
            obtain ⟨m, m1, m2, m3⟩ := d1 l x1 x2
            exact ⟨m, (sel_one hu hq n2).mpr ⟨m1, m2⟩, m3 ▸ e⟩
          · rintro ⟨l, hl, e⟩
            obtain ⟨x1, x2⟩ := (sel_one hu hq n2).mp hl
            obtain ⟨m, m1, m2, m3⟩ := d2 l x1 x2
            exact ⟨m, (sel_one ho hp n1).mpr ⟨m1, m2⟩, m3 ▸ e⟩
      · rw [sel_right (nf b), sel_left (nf b)]
    · rw [sel_left (nf a), sel_right (nf a)]
theorem gone_gone {n a b : Int} {l : List Int} (h : Asc n l) (h0 : 0 ≤ a) (hab : a < b) (hb : b < n) : gone (b - 1) (gone a l) = gone a (gone b l) := by
  refine asc_ext (gone_asc (gone_asc h ⟨h0, by omega⟩) ⟨by omega, by omega⟩).1 (gone_asc (gone_asc h ⟨by omega, hb⟩) ⟨h0, by omega⟩).1 fun y => ?_
  rw [mem_gone, mem_gone, mem_gone, mem_gone, mem_gone, mem_gone]
  by_cases c : y < a
  · rw [if_pos (by omega), if_pos c, if_pos c, if_pos (by omega)]
  · by_cases d : y < b - 1
    · rw [if_pos d, if_neg c, if_neg c, if_pos (by omega)]
    · rw [if_neg d, if_neg (by omega), if_neg c, if_neg (by omega)]
theorem less_comm {n a b : Int} {ls : List (List Int)} {p p' q q' : List Int → Bool} (s : Smooth n ls) (h0 : 0 ≤ a) (hab : a < b) (hb : b < n) (hp : Of a p) (hq : Of b q) (op' : Of a p') (oq' : Of (b - 1) q') (hq' : ∀ l, q' (gone a l) = q l) (hp' : ∀ l, p' (gone b l) = p l)
    (h : (∃ l ∈ ls, p l = true) → (∃ l ∈ ls, q l = true) → (∃ l ∈ ls, p l = true ∧ q l = true) ∨ ((∀ l ∈ ls, p l = true → ∃ m ∈ ls, q m = true ∧ gone a (gone b l) = gone a (gone b m)) ∧ ∀ m ∈ ls, q m = true → ∃ l ∈ ls, p l = true ∧ gone a (gone b m) = gone a (gone b l))) :
    less q' (b - 1) (less p a ls) = less p' a (less q b ls) := by
  have s1 := (s.less (x := a) ⟨h0, by omega⟩ hp).less (x := b - 1) ⟨by omega, by omega⟩ oq'
  have s2 := (s.less (x := b) ⟨by omega, hb⟩ hq).less (x := a) ⟨h0, by omega⟩ op'
  refine asd_ext s1.good.asd s2.good.asd fun z => ?_
  rw [mem_less2 hq', mem_less2 hp', ← sel_comm (f := fun l => gone a (gone b l)) h z]
  constructor
  · rintro ⟨l, hl, e⟩
    rw [gone_gone (s.good.asc l (orAll_mem (orAll_mem hl))) h0 hab hb] at e
    exact ⟨l, hl, e⟩
  · rintro ⟨l, hl, e⟩
    refine ⟨l, hl, ?_⟩
    rw [gone_gone (s.good.asc l (orAll_mem (orAll_mem hl))) h0 hab hb]
    exact e
end LW

set_option Elab.async false
set_option maxRecDepth 100000
set_option linter.all false
set_option maxHeartbeats 2000000
namespace LW
open PySem PySem.Spec PyProof.Rows L2 PD
/-- alike outside two things -/
def Alike (x y : Int) (l m : List Int) : Prop := ∀ z, ¬ z = x → ¬ z = y → (z ∈ l ↔ z ∈ m)
theorem gone_alike {n a b : Int} {l m : List Int} (hl : Asc n l) (hm : Asc n m) (h0 : 0 ≤ a) (hab : a < b) (hb : b < n) (h : Alike a b l m) : gone a (gone b l) = gone a (gone b m) := by
  refine asc_ext (gone_asc (gone_asc hl ⟨by omega, hb⟩) ⟨h0, by omega⟩).1 (gone_asc (gone_asc hm ⟨by omega, hb⟩) ⟨h0, by omega⟩).1 fun y => ?_
  rw [mem_gone, mem_gone, mem_gone, mem_gone, mem_gone, mem_gone]
  by_cases c : y < a
  · rw [if_pos c, if_pos c, if_pos (by omega), if_pos (by omega)]
    exact h y (by omega) (by omega)
  · rw [if_neg c, if_neg c]
    by_cases d : y + 1 < b
    · rw [if_pos d, if_pos d]
      exact h _ (by omega) (by omega)
    · rw [if_neg d, if_neg d]
      exact h _ (by omega) (by omega)
theorem lack {n x y : Int} {ls : List (List Int)} {l o : List Int} (s : Smooth n ls) (hxy : ¬ x = y) (no : ¬ ∃ k ∈ ls, ¬ x ∈ k ∧ ¬ y ∈ k) (hl : l ∈ ls) (hx : ¬ x ∈ l) (ho : o ∈ ls) (hy : ¬ y ∈ o) : ∃ m ∈ ls, ¬ y ∈ m ∧ Alike x y l m := by
  have hyl : y ∈ l := Classical.byContradiction fun z => no ⟨l, hl, hx, z⟩
  obtain ⟨t, t1, t2, t3⟩ := s.exc l hl y hyl o ho hy
  have hty : ¬ y = t := fun z => hy (z ▸ t1)
  have ny : ¬ y ∈ exch l y t := fun z => (mem_exch.mp z).elim (fun z => z.2 rfl) hty
  have hxm : x ∈ exch l y t := Classical.byContradiction fun z => no ⟨_, t3, z, ny⟩
  have htx : x = t := (mem_exch.mp hxm).elim (fun z => absurd z.1 hx) id
  refine ⟨_, t3, ny, fun z z1 z2 => ?_⟩
  rw [mem_exch]
  constructor
  · intro h
    exact .inl ⟨h, z2⟩
  · rintro (h | h)
    · exact h.1
    · exact absurd (h.trans htx.symm) z1
theorem both {n x y : Int} {ls : List (List Int)} {l o : List Int} (s : Smooth n ls) (hxy : ¬ x = y) (no : ¬ ∃ k ∈ ls, x ∈ k ∧ y ∈ k) (hl : l ∈ ls) (hx : x ∈ l) (ho : o ∈ ls) (hy : y ∈ o) : ∃ m ∈ ls, y ∈ m ∧ Alike x y l m := by
  have hyl : ¬ y ∈ l := fun z => no ⟨l, hl, hx, z⟩
  obtain ⟨k, k1, k2, k3⟩ := near s hl hyl _ o ho hy (Nat.le_refl _)
  have hxk : ¬ x ∈ k := fun z => no ⟨k, k1, z, k2⟩
  have la := s.good.asc l hl
  have ka := s.good.asc k k1
  have sub : (k.filter fun z => !(z == y)).Sublist (l.filter fun z => !(z == x)) := asc_sub (ka.1.filter _) (la.1.filter _) fun z hz => by
    obtain ⟨z1, z2⟩ := List.mem_filter.mp hz
    have z3 : ¬ z = y := by simpa using z2
    exact List.mem_filter.mpr ⟨k3 z z1 z3, by simpa using fun e : z = x => hxk (e ▸ z1)⟩
  have e1 := gone_len (x := y) ka.nodup
  have e2 := gone_len (x := x) la.nodup
  unfold gone at e1 e2
  rw [List.length_map, if_pos k2] at e1
  rw [List.length_map, if_pos hx] at e2
  have e := sub.eq_of_length (by rw [e1, e2, s.eqs k k1 l hl])
  refine ⟨k, k1, k2, fun z z1 z2 => ?_⟩
  constructor
  · intro h
    have : z ∈ l.filter fun z => !(z == x) := List.mem_filter.mpr ⟨h, by simpa using z1⟩
    rw [← e] at this
    exact (List.mem_filter.mp this).1
  · intro h
    exact k3 z h z2
theorem Alike.swap {x y : Int} {l m : List Int} (h : Alike x y l m) : Alike y x l m := fun z z1 z2 => h z z2 z1
theorem one_of_each {n x y : Int} {ls : List (List Int)} {l o : List Int} (s : Smooth n ls) (hxy : ¬ x = y) (hl : l ∈ ls) (hx : x ∈ l) (ho : o ∈ ls) (hy : ¬ y ∈ o) : ∃ m ∈ ls, x ∈ m ∧ ¬ y ∈ m := by
  by_cases c : y ∈ l
  · obtain ⟨t, t1, t2, t3⟩ := s.exc l hl y c o ho hy
    exact ⟨_, t3, mem_exch.mpr (.inl ⟨hx, hxy⟩), fun z => (mem_exch.mp z).elim (fun z => z.2 rfl) fun z => hy (z ▸ t1)⟩
  · exact ⟨l, hl, hx, c⟩
section
variable {n a b : Int} {ls : List (List Int)} (s : Smooth n ls) (h0 : 0 ≤ a) (hab : a < b) (hb : b < n)
theorem has_up {a b : Int} (hab : a < b) (l : List Int) : has (b - 1) (gone a l) = has b l := (Bool.eq_iff_iff.mpr (by rw [has_true, has_true, mem_gone, if_neg (by omega), show b - 1 + 1 = b by omega]))
theorem has_down {a b : Int} (hab : a < b) (l : List Int) : has a (gone b l) = has a l := (Bool.eq_iff_iff.mpr (by rw [has_true, has_true, mem_gone, if_pos hab]))
theorem hasno_has (x : Int) (l : List Int) : hasno x l = !has x l := rfl
theorem hasno_up {a b : Int} (hab : a < b) (l : List Int) : hasno (b - 1) (gone a l) = hasno b l := by rw [hasno_has, hasno_has, has_up hab]
theorem hasno_down {a b : Int} (hab : a < b) (l : List Int) : hasno a (gone b l) = hasno a l := by rw [hasno_has, hasno_has, has_down hab]
include s h0 hab hb
theorem comm_ww : less (hasno (b - 1)) (b - 1) (less (hasno a) a ls) = less (hasno a) a (less (hasno b) b ls) := by
  refine less_comm s h0 hab hb (of_hasno a) (of_hasno b) (of_hasno a) (of_hasno _) (hasno_up hab) (hasno_down hab) ?_
  rintro ⟨u, hu, hu'⟩ ⟨v, hv, hv'⟩
  by_cases c : ∃ k ∈ ls, ¬ a ∈ k ∧ ¬ b ∈ k
  · obtain ⟨k, k1, k2, k3⟩ := c
    exact .inl ⟨k, k1, hasno_true.mpr k2, hasno_true.mpr k3⟩
  · refine .inr ⟨fun l hl e => ?_, fun l hl e => ?_⟩
    · obtain ⟨m, m1, m2, m3⟩ := lack s (by omega) c hl (hasno_true.mp e) hv (hasno_true.mp hv')
      exact ⟨m, m1, hasno_true.mpr m2, gone_alike (s.good.asc l hl) (s.good.asc m m1) h0 hab hb m3⟩
    · obtain ⟨m, m1, m2, m3⟩ := lack (x := b) (y := a) s (by omega) (fun ⟨k, k1, k2, k3⟩ => c ⟨k, k1, k3, k2⟩) hl (hasno_true.mp e) hu (hasno_true.mp hu')
      exact ⟨m, m1, hasno_true.mpr m2, gone_alike (s.good.asc l hl) (s.good.asc m m1) h0 hab hb m3.swap⟩
theorem comm_hh : less (has (b - 1)) (b - 1) (less (has a) a ls) = less (has a) a (less (has b) b ls) := by
  refine less_comm s h0 hab hb (of_has a) (of_has b) (of_has a) (of_has _) (has_up hab) (has_down hab) ?_
  rintro ⟨u, hu, hu'⟩ ⟨v, hv, hv'⟩
  by_cases c : ∃ k ∈ ls, a ∈ k ∧ b ∈ k
  · obtain ⟨k, k1, k2, k3⟩ := c
    exact .inl ⟨k, k1, has_true.mpr k2, has_true.mpr k3⟩
  · refine .inr ⟨fun l hl e => ?_, fun l hl e => ?_⟩
    · obtain ⟨m, m1, m2, m3⟩ := both s (by omega) c hl (has_true.mp e) hv (has_true.mp hv')
      exact ⟨m, m1, has_true.mpr m2, gone_alike (s.good.asc l hl) (s.good.asc m m1) h0 hab hb m3⟩
    · obtain ⟨m, m1, m2, m3⟩ := both (x := b) (y := a) s (by omega) (fun ⟨k, k1, k2, k3⟩ => c ⟨k, k1, k3, k2⟩) hl (has_true.mp e) hu (has_true.mp hu')
      exact ⟨m, m1, has_true.mpr m2, gone_alike (s.good.asc l hl) (s.good.asc m m1) h0 hab hb m3.swap⟩
theorem comm_hw : less (hasno (b - 1)) (b - 1) (less (has a) a ls) = less (has a) a (less (hasno b) b ls) := by
  refine less_comm s h0 hab hb (of_has a) (of_hasno b) (of_has a) (of_hasno _) (hasno_up hab) (has_down hab) ?_
  rintro ⟨u, hu, hu'⟩ ⟨v, hv, hv'⟩
  obtain ⟨m, m1, m2, m3⟩ := one_of_each (y := b) s (by omega) hu (has_true.mp hu') hv (hasno_true.mp hv')
  exact .inl ⟨m, m1, has_true.mpr m2, hasno_true.mpr m3⟩
theorem comm_wh : less (has (b - 1)) (b - 1) (less (hasno a) a ls) = less (hasno a) a (less (has b) b ls) := by
  refine less_comm s h0 hab hb (of_hasno a) (of_has b) (of_hasno a) (of_has _) (has_up hab) (hasno_down hab) ?_
  rintro ⟨u, hu, hu'⟩ ⟨v, hv, hv'⟩
  obtain ⟨m, m1, m2, m3⟩ := one_of_each (x := b) (y := a) s (by omega) hv (has_true.mp hv') hu (hasno_true.mp hu')
  exact .inl ⟨m, m1, hasno_true.mpr m3, has_true.mpr m2⟩
end
end LW

set_option Elab.async false
set_option maxRecDepth 100000
set_option linter.all false
set_option maxHeartbeats 4000000
namespace LW
open PySem PySem.Spec PyProof.Rows L2 PD
theorem v_in_both (n a b : Int) (ls : List (List Int)) (s : Smooth n ls) (h0 : 0 ≤ a) (hab : a < b) (hb : b < n) (hn : n ≤ 12) :
    m_law_in_both_orders [ofr n ls, .int a, .int b] = .ok (.bool true) := by
  show endR (g_law_in_both_orders [some (.d (ofr n ls)), some (.d (.int a)), some (.d (.int b)), none, none, none, none, none, none, none, none]) = _
  have j0 : ∀ m ks, oIx (ofr m ks) (.int 0) = .ok (.int m) := fun _ _ => rfl
  have j1 : ∀ m ks, oIx (ofr m ks) (.int 1) = .ok (tt ks) := fun _ _ => rfl
  have w : ∀ m ks x, m_without [ofr m ks, .int x] = .ok (ofr (m - 1) (less (hasno x) x ks)) := fun m ks x => v_withoutL m ks x
  have h : ∀ m ks x, m_holding [ofr m ks, .int x] = .ok (ofr (m - 1) (less (has x) x ks)) := fun m ks x => v_holdingL m ks x
  have sw := s.less (x := a) ⟨h0, by omega⟩ (of_hasno a)
  have sh := s.less (x := a) ⟨h0, by omega⟩ (of_has a)
  have tw := sw.tells (by omega) (by omega)
  have th := sh.tells (by omega) (by omega)
  have s1 := v_some sw.good (by omega)
  have s2 := v_some sh.good (by omega)
  have f := v_ranks_fit n a ls s ⟨h0, by omega⟩ hn
  have bb : 0 ≤ b - 1 ∧ b - 1 < n - 1 := by omega
  have n2 : n - 2 = n - 1 - 1 := by omega
  have t1 := v_some (sw.less bb (of_hasno (b - 1))).good (by omega)
  have t2 := v_some (sh.less bb (of_has (b - 1))).good (by omega)
  have t3 := v_some (sh.less bb (of_hasno (b - 1))).good (by omega)
  have t4 := v_some (sw.less bb (of_has (b - 1))).good (by omega)
  rw [comm_ww s h0 hab hb] at t1
  rw [comm_hh s h0 hab hb] at t2
  rw [comm_hw s h0 hab hb] at t3
  rw [comm_wh s h0 hab hb] at t4
  have i1 : isNone .none = true := rfl
  have is1 : oIsNot (.bool true) (.bool true) = .ok (.bool false) := rfl
  rw [← n2] at t1 t2 t3 t4
  have l4 : ∀ A B C D : PyData, lstR [A, B, C, D] = .ok (.list [A, B, C, D]) := fun A B C D => lstR_ok (by show 4 ≤ 100000; decide)
  have it : ∀ xs : List PyData, items (.list xs) = .ok xs := fun _ => rfl
  have c4 : lcR (fun d => R.ok true) (fun d => m_law_is_some_offer [d, .int (n - 2)])
      [ofr (n - 2) (less (hasno a) a (less (hasno b) b ls)), ofr (n - 2) (less (has a) a (less (has b) b ls)), ofr (n - 2) (less (has a) a (less (hasno b) b ls)), ofr (n - 2) (less (hasno a) a (less (has b) b ls))]
      = .ok [.bool true, .bool true, .bool true, .bool true] := by
    simp only [lcR, nx, if_true, t1, t2, t3, t4]
  have al : bAll [.list [.bool true, .bool true, .bool true, .bool true]] = .ok (.bool true) := rfl
  simp [g_law_in_both_orders, j0, j1, w, h, s1, s2, tw.1, tw.2, th.1, th.2, f, i1, is1, comm_ww s h0 hab hb, comm_hh s h0 hab hb, comm_hw s h0 hab hb, comm_wh s h0 hab hb, oNe_ofr, oEq_ofr, ← n2, l4, it, c4, al]
end LW

set_option Elab.async false
set_option maxRecDepth 100000
set_option linter.all false
set_option maxHeartbeats 2000000
namespace LW
open PySem PySem.Spec PyProof.Rows L2 PD
/-- `near`, and what the first lot shares with l stays -/
theorem near_keep {n x : Int} {ls : List (List Int)} {l : List Int} (s : Smooth n ls) (hl : l ∈ ls) (hxl : ¬ x ∈ l) : ∀ (m : Nat) (k : List Int), k ∈ ls → x ∈ k → (k.filter fun y => !decide (y ∈ l)).length ≤ m → ∃ k' ∈ ls, x ∈ k' ∧ (∀ y ∈ k', ¬ y = x → y ∈ l) ∧ ∀ y ∈ k, y ∈ l → y ∈ k'
  | 0, k, hk, hxk, hm => by
    have e := List.eq_nil_of_length_eq_zero (Nat.le_zero.mp hm)
    have : x ∈ k.filter fun y => !decide (y ∈ l) := List.mem_filter.mpr ⟨hxk, by simpa using hxl⟩
    rw [e] at this
    cases this
  | m + 1, k, hk, hxk, hm => by
    by_cases c : ∀ y ∈ k, ¬ y = x → y ∈ l
    · exact ⟨k, hk, hxk, c, fun y hy _ => hy⟩
    · obtain ⟨z, hz⟩ := Classical.not_forall.mp c
      obtain ⟨z1, hz⟩ := Classical.not_imp.mp hz
      obtain ⟨z2, z3⟩ := Classical.not_imp.mp hz
      obtain ⟨t, t1, t2, t3⟩ := s.exc k hk z z1 l hl z3
      have ka := s.good.asc k hk
      have ea := s.good.asc _ t3
      have sub : ((exch k z t).filter fun y => !decide (y ∈ l)).length ≤ ((k.filter fun y => !decide (y ∈ l)).filter fun y => !(y == z)).length := by
        refine sub_len (ea.1.filter _) ((ka.1.filter _).filter _) fun y hy => ?_
        obtain ⟨y1, y2⟩ := List.mem_filter.mp hy
        have y3 : ¬ y ∈ l := by simpa using y2
        rcases mem_exch.mp y1 with q | q
        · exact List.mem_filter.mpr ⟨List.mem_filter.mpr ⟨q.1, y2⟩, by simpa using q.2⟩
        · exact absurd (q ▸ t1) y3
      have one := gone_len (x := z) (l := k.filter fun y => !decide (y ∈ l)) (ka.nodup.filter _)
      unfold gone at one
      rw [List.length_map, if_pos (List.mem_filter.mpr ⟨z1, by simpa using z3⟩)] at one
      obtain ⟨k', k1, k2, k3, k4⟩ := near_keep s hl hxl m (exch k z t) t3 (mem_exch.mpr (.inl ⟨hxk, fun e => z2 e.symm⟩)) (by omega)
      exact ⟨k', k1, k2, k3, fun y hy hyl => k4 y (mem_exch.mpr (.inl ⟨hy, fun e => z3 (e ▸ hyl)⟩)) hyl⟩
/-- the exchange from the other side: x comes in, a thing of l alone goes -/
theorem exc_in {n x : Int} {ls : List (List Int)} {l o : List Int} (s : Smooth n ls) (hl : l ∈ ls) (hxl : ¬ x ∈ l) (ho : o ∈ ls) (hxo : x ∈ o) : ∃ t ∈ l, ¬ t ∈ o ∧ exch l t x ∈ ls := by
  obtain ⟨k, k1, k2, k3, k4⟩ := near_keep s hl hxl _ o ho hxo (Nat.le_refl _)
  have la := s.good.asc l hl
  have ka := s.good.asc k k1
  have e := s.eqs k k1 l hl
  have e1 := gone_len (x := x) ka.nodup
  unfold gone at e1
  rw [List.length_map, if_pos k2] at e1
  have pos := List.length_pos_of_mem k2
  -- some thing of l is not in k
  have out : ∃ t, t ∈ l ∧ ¬ t ∈ k := Classical.byContradiction fun no => by
    have a : ∀ t ∈ l, t ∈ k.filter fun y => !(y == x) := fun t ht => List.mem_filter.mpr ⟨Classical.byContradiction fun z => no ⟨t, ht, z⟩, by simpa using fun z : t = x => hxl (z ▸ ht)⟩
    have := sub_len la.1 (ka.1.filter _) a
    omega
  obtain ⟨t, t1, t2⟩ := out
  have e2 := gone_len (x := t) la.nodup
  unfold gone at e2
  rw [List.length_map, if_pos t1] at e2
  have sub : (k.filter fun y => !(y == x)).Sublist (l.filter fun y => !(y == t)) := asc_sub (ka.1.filter _) (la.1.filter _) fun y hy => by
    obtain ⟨y1, y2⟩ := List.mem_filter.mp hy
    exact List.mem_filter.mpr ⟨k3 y y1 (by simpa using y2), by simpa using fun z : y = t => t2 (z ▸ y1)⟩
  have same := sub.eq_of_length (by rw [e1, e2, e])
  refine ⟨t, t1, fun z => t2 (k4 t z t1), ?_⟩
  have : exch l t x = k := asc_ext (exch_asc la hxl (ka.2 x k2)).1 ka.1 fun y => by
    rw [mem_exch]
    constructor
    · rintro (⟨a, b⟩ | a)
      · have : y ∈ l.filter fun y => !(y == t) := List.mem_filter.mpr ⟨a, by simpa using b⟩
        rw [← same] at this
        exact (List.mem_filter.mp this).1
      · exact a ▸ k2
    · intro h
      by_cases c : y = x
      · exact .inr c
      · exact .inl ⟨k3 y h c, fun z => t2 (z ▸ h)⟩
  rw [this]
  exact k1
theorem rest_exch {n t x : Int} {l : List Int} (h : Asc n l) (hx : ¬ x ∈ l) (hb : 0 ≤ x ∧ x < n) (ht : t ∈ l) : exch (rest n l) x t = rest n (exch l t x) := by
  have htx : ¬ t = x := fun z => hx (z ▸ ht)
  refine asc_ext (exch_asc (rest_asc n l) (fun z => (mem_rest.mp z).2 ht) (h.2 t ht)).1 (rest_asc _ _).1 fun y => ?_
  rw [mem_exch, mem_rest, mem_rest, mem_exch]
  constructor
  · rintro (⟨⟨a, b⟩, c⟩ | a)
    · exact ⟨a, fun z => z.elim (fun z => b z.1) c⟩
    · rw [a]
      exact ⟨h.2 t ht, fun z => z.elim (fun z => z.2 rfl) htx⟩
  · rintro ⟨a, b⟩
    by_cases c : y = t
    · exact .inr c
    · exact .inl ⟨⟨a, fun z => b (.inl ⟨z, c⟩)⟩, fun z => b (.inr z)⟩
theorem mem_opp {n : Int} {ls : List (List Int)} {l : List Int} : l ∈ opp n ls ↔ ∃ k ∈ ls, rest n k = l := by
  unfold opp
  rw [mem_sortT, List.mem_map]
theorem rest_len {n : Int} {l : List Int} (h : Asc n l) : (rest n l).length + l.length = (rangeI 0 n).length := by
  have e : l = (rangeI 0 n).filter fun x => decide (x ∈ l) := asc_ext h.1 ((rangeI_asc 0 n).filter _) fun y => by
    rw [List.mem_filter, mem_rangeI]
    exact ⟨fun z => ⟨h.2 y z, decide_eq_true z⟩, fun z => of_decide_eq_true z.2⟩
  have sp : ∀ (m : List Int) (p : Int → Bool), (m.filter fun y => !p y).length + (m.filter p).length = m.length := fun m p => by
    induction m with
    | nil => rfl
    | cons y m ih =>
      cases q : p y with
      | true => rw [List.filter_cons_of_neg (p := fun y => !p y) (by simp [q]), List.filter_cons_of_pos (p := p) q, List.length_cons, List.length_cons]; omega
      | false => rw [List.filter_cons_of_pos (p := fun y => !p y) (by simp [q]), List.filter_cons_of_neg (p := p) (by simp [q]), List.length_cons, List.length_cons]; omega
  have := sp (rangeI 0 n) fun x => decide (x ∈ l)
  rw [← e] at this
  exact this
theorem Smooth.opp {n : Int} {ls : List (List Int)} (s : Smooth n ls) : Smooth n (opp n ls) := by
  refine ⟨s.good.opp, ?_, ?_⟩
  · intro l' hl' x hx o' ho' nx
    obtain ⟨l, hl, rfl⟩ := mem_opp.mp hl'
    obtain ⟨o, ho, rfl⟩ := mem_opp.mp ho'
    obtain ⟨xb, xl⟩ := mem_rest.mp hx
    have xo : x ∈ o := Classical.byContradiction fun z => nx (mem_rest.mpr ⟨xb, z⟩)
    obtain ⟨t, t1, t2, t3⟩ := exc_in s hl xl ho xo
    refine ⟨t, mem_rest.mpr ⟨(s.good.asc l hl).2 t t1, t2⟩, fun z => (mem_rest.mp z).2 t1, ?_⟩
    rw [rest_exch (s.good.asc l hl) xl xb t1]
    exact mem_opp.mpr ⟨_, t3, rfl⟩
  · intro l' hl' k' hk'
    obtain ⟨l, hl, rfl⟩ := mem_opp.mp hl'
    obtain ⟨k, hk, rfl⟩ := mem_opp.mp hk'
    have a := rest_len (s.good.asc l hl)
    have b := rest_len (s.good.asc k hk)
    have c := s.eqs l hl k hk
    omega
end LW

set_option Elab.async false
set_option maxRecDepth 100000
set_option linter.all false
set_option maxHeartbeats 2000000
namespace LW
open PySem PySem.Spec PyProof.Rows L2 PD
/-- the things of a row in one class -/
def cls (cf : Int → Int) (k : Int) (l : List Int) : Nat := (l.filter fun x => cf x == k).length
def Fit (cf bf : Int → Int) (l : List Int) : Prop := ∀ k, 0 ≤ k → k < 3 → (cls cf k l : Int) ≤ bf k
theorem cls_sum {cf : Int → Int} : ∀ {l : List Int}, (∀ x ∈ l, 0 ≤ cf x ∧ cf x < 3) → l.length = cls cf 0 l + cls cf 1 l + cls cf 2 l
  | [], _ => rfl
  | x :: l, h => by
    have ih := cls_sum (cf := cf) (l := l) fun y hy => h y (List.mem_cons_of_mem _ hy)
    have hx := h x List.mem_cons_self
    have one : ∀ k, cls cf k (x :: l) = cls cf k l + if cf x = k then 1 else 0 := fun k => by
      unfold cls
      by_cases c : cf x = k
      · rw [List.filter_cons_of_pos (by simpa using c), if_pos c, List.length_cons]
      · rw [List.filter_cons_of_neg (by simpa using c), if_neg c]
        rfl
    rw [one, one, one, List.length_cons, ih]
    have : cf x = 0 ∨ cf x = 1 ∨ cf x = 2 := by omega
    rcases this with e | e | e <;> rw [e] <;> simp <;> omega
theorem cls_perm {cf : Int → Int} {k : Int} {l m : List Int} (p : l.Perm m) : cls cf k l = cls cf k m := (p.filter _).length_eq
theorem cls_exch {cf : Int → Int} {k x t : Int} {l : List Int} : cls cf k (exch l x t) = cls cf k (l.filter fun y => !(y == x)) + if cf t = k then 1 else 0 := by
  have p : (exch l x t).Perm (l.filter (fun y => !(y == x)) ++ [t]) := (sortD_ints _).2
  rw [cls_perm p]
  unfold cls
  rw [List.filter_append, List.length_append]
  congr 1
  by_cases c : cf t = k
  · rw [if_pos c, List.filter_cons_of_pos (by simpa using c)]
    rfl
  · rw [if_neg c, List.filter_cons_of_neg (by simpa using c)]
    rfl
theorem exch_len {x t : Int} {l : List Int} (nd : l.Nodup) (hx : x ∈ l) : (exch l x t).length = l.length := by
  have p : (exch l x t).Perm (l.filter (fun y => !(y == x)) ++ [t]) := (sortD_ints _).2
  have e := gone_len (x := x) nd
  unfold gone at e
  rw [List.length_map, if_pos hx] at e
  have pos := List.length_pos_of_mem hx
  rw [p.length_eq, List.length_append, e]
  show l.length - 1 + 1 = l.length
  omega
theorem fit_exc {n x : Int} {cf bf : Int → Int} {l o : List Int} (hc : ∀ x, 0 ≤ x → x < n → 0 ≤ cf x ∧ cf x < 3) (la : Asc n l) (oa : Asc n o) (lf : Fit cf bf l) (of : Fit cf bf o) (e : l.length = o.length) (hx : x ∈ l) (nx : ¬ x ∈ o) :
    ∃ t ∈ o, ¬ t ∈ l ∧ Asc n (exch l x t) ∧ Fit cf bf (exch l x t) ∧ (exch l x t).length = l.length := by
  have cr : ∀ {m : List Int}, Asc n m → ∀ y ∈ m, 0 ≤ cf y ∧ cf y < 3 := fun {m} ma y hy => hc y (ma.2 y hy).1 (ma.2 y hy).2
  have g := gone_len (x := x) la.nodup
  unfold gone at g
  rw [List.length_map, if_pos hx] at g
  have pos := List.length_pos_of_mem hx
  have s1 := cls_sum (cf := cf) (cr oa)
  have s2 := cls_sum (cf := cf) (l := l.filter fun y => !(y == x)) fun y hy => cr la y (List.mem_filter.mp hy).1
  have more : ∃ k, (0 ≤ k ∧ k < 3) ∧ cls cf k (l.filter fun y => !(y == x)) < cls cf k o := by
    by_cases a : cls cf 0 (l.filter fun y => !(y == x)) < cls cf 0 o
    · exact ⟨0, by omega, a⟩
    · by_cases b : cls cf 1 (l.filter fun y => !(y == x)) < cls cf 1 o
      · exact ⟨1, by omega, b⟩
      · exact ⟨2, by omega, by omega⟩
  obtain ⟨k, hk, lt⟩ := more
  have new : ∃ t ∈ o, cf t = k ∧ ¬ t ∈ l.filter fun y => !(y == x) := Classical.byContradiction fun no => by
    have : cls cf k o ≤ cls cf k (l.filter fun y => !(y == x)) := sub_len (oa.1.filter _) ((la.1.filter _).filter _) fun y hy => by
      obtain ⟨y1, y2⟩ := List.mem_filter.mp hy
      exact List.mem_filter.mpr ⟨Classical.byContradiction fun z => no ⟨y, y1, by simpa using y2, z⟩, y2⟩
    omega
  obtain ⟨t, t1, t2, t3⟩ := new
  have tl : ¬ t ∈ l := fun z => t3 (List.mem_filter.mpr ⟨z, by simpa using fun e : t = x => nx (e ▸ t1)⟩)
  refine ⟨t, t1, tl, exch_asc la tl (oa.2 t t1), fun j j0 j1 => ?_, exch_len la.nodup hx⟩
  rw [cls_exch]
  by_cases c : cf t = j
  · rw [if_pos c]
    have := of j j0 j1
    rw [← c, t2] at this ⊢
    omega
  · rw [if_neg c]
    have a := lf j j0 j1
    have : cls cf j (l.filter fun y => !(y == x)) ≤ cls cf j l := sub_len ((la.1.filter _).filter _) (la.1.filter _) fun y hy => by
      obtain ⟨y1, y2⟩ := List.mem_filter.mp hy
      exact List.mem_filter.mpr ⟨(List.mem_filter.mp y1).1, y2⟩
    omega
/-- a part of a row that fits does -/
theorem fit_take {cf bf : Int → Int} {l : List Int} (h : Fit cf bf l) (m : Nat) : Fit cf bf (l.take m) := fun k k0 k1 => by
  have a := h k k0 k1
  have b : cls cf k (l.take m) ≤ cls cf k l := ((List.take_sublist m l).filter _).length_le
  omega
theorem asc_take {n : Int} {l : List Int} (h : Asc n l) (m : Nat) : Asc n (l.take m) := ⟨h.1.sublist (List.take_sublist m l), fun x hx => h.2 x (List.mem_of_mem_take hx)⟩
end LW

set_option Elab.async false
set_option maxRecDepth 100000
set_option linter.all false
set_option maxHeartbeats 2000000
namespace LW
open PySem PySem.Spec PyProof.Rows L2 PD
/-- what is kept and what is still to come stand in order -/
def Run (R : List Int → List Int → Prop) (kept xs : List (List Int)) : Prop := kept.Pairwise R ∧ xs.Pairwise R ∧ ∀ a ∈ kept, ∀ b ∈ xs, R a b
theorem Run.keep {R : List Int → List Int → Prop} {x : List Int} {kept xs : List (List Int)} (h : Run R kept (x :: xs)) : Run R (kept ++ [x]) xs := by
  obtain ⟨h1, h2, h3⟩ := h
  obtain ⟨h4, h5⟩ := List.pairwise_cons.mp h2
  refine ⟨List.pairwise_append.mpr ⟨h1, List.pairwise_singleton _ _, fun a ha b hb => ?_⟩, h5, fun a ha b hb => ?_⟩
  · rw [List.mem_singleton.mp hb]
    exact h3 a ha x List.mem_cons_self
  · rcases List.mem_append.mp ha with z | z
    · exact h3 a z b (List.mem_cons_of_mem _ hb)
    · rw [List.mem_singleton.mp z]
      exact h4 b hb
theorem Run.skip {R : List Int → List Int → Prop} {x : List Int} {kept xs : List (List Int)} (h : Run R kept (x :: xs)) : Run R kept xs := ⟨h.1, (List.pairwise_cons.mp h.2.1).2, fun a ha b hb => h.2.2 a ha b (List.mem_cons_of_mem _ hb)⟩
theorem Run.start {R : List Int → List Int → Prop} {xs : List (List Int)} (h : xs.Pairwise R) : Run R [] xs := ⟨.nil, h, fun a ha => by cases ha⟩
theorem v_parts2 (n : Int) (h0 : 0 ≤ n) (h1 : n ≤ 12) : ∃ rows : List (List Int), m_law_parts_of [.int n] = .ok (lt rows) ∧ (∀ r, r ∈ rows ↔ Asc n r) ∧ rows.length = 2 ^ n.toNat ∧ Asd rows := by
  show ∃ rows : List (List Int), endR (g_law_parts_of [some (.d (.int n)), none, none, none]) = _ ∧ _
  have key := forGo_inv (i := 2) (g := b_law_parts_of_1) (enc := PyData.int) (fun xs ρ => ∃ (k : Int) (rows : List (List Int)) (o2 : Option Sl),
    xs = rangeI k n ∧ 0 ≤ k ∧ k ≤ n ∧ ρ = [some (.d (.int n)), some (.d (lt rows)), o2, none] ∧ (∀ r, r ∈ rows ↔ Asc k r) ∧ rows.length = 2 ^ k.toNat ∧ rows.Nodup) (by
    rintro x xs ρ ⟨k, rows, o2, hx, hk, hkn, rfl, hr, hz, hd⟩
    obtain ⟨hk1, rfl, rfl⟩ := rangeI_inv hx
    have hp : 2 ^ x.toNat ≤ 2 ^ 12 := Nat.pow_le_pow_right (by decide) (by omega)
    have e1 : lcR (fun _ => R.ok true) (fun r : List Int => oAdd (tu r) (tu [x])) rows = .ok (rows.map fun r => tu (r ++ [x])) := lcR_mem fun r hm => oAdd_tu (by have := ((hr r).mp hm).len; simp; omega)
    have e2 : oAdd (lt rows) (lt (rows.map fun r => r ++ [x])) = .ok (lt (rows ++ rows.map fun r => r ++ [x])) := oAdd_lt (by rw [List.length_map, hz]; omega)
    refine ⟨[some (.d (.int n)), some (.d (lt (rows ++ rows.map fun r => r ++ [x]))), some (.d (.int x)), none], ?_, x + 1, _, _, rfl, by omega, by omega, rfl, fun r => ?_, ?_, ?_⟩
    · simp [b_law_parts_of_1, e1, e2]
    · rw [List.mem_append, List.mem_map, asc_succ hk, hr r]
      constructor
      · rintro (h | ⟨a, ha, rfl⟩)
        · exact .inl h
        · exact .inr ⟨a, (hr a).mp ha, rfl⟩
      · rintro (h | ⟨a, ha, rfl⟩)
        · exact .inl h
        · exact .inr ⟨a, (hr a).mpr ha, rfl⟩
    · rw [List.length_append, List.length_map, hz, show (x + 1).toNat = x.toNat + 1 by omega, Nat.pow_succ]; omega
    · rw [List.nodup_append]
      refine ⟨hd, List.pairwise_map.mpr (hd.imp fun {a b} ne e => ne (List.append_cancel_right e)), fun a ha b hb e => ?_⟩
      obtain ⟨c, _, rfl⟩ := List.mem_map.mp hb
      have := ((hr a).mp ha).2 x (by rw [e]; simp)
      omega)
  have hi : ∀ r : List Int, r ∈ [[]] ↔ Asc 0 r := fun r => by
    constructor
    · intro h
      rw [List.mem_singleton.mp h]; exact Asc.nil _
    · intro h
      have := h.len
      have : r.length = 0 := by simpa using this
      rw [List.length_eq_zero_iff.mp this]; simp
  obtain ⟨ρ', e, k, rows, o2, hx, hk, hkn, rfl, hr, hz, hd⟩ := key (rangeI 0 n) [some (.d (.int n)), some (.d (lt [[]])), none, none] ⟨0, [[]], none, rfl, by omega, h0, rfl, hi, rfl, by simp⟩
  · have ek : k = n := by
      by_cases h : k < n
      · rw [rangeI_cons h] at hx; cases hx
      · omega
    subst ek
    have hp : 2 ^ k.toNat ≤ 2 ^ 12 := Nat.pow_le_pow_right (by decide) (by omega)
    refine ⟨sortT rows, ?_, fun r => mem_sortT.trans (hr r), ?_, asd_sortT hd⟩
    · simp [g_law_parts_of, rngA1_ok (show k ≤ 100000 by omega) (show -1000 ≤ k by omega), e]
    · rw [(sortT_perm rows).length_eq, hz]
theorem v_antichain2 (rows : List (List Int)) (hz : rows.length ≤ 5000) : ∃ ks : List (List Int), m_law_antichain [lt rows] = .ok (tt ks) ∧ (∀ x, x ∈ ks ↔ x ∈ rows ∧ Top rows x) ∧ Asd ks ∧ ks.length ≤ rows.length := by
  show ∃ ks : List (List Int), endR (g_law_antichain [some (.d (lt rows)), none, none, none]) = _ ∧ _
  have key := forGo_inv (i := 2) (g := b_law_antichain_1) (enc := tu) (fun xs ρ => ∃ (kept : List (List Int)) (o2 : Option Sl),
    ρ = [some (.d (lt rows)), some (.own (kept.map tu)), o2, none] ∧ (∀ x ∈ xs, x ∈ rows) ∧ kept.length + xs.length ≤ rows.length ∧ (∀ x ∈ kept, x ∈ rows ∧ Top rows x) ∧ (∀ x ∈ rows, Top rows x → x ∈ kept ∨ x ∈ xs) ∧ Run (fun a b => leT a b = true) kept xs ∧ kept.Nodup) (by
    rintro x xs ρ ⟨kept, o2, rfl, hx, hl, h1, h2, hR, hN⟩
    have hl' : kept.length + (xs.length + 1) ≤ rows.length := by simpa using hl
    have hs : kept.length < sizeLine := line_lt (by omega)
    by_cases hb : x ∉ kept ∧ Top rows x
    · refine ⟨[some (.d (lt rows)), some (.own ((kept ++ [x]).map tu)), some (.d (tu x)), none], ?_, kept ++ [x], _, rfl, fun y hy => hx y (List.mem_cons_of_mem _ hy), by simp; omega, fun y hy => ?_, fun y hy ht => ?_, hR.keep, List.nodup_append.mpr ⟨hN, by simp, fun a ha b hb2 e => hb.1 (by rw [← List.mem_singleton.mp hb2, ← e]; exact ha)⟩⟩
      · obtain ⟨hb1, hb2⟩ := hb
        simp [b_law_antichain_1, v_within, hb1, hs]
        exact top_iff.mp hb2
      · rcases List.mem_append.mp hy with hy | hy
        · exact h1 y hy
        · rw [List.mem_singleton.mp hy]; exact ⟨hx x List.mem_cons_self, hb.2⟩
      · rcases h2 y hy ht with h | h
        · exact .inl (List.mem_append_left _ h)
        · rcases List.mem_cons.mp h with rfl | h
          · exact .inl (by simp)
          · exact .inr h
    · refine ⟨[some (.d (lt rows)), some (.own (kept.map tu)), some (.d (tu x)), none], ?_, kept, _, rfl, fun y hy => hx y (List.mem_cons_of_mem _ hy), by omega, h1, fun y hy ht => ?_, hR.skip, hN⟩
      · by_cases hm : x ∈ kept
        · simp [b_law_antichain_1, v_within, hm]
        · have hn : ¬ Top rows x := fun h => hb ⟨hm, h⟩
          simp [b_law_antichain_1, v_within, hm]
          exact fun h => absurd (top_iff.mpr h) hn
      · rcases h2 y hy ht with h | h
        · exact .inl h
        · rcases List.mem_cons.mp h with rfl | h
          · by_cases hm : y ∈ kept
            · exact .inl hm
            · exact absurd ⟨hm, ht⟩ hb
          · exact .inr h)
  obtain ⟨ρ', e, kept, o2, rfl, _, hl, h1, h2, hR, hN⟩ := key (sortT rows) [some (.d (lt rows)), some (.own []), none, none] ⟨[], none, rfl, fun x hx => mem_sortT.mp hx, by rw [(sortT_perm rows).length_eq]; simp, by simp, fun x hx _ => .inr (mem_sortT.mpr hx), Run.start (sortT_le rows), by simp⟩
  refine ⟨kept, ?_, fun x => ⟨h1 x, fun ⟨a, b⟩ => (h2 x a b).elim (fun h => h) (fun h => by simp at h)⟩, asd_of hR.1 hN, by simpa using hl⟩
  simp [g_law_antichain, e]
end LW

set_option Elab.async false
set_option maxRecDepth 100000
set_option linter.all false
set_option maxHeartbeats 2000000
namespace LW
open PySem PySem.Spec PyProof.Rows L2 PD
theorem longest : ∀ {rows : List (List Int)}, rows ≠ [] → ∃ x ∈ rows, ∀ o ∈ rows, o.length ≤ x.length
  | [], h => absurd rfl h
  | [r], _ => ⟨r, by simp, fun o ho => by rw [List.mem_singleton.mp ho]; exact Nat.le_refl _⟩
  | r :: s :: t, _ => by
    obtain ⟨x, h1, h2⟩ := longest (rows := s :: t) (by simp)
    by_cases e : r.length ≤ x.length
    · exact ⟨x, List.mem_cons_of_mem _ h1, fun o ho => (List.mem_cons.mp ho).elim (fun z => by rw [z]; exact e) (h2 o)⟩
    · exact ⟨r, List.mem_cons_self, fun o ho => (List.mem_cons.mp ho).elim (fun z => by rw [z]; exact Nat.le_refl _) fun z => by have := h2 o z; omega⟩
theorem top_some {n : Int} {rows : List (List Int)} (hr : ∀ r ∈ rows, Asc n r) (h : rows ≠ []) : ∃ x ∈ rows, Top rows x := by
  obtain ⟨x, h1, h2⟩ := longest h
  refine ⟨x, h1, fun o ho e hall => e ?_⟩
  have s := asc_sub (hr x h1).1 (hr o ho).1 hall
  exact s.eq_of_length (Nat.le_antisymm s.length_le (h2 o ho))
theorem v_smooth2 (c n : Int) (h0 : 0 ≤ n) (h1 : n ≤ 9) : ∃ ks : List (List Int), m_law_smooth_lots [.int c, .int n] = .ok (tt ks) ∧ Smooth n ks := by
  show ∃ ks : List (List Int), endR (g_law_smooth_lots [some (.d (.int c)), some (.d (.int n)), none, none, none, none, none, none, none, none, none]) = _ ∧ _
  obtain ⟨L, e1, hL, bL⟩ := v_draws c (3 + n) (by omega) (by omega)
  have hLn : (L.length : Int) = 3 + n := by rw [hL]; omega
  obtain ⟨rows, e2, hr, hz2, hs⟩ := v_parts2 n h0 (by omega)
  have hz : rows.length ≤ 512 := by
    rw [hz2]
    have hp : 2 ^ n.toNat ≤ 2 ^ 9 := Nat.pow_le_pow_right (by decide) (by omega)
    omega
  have e30 := ix_li (L := L) (i := 0) (by decide) (by omega)
  have e31 := ix_li (L := L) (i := 1) (by decide) (by omega)
  have e32 := ix_li (L := L) (i := 2) (by decide) (by omega)
  generalize hcl : (rangeI 0 n).map (fun k => (ixv L (3 + k)).fmod 3) = cl
  have lcl : (cl.length : Int) = n := by rw [← hcl, List.length_map, rangeI_len]; omega
  generalize hb0 : 1 + (ixv L 1).fmod 2 = B0
  generalize hb1 : 1 + ((ixv L 1).fdiv 2).fmod 2 = B1
  generalize hb2 : ((ixv L 1).fdiv 4).fmod 3 = B2
  have er := rngA1_ok (n := n) (by omega) (by omega)
  have er3 := rngA1_ok (n := 3) (by decide) (by decide)
  let fit : List Int → Bool := fun row => (rangeI 0 3).all fun k => decide (((row.filter fun x => ixv cl x == k).length : Int) ≤ ixv [B0, B1, B2] k)
  have key := forGo_inv (i := 6) (g := b_law_smooth_lots_1) (enc := tu) (fun xs ρ => ∃ (kept : List (List Int)) (o6 : Option Sl), ρ = [some (.d (.int c)), some (.d (.int n)), some (.d (li L)), some (.d (li cl)), some (.d (li [B0, B1, B2])), some (.own (kept.map tu)), o6, none, none, none, none] ∧
      (∀ x ∈ xs, Asc n x) ∧ kept.length + xs.length ≤ 512 ∧ (∀ x ∈ kept, Asc n x) ∧ (∀ r, Asc n r → fit r = true → r ∈ kept ∨ r ∈ xs) ∧ Run (fun a b => HT.lexLt a b = true) kept xs ∧ ∀ r ∈ kept, fit r = true) (by
    rintro x xs ρ ⟨kept, o6, rfl, hx, hl, hk, hf, hR, hF⟩
    have hl' : kept.length + (xs.length + 1) ≤ 512 := by simpa using hl
    have hs : kept.length < sizeLine := line_lt (by omega)
    have hxa := hx x List.mem_cons_self
    have et : lcR (fun _ => R.ok true) (fun k : Int => m_law_count [tu x, li cl, .int k] >>= fun a => oIx (li [B0, B1, B2]) (.int k) >>= fun b => oLe a b) (rangeI 0 3) = .ok ((rangeI 0 3).map fun k => PyData.bool (decide (((x.filter fun y => ixv cl y == k).length : Int) ≤ ixv [B0, B1, B2] k))) := lcR_mem fun k hk => by
      obtain ⟨k1, k2⟩ := mem_rangeI.mp hk
      simp [v_count x cl k (fun y hy => by have := hxa.2 y hy; omega), ix_li (L := [B0, B1, B2]) (i := k) k1 (by simpa using k2)]
    by_cases hb : fit x = true
    · refine ⟨[some (.d (.int c)), some (.d (.int n)), some (.d (li L)), some (.d (li cl)), some (.d (li [B0, B1, B2])), some (.own ((kept ++ [x]).map tu)), some (.d (tu x)), none, none, none, none], ?_, kept ++ [x], _, rfl, fun y hy => hx y (List.mem_cons_of_mem _ hy), by simp; omega, fun y hy => ?_, fun r ha hr => ?_, hR.keep, fun r hr => (List.mem_append.mp hr).elim (hF r) fun z => by rw [List.mem_singleton.mp z]; exact hb⟩
      · have hb' : ∀ k ∈ rangeI 0 3, ((x.filter fun y => ixv cl y == k).length : Int) ≤ ixv [B0, B1, B2] k := by simpa [fit] using hb
        simp [b_law_smooth_lots_1, er3, et, hs]
        exact hb'
      · rcases List.mem_append.mp hy with hy | hy
        · exact hk y hy
        · rw [List.mem_singleton.mp hy]; exact hxa
      · rcases hf r ha hr with h | h
        · exact .inl (List.mem_append_left _ h)
        · rcases List.mem_cons.mp h with rfl | h
          · exact .inl (by simp)
          · exact .inr h
    · refine ⟨[some (.d (.int c)), some (.d (.int n)), some (.d (li L)), some (.d (li cl)), some (.d (li [B0, B1, B2])), some (.own (kept.map tu)), some (.d (tu x)), none, none, none, none], ?_, kept, _, rfl, fun y hy => hx y (List.mem_cons_of_mem _ hy), by omega, hk, fun r ha hr => ?_, hR.skip, hF⟩
      rotate_left
      · rcases hf r ha hr with h | h
        · exact .inl h
        · rcases List.mem_cons.mp h with rfl | h
          · exact absurd hr hb
          · exact .inr h
      have hb' : ¬ ∀ k ∈ rangeI 0 3, ((x.filter fun y => ixv cl y == k).length : Int) ≤ ixv [B0, B1, B2] k := fun h => hb (by simpa [fit] using h)
      simp [b_law_smooth_lots_1, er3, et, hs]
      refine Classical.byContradiction fun hc => hb' fun k hk2 => ?_
      exact Classical.byContradiction fun hn => hc ⟨k, hk2, by omega⟩)
  obtain ⟨ρ', e, kept, o6, rfl, _, hl, hk, hf, hR, hF⟩ := key rows [some (.d (.int c)), some (.d (.int n)), some (.d (li L)), some (.d (li cl)), some (.d (li [B0, B1, B2])), some (.own []), none, none, none, none, none]
    ⟨[], none, rfl, fun x hx => (hr x).mp hx, by simpa using hz, by simp, fun r ha _ => .inr ((hr r).mpr ha), Run.start hs, by simp⟩
  have hB0 : 0 ≤ B0 := by have := fmod_lo (ixv L 1) (b := 2) (by decide); omega
  have hB1 : 0 ≤ B1 := by have := fmod_lo ((ixv L 1).fdiv 2) (b := 2) (by decide); omega
  have hB2 : 0 ≤ B2 := by have := fmod_lo ((ixv L 1).fdiv 4) (b := 3) (by decide); omega
  have fit0 : fit [] = true := by
    show ((rangeI 0 3).all fun k => decide (((([] : List Int).filter fun x => ixv cl x == k).length : Int) ≤ ixv [B0, B1, B2] k)) = true
    rw [List.all_eq_true]
    intro k hk2
    obtain ⟨k1, k2⟩ := mem_rangeI.mp hk2
    have this : ixv [B0, B1, B2] k ∈ [B0, B1, B2] := ixv_mem k1 (by simpa using k2)
    simp only [List.mem_cons, List.not_mem_nil, or_false] at this
    refine decide_eq_true ?_
    show (0 : Int) ≤ _
    rcases this with h | h | h <;> omega
  have hne : kept ≠ [] := fun z => by
    rcases hf [] (Asc.nil n) fit0 with h | h
    · rw [z] at h; cases h
    · cases h
  have hmx := bMax_li (l := kept.map fun r => (r.length : Int)) (by simpa using hne)
  generalize hM : maxI (kept.map fun r => (r.length : Int)) = M at hmx
  have f8a := fmod_lo (ixv L 0) (b := 8) (by decide)
  have f8b := fmod_hi (ixv L 0) (b := 8) (by decide)
  have e8 := ix_tu (L := [2, 1, 2, 3, 2, 1, 3, 0]) (i := (ixv L 0).fmod 8) f8a (by simpa using f8b)
  have mT : ixv [2, 1, 2, 3, 2, 1, 3, 0] ((ixv L 0).fmod 8) ∈ [2, 1, 2, 3, 2, 1, 3, 0] := ixv_mem f8a (by simpa using f8b)
  generalize ixv [2, 1, 2, 3, 2, 1, 3, 0] ((ixv L 0).fmod 8) = T at e8 mT
  generalize hC : (if T < M then T else M) = C
  have hT : 0 ≤ T := by
    simp only [List.mem_cons, List.not_mem_nil, or_false] at mT
    omega
  have hmm : ∃ top ∈ kept, (top.length : Int) = M := by
    have := maxI_mem (ns := kept.map fun r => (r.length : Int)) (by rw [List.length_map]; exact List.length_pos_iff.mpr hne)
    rw [hM] at this
    exact List.mem_map.mp this
  have hfit : ∀ r : List Int, fit r = true ↔ Fit (fun x => ixv cl x) (fun k => ixv [B0, B1, B2] k) r := fun r => by
    show ((rangeI 0 3).all fun k => decide (((r.filter fun x => ixv cl x == k).length : Int) ≤ ixv [B0, B1, B2] k)) = true ↔ _
    rw [List.all_eq_true]
    constructor
    · intro z k k0 k1
      exact of_decide_eq_true (z k (mem_rangeI.mpr ⟨k0, k1⟩))
    · intro z k hk
      exact decide_eq_true (z k (mem_rangeI.mp hk).1 (mem_rangeI.mp hk).2)
  have hcr : ∀ x, 0 ≤ x → x < n → 0 ≤ ixv cl x ∧ ixv cl x < 3 := fun x x0 x1 => by
    have m : ixv cl x ∈ cl := ixv_mem x0 (by omega)
    generalize ixv cl x = u at m ⊢
    rw [← hcl] at m
    obtain ⟨k, _, rfl⟩ := List.mem_map.mp m
    exact ⟨fmod_lo _ (by decide), fmod_hi _ (by decide)⟩
  have mem : ∀ r, r ∈ (kept.filter fun r => (r.length : Int) == C) ↔ Asc n r ∧ fit r = true ∧ (r.length : Int) = C := fun r => by
    rw [List.mem_filter]
    constructor
    · rintro ⟨a, b⟩
      exact ⟨hk r a, hF r a, by simpa using b⟩
    · rintro ⟨a, b, d⟩
      exact ⟨(hf r a b).elim id (fun z => by cases z), by simpa using d⟩
  have base : Smooth n (kept.filter fun r => (r.length : Int) == C) := by
    refine ⟨⟨fun l hl => ((mem l).mp hl).1, (hR.1 : Asd kept).filter _, fun z => ?_, ?_⟩, fun l hl x hx o ho nx => ?_, fun l hl k hk2 => ?_⟩
    · obtain ⟨top, t1, t2⟩ := hmm
      have c0 : 0 ≤ C ∧ C ≤ top.length := by
        rw [← hC]
        split <;> omega
      have : top.take C.toNat ∈ (kept.filter fun r => (r.length : Int) == C) := (mem _).mpr ⟨asc_take (hk top t1) _, (hfit _).mpr (fit_take ((hfit _).mp (hF top t1)) _), by rw [List.length_take]; omega⟩
      rw [z] at this
      cases this
    · have a := List.length_filter_le (fun r : List Int => (r.length : Int) == C) kept
      have : kept.length ≤ 512 := by simpa using hl
      omega
    · obtain ⟨la, lf, ll⟩ := (mem l).mp hl
      obtain ⟨oa, of, ol⟩ := (mem o).mp ho
      obtain ⟨t, t1, t2, t3, t4, t5⟩ := fit_exc hcr la oa ((hfit l).mp lf) ((hfit o).mp of) (by omega) hx nx
      exact ⟨t, t1, t2, (mem _).mpr ⟨t3, (hfit _).mpr t4, by rw [t5]; exact ll⟩⟩
    · have a := ((mem l).mp hl).2.2
      have b := ((mem k).mp hk2).2.2
      omega
  have hrest : ∀ ls : List (List Int), lcR (fun _ => R.ok true) (fun l => m_law_rest [tu l, .int n]) ls = .ok (ls.map fun l => tu ((rangeI 0 n).filter fun x => !decide (x ∈ l))) := fun ls => lcR_mem fun l _ => v_rest l n h0 (by omega)
  by_cases h3 : (ixv L 2).fmod 3 = 1
  · refine ⟨sortT ((kept.filter fun r => (r.length : Int) == C).map fun l => (rangeI 0 n).filter fun x => !decide (x ∈ l)), ?_, ?_⟩
    · simp [g_law_smooth_lots, e1, er]
      rw [lcR_mem (g := fun k => PyData.int ((ixv L (3 + k)).fmod 3))]
      · simp [e2, e30, e31, e32, hcl, oMod_int, oDiv_lit, hb0, hb1, hb2, e, hmx, e8, hC, h3, hrest]
      · intro k hk3
        obtain ⟨k1, k2⟩ := mem_rangeI.mp hk3
        simp [ix_li (L := L) (i := 3 + k) (by omega) (by omega), oMod_int]
    · exact base.opp
  · refine ⟨kept.filter fun r => (r.length : Int) == C, ?_, base⟩
    simp [g_law_smooth_lots, e1, er]
    rw [lcR_mem (g := fun k => PyData.int ((ixv L (3 + k)).fmod 3))]
    · simp [e2, e30, e31, e32, hcl, oMod_int, oDiv_lit, hb0, hb1, hb2, e, hmx, e8, hC, h3, hrest]
    · intro k hk3
      obtain ⟨k1, k2⟩ := mem_rangeI.mp hk3
      simp [ix_li (L := L) (i := 3 + k) (by omega) (by omega), oMod_int]
theorem v_any2 (c n : Int) (h0 : 0 ≤ n) (h1 : n ≤ 12) : ∃ ks : List (List Int), m_law_any_lots [.int c, .int n] = .ok (tt ks) ∧ Good n ks := by
  show ∃ ks : List (List Int), endR (g_law_any_lots [some (.d (.int c)), some (.d (.int n)), none, none, none, none]) = _ ∧ _
  obtain ⟨L, e1, hL, bL⟩ := v_draws c 7 (by decide) (by decide)
  have hL7 : L.length = 7 := hL
  obtain ⟨rows, e2, hr, hz, _⟩ := v_parts2 n h0 h1
  have e3 := ix_li (L := L) (i := 0) (by decide) (by omega)
  generalize ixv L 0 = d0 at e3
  have b1 := fmod_lo d0 (b := 6) (by decide)
  have b2 := fmod_hi d0 (b := 6) (by decide)
  have hne : 0 < rows.length := List.length_pos_of_mem ((hr []).mpr (Asc.nil n))
  have e5 := rngA1_ok (n := 1 + d0.fmod 6) (by omega) (by omega)
  have f1 : ∀ a : Int, 0 ≤ a.fmod rows.length ∧ a.fmod rows.length < rows.length := fun a => ⟨fmod_lo a (by omega), fmod_hi a (by omega)⟩
  obtain ⟨ks, e6, h6, hA, hL⟩ := v_antichain2 ((rangeI 0 (1 + d0.fmod 6)).map fun k => ixr rows ((ixv L (1 + k)).fmod rows.length)) (by rw [List.length_map, rangeI_len]; omega)
  have mrow : ∀ r ∈ (rangeI 0 (1 + d0.fmod 6)).map fun k => ixr rows ((ixv L (1 + k)).fmod rows.length), Asc n r := fun r q => by
    obtain ⟨j, hj, rfl⟩ := List.mem_map.mp q
    exact (hr _).mp (ixr_mem (f1 _).1 (f1 _).2)
  have nrow : ((rangeI 0 (1 + d0.fmod 6)).map fun k => ixr rows ((ixv L (1 + k)).fmod rows.length)) ≠ [] := fun z => by
    have := congrArg List.length z
    rw [List.length_map, rangeI_len] at this
    simp at this
    omega
  rw [List.length_map, rangeI_len] at hL
  refine ⟨ks, ?_, ⟨fun k hk => mrow k ((h6 k).mp hk).1, hA, fun z => ?_, by omega⟩⟩
  · simp [g_law_any_lots, e1, e2, e3, oMod_int, e5]
    rw [lcR_mem (g := fun k => tu (ixr rows ((ixv L (1 + k)).fmod rows.length)))]
    · simp [e6]
    · intro k hk
      obtain ⟨k1, k2⟩ := mem_rangeI.mp hk
      have n0 : (rows.length : Int) ≠ 0 := by omega
      simp [ix_li (L := L) (i := 1 + k) (by omega) (by omega), oMod_int n0, ix_lt (f1 _).1 (f1 _).2]
  · obtain ⟨x, x1, x2⟩ := top_some mrow nrow
    have := (h6 x).mpr ⟨x1, x2⟩
    rw [z] at this
    cases this
theorem v_lots2 (c n : Int) (h0 : 0 ≤ n) (h1 : n ≤ 9) : ∃ ks : List (List Int), m_law_lots [.int c, .int n] = .ok (tt ks) ∧ Good n ks := by
  show ∃ ks : List (List Int), endR (g_law_lots [some (.d (.int c)), some (.d (.int n))]) = _ ∧ _
  obtain ⟨L, e1, hL, bL⟩ := v_draws c 3 (by decide) (by decide)
  have hL3 : L.length = 3 := hL
  have e32 := ix_li (L := L) (i := 2) (by decide) (by omega)
  by_cases h : ((ixv L 2).fdiv 3).fmod 2 = 0
  · obtain ⟨ks, e, hk⟩ := v_smooth2 c n h0 h1
    refine ⟨ks, ?_, hk.good⟩
    simp [g_law_lots, e1, e32, oDiv_lit, oMod_int, h, e]
  · obtain ⟨ks, e, hk⟩ := v_any2 c n h0 (by omega)
    refine ⟨ks, ?_, hk⟩
    simp [g_law_lots, e1, e32, oDiv_lit, oMod_int, h, e]
end LW

set_option Elab.async false
set_option maxRecDepth 100000
set_option linter.all false
set_option maxHeartbeats 2000000
namespace LW
open PySem PySem.Spec PyProof.Rows L2 PD

def Road (p : Int) (r : List Int) : Prop := ∃ a b : Int, r = [a, b] ∧ (0 ≤ a ∧ a < p) ∧ (0 ≤ b ∧ b < p)
/-! ### labels of points that roads join -/
theorem nodup_sub_len {α : Type} [DecidableEq α] : ∀ {l k : List α}, l.Nodup → (∀ x ∈ l, x ∈ k) → l.length ≤ k.length
  | [], k, _, _ => Nat.zero_le _
  | a :: l, k, nd, h => by
    obtain ⟨n1, n2⟩ := List.nodup_cons.mp nd
    have ha := h a List.mem_cons_self
    have ih := nodup_sub_len (k := k.erase a) n2 fun x hx => (List.mem_erase_of_ne (fun e => n1 (by rw [← e]; exact hx))).mpr (h x (List.mem_cons_of_mem _ hx))
    rw [List.length_erase_of_mem ha] at ih
    have := List.length_pos_of_mem ha
    rw [List.length_cons]; omega
/-- one more road: what had the first end's label gets the second end's -/
def joinL (lab : List Int) (r : List Int) : List Int := lab.map fun x => if x = ixv lab (ixv r 0) then ixv lab (ixv r 1) else x
def labs (roads : List (List Int)) (p : Int) (row : List Int) : List Int := row.foldl (fun lab t => joinL lab (ixr roads t)) (rangeI 0 p)
structure Lab (p : Int) (lab : List Int) : Prop where
  len : (lab.length : Int) = p
  bnd : ∀ v ∈ lab, 0 ≤ v ∧ v < p
def nlab (p : Int) (lab : List Int) : Nat := ((rangeI 0 p).filter fun v => decide (v ∈ lab)).length
theorem ixv_map {lab : List Int} {f : Int → Int} {i : Int} (h0 : 0 ≤ i) (h1 : i < (lab.length : Int)) : ixv (lab.map f) i = f (ixv lab i) := by
  have hl : i.toNat < lab.length := by omega
  unfold ixv
  rw [List.getElem?_map, List.getElem?_eq_getElem hl]
  rfl
theorem ixv_range {p i : Int} (h0 : 0 ≤ i) (h1 : i < p) : ixv (rangeI 0 p) i = i := by
  unfold ixv rangeI
  rw [List.getElem?_map, List.getElem?_range (by omega)]
  show 0 + ((i.toNat : Nat) : Int) = i
  omega
theorem mem_ixv {l : List Int} {v : Int} (h : v ∈ l) : ∃ i, 0 ≤ i ∧ i < (l.length : Int) ∧ ixv l i = v := by
  obtain ⟨j, hj, e⟩ := List.getElem_of_mem h
  refine ⟨j, by omega, by omega, ?_⟩
  unfold ixv
  rw [show ((j : Int)).toNat = j by omega, List.getElem?_eq_getElem hj, e]
  rfl
theorem Lab.start {p : Int} (h : 0 ≤ p) : Lab p (rangeI 0 p) := ⟨by rw [rangeI_len]; omega, fun v hv => mem_rangeI.mp hv⟩
theorem Road.at {p : Int} {r : List Int} (h : Road p r) : (0 ≤ ixv r 0 ∧ ixv r 0 < p) ∧ (0 ≤ ixv r 1 ∧ ixv r 1 < p) := by
  obtain ⟨a, b, rfl, ha, hb⟩ := h
  exact ⟨ha, hb⟩
theorem Lab.join {p : Int} {lab r : List Int} (h : Lab p lab) (hr : Road p r) : Lab p (joinL lab r) := by
  refine ⟨by unfold joinL; rw [List.length_map]; exact h.len, fun v hv => ?_⟩
  obtain ⟨x, hx, rfl⟩ := List.mem_map.mp hv
  have hb := hr.at
  split
  · exact h.bnd _ (ixv_mem hb.2.1 (by rw [h.len]; exact hb.2.2))
  · exact h.bnd _ hx
theorem join_at {p : Int} {lab r : List Int} (h : Lab p lab) {i : Int} (h0 : 0 ≤ i) (h1 : i < p) : ixv (joinL lab r) i = if ixv lab i = ixv lab (ixv r 0) then ixv lab (ixv r 1) else ixv lab i := ixv_map h0 (by rw [h.len]; exact h1)
theorem join_ends {p : Int} {lab r : List Int} (h : Lab p lab) (hr : Road p r) : ixv (joinL lab r) (ixv r 0) = ixv (joinL lab r) (ixv r 1) := by
  obtain ⟨⟨a0, a1⟩, b0, b1⟩ := hr.at
  rw [join_at h a0 a1, join_at h b0 b1, if_pos rfl]
  split <;> rfl
theorem join_keep {p : Int} {lab r : List Int} (h : Lab p lab) {i j : Int} (h0 : 0 ≤ i) (h1 : i < p) (j0 : 0 ≤ j) (j1 : j < p) (e : ixv lab i = ixv lab j) : ixv (joinL lab r) i = ixv (joinL lab r) j := by
  rw [join_at h h0 h1, join_at h j0 j1, e]
/-- g tells two points apart that the labels tell apart -/
def Fine (p : Int) (lab g : List Int) : Prop := ∀ i j, 0 ≤ i → i < p → 0 ≤ j → j < p → ixv lab i = ixv lab j → ixv g i = ixv g j
theorem Fine.join {p : Int} {lab r g : List Int} (h : Lab p lab) (hr : Road p r) (f : Fine p lab g) (e : ixv g (ixv r 0) = ixv g (ixv r 1)) : Fine p (joinL lab r) g := by
  obtain ⟨⟨a0, a1⟩, b0, b1⟩ := hr.at
  intro i j i0 i1 j0 j1 q
  rw [join_at h i0 i1, join_at h j0 j1] at q
  by_cases hi : ixv lab i = ixv lab (ixv r 0)
  · rw [if_pos hi] at q
    by_cases hj : ixv lab j = ixv lab (ixv r 0)
    · exact f i j i0 i1 j0 j1 (hi.trans hj.symm)
    · rw [if_neg hj] at q
      exact (f i _ i0 i1 a0 a1 hi).trans (e.trans (f _ j b0 b1 j0 j1 q))
  · rw [if_neg hi] at q
    by_cases hj : ixv lab j = ixv lab (ixv r 0)
    · rw [if_pos hj] at q
      exact (f i _ i0 i1 b0 b1 q).trans (e.symm.trans (f _ j a0 a1 j0 j1 hj.symm))
    · rw [if_neg hj] at q
      exact f i j i0 i1 j0 j1 q
section
variable {roads : List (List Int)} {p : Int}
def RoadsOk (roads : List (List Int)) (p : Int) (row : List Int) : Prop := ∀ t ∈ row, Road p (ixr roads t)
theorem lab_from (hp : 0 ≤ p) : ∀ {row lab : List Int}, Lab p lab → RoadsOk roads p row → Lab p (row.foldl (fun lab t => joinL lab (ixr roads t)) lab)
  | [], lab, h, _ => h
  | t :: row, lab, h, hr => lab_from hp (row := row) (lab := joinL lab (ixr roads t)) (h.join (hr t List.mem_cons_self)) fun u hu => hr u (List.mem_cons_of_mem _ hu)
theorem fine_from {g : List Int} : ∀ {row lab : List Int}, Lab p lab → RoadsOk roads p row → Fine p lab g → (∀ t ∈ row, ixv g (ixv (ixr roads t) 0) = ixv g (ixv (ixr roads t) 1)) → Fine p (row.foldl (fun lab t => joinL lab (ixr roads t)) lab) g
  | [], lab, _, _, f, _ => f
  | t :: row, lab, h, hr, f, e => fine_from (row := row) (lab := joinL lab (ixr roads t)) (h.join (hr t List.mem_cons_self)) (fun u hu => hr u (List.mem_cons_of_mem _ hu)) (f.join h (hr t List.mem_cons_self) (e t List.mem_cons_self)) fun u hu => e u (List.mem_cons_of_mem _ hu)
theorem keep_from {i j : Int} (i0 : 0 ≤ i) (i1 : i < p) (j0 : 0 ≤ j) (j1 : j < p) : ∀ {row lab : List Int}, Lab p lab → RoadsOk roads p row → ixv lab i = ixv lab j → ixv (row.foldl (fun lab t => joinL lab (ixr roads t)) lab) i = ixv (row.foldl (fun lab t => joinL lab (ixr roads t)) lab) j
  | [], lab, _, _, e => e
  | t :: row, lab, h, hr, e => keep_from i0 i1 j0 j1 (row := row) (lab := joinL lab (ixr roads t)) (h.join (hr t List.mem_cons_self)) (fun u hu => hr u (List.mem_cons_of_mem _ hu)) (join_keep h i0 i1 j0 j1 e)
theorem ends_from : ∀ {row lab : List Int}, Lab p lab → RoadsOk roads p row → ∀ t ∈ row, ixv (row.foldl (fun lab t => joinL lab (ixr roads t)) lab) (ixv (ixr roads t) 0) = ixv (row.foldl (fun lab t => joinL lab (ixr roads t)) lab) (ixv (ixr roads t) 1)
  | [], lab, _, _, t, ht => by cases ht
  | s :: row, lab, h, hr, t, ht => by
    have hs := hr s List.mem_cons_self
    rcases List.mem_cons.mp ht with rfl | ht
    · obtain ⟨⟨a0, a1⟩, b0, b1⟩ := hs.at
      exact keep_from a0 a1 b0 b1 (row := row) (lab := joinL lab (ixr roads t)) (h.join hs) (fun u hu => hr u (List.mem_cons_of_mem _ hu)) (join_ends h hs)
    · exact ends_from (row := row) (lab := joinL lab (ixr roads s)) (h.join hs) (fun u hu => hr u (List.mem_cons_of_mem _ hu)) t ht
theorem labs_lab (hp : 0 ≤ p) {row : List Int} (hr : RoadsOk roads p row) : Lab p (labs roads p row) := lab_from hp (Lab.start hp) hr
theorem labs_ends (hp : 0 ≤ p) {row : List Int} (hr : RoadsOk roads p row) {t : Int} (ht : t ∈ row) : ixv (labs roads p row) (ixv (ixr roads t) 0) = ixv (labs roads p row) (ixv (ixr roads t) 1) := ends_from (Lab.start hp) hr t ht
theorem labs_fine (hp : 0 ≤ p) {row g : List Int} (hr : RoadsOk roads p row) (e : ∀ t ∈ row, ixv g (ixv (ixr roads t) 0) = ixv g (ixv (ixr roads t) 1)) : Fine p (labs roads p row) g :=
  fine_from (Lab.start hp) hr (fun i j i0 i1 j0 j1 q => by rw [ixv_range i0 i1, ixv_range j0 j1] at q; rw [q]) e
theorem nlab_le {lab g : List Int} (hg : Lab p g) (hl : Lab p lab) (f : Fine p lab g) : nlab p g ≤ nlab p lab := by
  -- each label of g at one of its points, and the other label there
  have pick : ∀ v : Int, ∃ i : Int, v ∈ g → 0 ≤ i ∧ i < p ∧ ixv g i = v := fun v => by
    by_cases h : v ∈ g
    · obtain ⟨i, a, b, c⟩ := mem_ixv h
      exact ⟨i, fun _ => ⟨a, by rw [← hg.len]; exact b, c⟩⟩
    · exact ⟨0, fun z => absurd z h⟩
  let at_ : Int → Int := fun v => Classical.choose (pick v)
  have hat : ∀ v, v ∈ g → 0 ≤ at_ v ∧ at_ v < p ∧ ixv g (at_ v) = v := fun v => Classical.choose_spec (pick v)
  have key := nodup_sub_len (l := ((rangeI 0 p).filter fun v => decide (v ∈ g)).map fun v => ixv lab (at_ v)) (k := (rangeI 0 p).filter fun v => decide (v ∈ lab)) ?_ ?_
  · rw [List.length_map] at key
    exact key
  · refine List.pairwise_map.mpr ?_
    have nd : ((rangeI 0 p).filter fun v => decide (v ∈ g)).Pairwise (· ≠ ·) := ((rangeI_asc 0 p).imp fun {a b} z e => by omega).filter _
    refine List.Pairwise.imp_of_mem (fun {a b} ha hb ne e => ne ?_) nd
    have ga := hat a (by simpa using (List.mem_filter.mp ha).2)
    have gb := hat b (by simpa using (List.mem_filter.mp hb).2)
    have := f _ _ ga.1 ga.2.1 gb.1 gb.2.1 e
    rw [ga.2.2, gb.2.2] at this
    exact this
  · intro x hx
    obtain ⟨v, hv, rfl⟩ := List.mem_map.mp hx
    have gv := hat v (by simpa using (List.mem_filter.mp hv).2)
    have m : ixv lab (at_ v) ∈ lab := ixv_mem gv.1 (by rw [hl.len]; exact gv.2.1)
    exact List.mem_filter.mpr ⟨mem_rangeI.mpr (hl.bnd _ m), by simpa using m⟩
theorem nlab_join {lab r : List Int} (h : Lab p lab) (hr : Road p r) : nlab p lab = nlab p (joinL lab r) + if ixv lab (ixv r 0) = ixv lab (ixv r 1) then 0 else 1 := by
  obtain ⟨⟨a0, a1⟩, b0, b1⟩ := hr.at
  have mu : ixv lab (ixv r 0) ∈ lab := ixv_mem a0 (by rw [h.len]; exact a1)
  have mv : ixv lab (ixv r 1) ∈ lab := ixv_mem b0 (by rw [h.len]; exact b1)
  have mem : ∀ x, x ∈ joinL lab r ↔ x = ixv lab (ixv r 1) ∨ (x ∈ lab ∧ ¬ x = ixv lab (ixv r 0)) := fun x => by
    unfold joinL
    rw [List.mem_map]
    constructor
    · rintro ⟨y, hy, rfl⟩
      by_cases e : y = ixv lab (ixv r 0)
      · rw [if_pos e]; exact .inl rfl
      · rw [if_neg e]; exact .inr ⟨hy, e⟩
    · rintro (rfl | ⟨hx, ne⟩)
      · exact ⟨_, mu, if_pos rfl⟩
      · exact ⟨x, hx, if_neg ne⟩
  generalize ixv lab (ixv r 0) = u at mu mem
  generalize ixv lab (ixv r 1) = v at mv mem
  unfold nlab
  by_cases e : u = v
  · rw [if_pos e]
    subst e
    have : (fun x => decide (x ∈ lab)) = fun x => decide (x ∈ joinL lab r) := by
      funext x
      refine decide_eq_decide.mpr ?_
      rw [mem]
      constructor
      · intro hx
        by_cases q : x = u
        · exact .inl q
        · exact .inr ⟨hx, q⟩
      · rintro (rfl | ⟨hx, _⟩)
        · exact mv
        · exact hx
    rw [this]; rfl
  · rw [if_neg e]
    -- u is lost
    have hu := h.bnd u mu
    have cnt : ∀ R : List Int, R.Nodup → (R.filter fun x => decide (x ∈ lab)).length = (R.filter fun x => decide (x ∈ joinL lab r)).length + if u ∈ R then 1 else 0 := by
      intro R
      induction R with
      | nil => intro _; rfl
      | cons a R ih =>
        intro nd
        obtain ⟨n1, n2⟩ := List.nodup_cons.mp nd
        have ih := ih n2
        by_cases ha : a = u
        · subst ha
          have c1 : a ∈ lab := mu
          have c2 : ¬ a ∈ joinL lab r := fun z => (mem a).mp z |>.elim e fun q => q.2 rfl
          rw [if_neg n1] at ih
          rw [List.filter_cons_of_pos (by simpa using c1), List.filter_cons_of_neg (by simpa using c2), List.length_cons, ih, if_pos List.mem_cons_self]
        · have c : (a ∈ lab) ↔ a ∈ joinL lab r := by
            rw [mem]
            exact ⟨fun z => .inr ⟨z, ha⟩, fun z => z.elim (fun q => by rw [q]; exact mv) fun q => q.1⟩
          have hm : (u ∈ a :: R) ↔ u ∈ R := ⟨fun z => (List.mem_cons.mp z).resolve_left fun q => ha q.symm, List.mem_cons_of_mem _⟩
          simp only [hm]
          by_cases ca : a ∈ lab
          · rw [List.filter_cons_of_pos (by simpa using ca), List.filter_cons_of_pos (by simpa using c.mp ca), List.length_cons, List.length_cons, ih]; omega
          · rw [List.filter_cons_of_neg (by simpa using ca), List.filter_cons_of_neg (by simpa using fun z => ca (c.mpr z)), ih]
    have := cnt (rangeI 0 p) ((rangeI_asc 0 p).imp fun {a b} z e => by omega)
    rw [if_pos (mem_rangeI.mpr hu)] at this
    exact this
/-- no road of the row joins what is joined already -/
def forB (roads : List (List Int)) : List Int → List Int → Bool
  | [], _ => true
  | t :: row, lab => !decide (ixv lab (ixv (ixr roads t) 0) = ixv lab (ixv (ixr roads t) 1)) && forB roads row (joinL lab (ixr roads t))
theorem forB_count : ∀ {row lab : List Int}, Lab p lab → RoadsOk roads p row → nlab p lab ≤ nlab p (row.foldl (fun lab t => joinL lab (ixr roads t)) lab) + row.length ∧ (forB roads row lab = true ↔ nlab p lab = nlab p (row.foldl (fun lab t => joinL lab (ixr roads t)) lab) + row.length)
  | [], lab, _, _ => ⟨Nat.le_refl _, by simp [forB]⟩
  | t :: row, lab, h, hr => by
    have ht := hr t List.mem_cons_self
    obtain ⟨i1, i2⟩ := forB_count (row := row) (lab := joinL lab (ixr roads t)) (h.join ht) fun u hu => hr u (List.mem_cons_of_mem _ hu)
    have e := nlab_join h ht
    unfold forB
    rw [List.foldl_cons, List.length_cons]
    generalize nlab p (row.foldl (fun lab t => joinL lab (ixr roads t)) (joinL lab (ixr roads t))) = N at i1 i2 ⊢
    by_cases q : ixv lab (ixv (ixr roads t) 0) = ixv lab (ixv (ixr roads t) 1)
    · rw [if_pos q] at e
      refine ⟨by omega, ?_⟩
      rw [decide_eq_true q]
      simp
      omega
    · rw [if_neg q] at e
      refine ⟨by omega, ?_⟩
      rw [decide_eq_false q]
      simp
      rw [i2]
      omega
def forest (roads : List (List Int)) (p : Int) (row : List Int) : Bool := forB roads row (rangeI 0 p)
theorem nlab_start (hp : 0 ≤ p) : nlab p (rangeI 0 p) = p.toNat := by
  unfold nlab
  rw [List.filter_eq_self.mpr (fun v hv => by simpa using hv), rangeI_len]
  simp
theorem forest_iff (hp : 0 ≤ p) {row : List Int} (hr : RoadsOk roads p row) : forest roads p row = true ↔ nlab p (labs roads p row) + row.length = p.toNat := by
  have := (forB_count (Lab.start hp) hr).2
  rw [nlab_start hp] at this
  exact this.trans eq_comm
theorem forest_le (hp : 0 ≤ p) {row : List Int} (hr : RoadsOk roads p row) : p.toNat ≤ nlab p (labs roads p row) + row.length := by
  have := (forB_count (Lab.start hp) hr).1
  rwa [nlab_start hp] at this
/-- the labels of a set of roads, whatever its order -/
theorem nlab_same (hp : 0 ≤ p) {row row' : List Int} (hr : RoadsOk roads p row) (hr' : RoadsOk roads p row') (h : ∀ t, t ∈ row ↔ t ∈ row') : nlab p (labs roads p row) = nlab p (labs roads p row') :=
  Nat.le_antisymm (nlab_le (labs_lab hp hr) (labs_lab hp hr') (labs_fine hp hr' fun t ht => labs_ends hp hr ((h t).mpr ht))) (nlab_le (labs_lab hp hr') (labs_lab hp hr) (labs_fine hp hr fun t ht => labs_ends hp hr' ((h t).mp ht)))
/-- of a greater forest some road goes between what the smaller one leaves apart -/
theorem forest_more (hp : 0 ≤ p) {l o : List Int} (hl : RoadsOk roads p l) (ho : RoadsOk roads p o) (fl : forest roads p l = true) (fo : forest roads p o = true) (h : l.length < o.length) : ∃ t ∈ o, ¬ ixv (labs roads p l) (ixv (ixr roads t) 0) = ixv (labs roads p l) (ixv (ixr roads t) 1) := by
  refine Classical.byContradiction fun z => ?_
  have e : ∀ t ∈ o, ixv (labs roads p l) (ixv (ixr roads t) 0) = ixv (labs roads p l) (ixv (ixr roads t) 1) := fun t ht => Classical.byContradiction fun q => z ⟨t, ht, q⟩
  have := nlab_le (labs_lab hp hl) (labs_lab hp ho) (labs_fine hp ho e)
  have a := (forest_iff hp hl).mp fl
  have b := (forest_iff hp ho).mp fo
  omega
theorem labs_snoc {row : List Int} {t : Int} : labs roads p (row ++ [t]) = joinL (labs roads p row) (ixr roads t) := by
  unfold labs
  rw [List.foldl_append]
  rfl
theorem forest_snoc (hp : 0 ≤ p) {row : List Int} {t : Int} (hr : RoadsOk roads p row) (ht : Road p (ixr roads t)) : forest roads p (row ++ [t]) = true ↔ forest roads p row = true ∧ ¬ ixv (labs roads p row) (ixv (ixr roads t) 0) = ixv (labs roads p row) (ixv (ixr roads t) 1) := by
  have hr2 : RoadsOk roads p (row ++ [t]) := fun u hu => (List.mem_append.mp hu).elim (hr u) fun z => by rw [List.mem_singleton.mp z]; exact ht
  rw [forest_iff hp hr2, forest_iff hp hr, labs_snoc, List.length_append, List.length_singleton]
  have e := nlab_join (labs_lab hp hr) ht
  have le := forest_le hp hr
  have le2 := forest_le hp hr2
  rw [labs_snoc, List.length_append, List.length_singleton] at le2
  by_cases q : ixv (labs roads p row) (ixv (ixr roads t) 0) = ixv (labs roads p row) (ixv (ixr roads t) 1)
  · rw [if_pos q] at e
    constructor
    · intro z; omega
    · exact fun z => absurd q z.2
  · rw [if_neg q] at e
    constructor
    · exact fun z => ⟨by omega, q⟩
    · intro z; omega
theorem forest_perm (hp : 0 ≤ p) {row row' : List Int} (hr : RoadsOk roads p row) (q : row.Perm row') : forest roads p row = forest roads p row' := by
  have hr' : RoadsOk roads p row' := fun t ht => hr t (q.mem_iff.mpr ht)
  rw [Bool.eq_iff_iff, forest_iff hp hr, forest_iff hp hr', nlab_same hp hr hr' fun t => q.mem_iff, q.length_eq]
/-- without a road a forest stays one -/
theorem forest_less (hp : 0 ≤ p) {row : List Int} {x : Int} (hr : RoadsOk roads p row) (nd : row.Nodup) (hx : x ∈ row) (f : forest roads p row = true) : forest roads p (row.filter fun y => !(y == x)) = true := by
  have q : row.Perm ((row.filter fun y => !(y == x)) ++ [x]) := by
    refine (List.perm_ext_iff_of_nodup nd ?_).mpr fun y => ?_
    · rw [List.nodup_append]
      refine ⟨nd.filter _, by simp, fun a ha b hb e => ?_⟩
      rw [List.mem_singleton.mp hb] at e
      have := (List.mem_filter.mp ha).2
      simp [e] at this
    · rw [List.mem_append, List.mem_filter, List.mem_singleton]
      constructor
      · intro hy
        by_cases e : y = x
        · exact .inr e
        · exact .inl ⟨hy, by simpa using e⟩
      · rintro (z | z)
        · exact z.1
        · rw [z]; exact hx
  rw [forest_perm hp hr q] at f
  have hr2 : RoadsOk roads p (row.filter fun y => !(y == x)) := fun t ht => hr t (List.mem_filter.mp ht).1
  exact ((forest_snoc hp hr2 (hr x hx)).mp f).1
/-- the exchange of roads between two forests of one size -/
theorem forest_exc (hp : 0 ≤ p) {n : Int} {l o : List Int} {x : Int} (la : Asc n l) (oa : Asc n o) (hl : RoadsOk roads p l) (ho : RoadsOk roads p o) (fl : forest roads p l = true) (fo : forest roads p o = true) (e : l.length = o.length) (hx : x ∈ l) (nx : ¬ x ∈ o) :
    ∃ t ∈ o, ¬ t ∈ l ∧ forest roads p (exch l x t) = true := by
  have nd := la.nodup
  have hr2 : RoadsOk roads p (l.filter fun y => !(y == x)) := fun t ht => hl t (List.mem_filter.mp ht).1
  have f2 := forest_less hp hl nd hx fl
  have lt : (l.filter fun y => !(y == x)).length < o.length := by
    have s : (l.filter fun y => !(y == x)).length < l.length := by
      refine Nat.lt_of_le_of_ne (List.length_filter_le _ _) fun z => ?_
      have := List.filter_sublist.eq_of_length z
      rw [List.filter_eq_self] at this
      have := this x hx
      simp at this
    omega
  obtain ⟨t, ht, ne⟩ := forest_more hp hr2 ho f2 fo lt
  have ntl : ¬ t ∈ l := fun z => by
    have tx : ¬ t = x := fun q => nx (by rw [← q]; exact ht)
    exact ne (labs_ends hp hr2 (List.mem_filter.mpr ⟨z, by simpa using tx⟩))
  refine ⟨t, ht, ntl, ?_⟩
  have q : (exch l x t).Perm ((l.filter fun y => !(y == x)) ++ [t]) := (sortD_ints _).2
  have hr3 : RoadsOk roads p ((l.filter fun y => !(y == x)) ++ [t]) := fun u hu => (List.mem_append.mp hu).elim (hr2 u) fun z => by rw [List.mem_singleton.mp z]; exact ho t ht
  rw [← forest_perm hp hr3 q.symm]
  exact (forest_snoc hp hr2 (ho t ht)).mpr ⟨f2, ne⟩
end
end LW

set_option Elab.async false
set_option maxRecDepth 100000
set_option linter.all false
set_option maxHeartbeats 2000000
namespace LW
open PySem PySem.Spec PyProof.Rows L2 PD
theorem v_rest_of (row : List Int) (n : Int) (h0 : 0 ≤ n) (h1 : n ≤ 1000) : m_law_rest_of [tu row, .int n] = .ok (tu ((rangeI 0 n).filter fun x => !decide (x ∈ row))) := by
  show endR (g_law_rest_of [some (.d (tu row)), some (.d (.int n)), none]) = _
  simp [g_law_rest_of, rngA1_ok (show n ≤ 100000 by omega) (show -1000 ≤ n by omega)]
theorem v_left3 (D : List Int) (ls : List (List Int)) (hD : 2 ≤ D.length) (hz : ls.length ≤ 5000) (hne : ls ≠ []) : ∃ ks : List (List Int), m_law_left_lots [li D, tt ls] = .ok (tt ks) ∧ ks ≠ [] ∧ ks.Sublist ls := by
  show ∃ ks : List (List Int), endR (g_law_left_lots [some (.d (li D)), some (.d (tt ls)), none, none]) = _ ∧ _
  have e0 := ix_li (L := D) (i := 0) (by decide) (by omega)
  have e1 := ix_li (L := D) (i := 1) (by decide) (by omega)
  have f2a := fmod_lo (ixv D 0) (b := 2) (by decide)
  have f2b := fmod_hi (ixv D 0) (b := 2) (by decide)
  have key := forGo_inv (i := 3) (g := b_law_left_lots_1) (enc := PyData.int) (fun xs ρ => ∃ (kept : List (List Int)) (o3 : Option Sl), ρ = [some (.d (li D)), some (.d (tt ls)), some (.own (kept.map tu)), o3] ∧ kept ≠ [] ∧ kept.Sublist ls ∧ kept.length ≤ ls.length) (by
    rintro k xs ρ ⟨kept, o3, rfl, h1, h2, h3⟩
    by_cases hb : 1 < kept.length
    · have g1 := fmod_lo (ixv D 1 + k) (b := kept.length) (by omega)
      have g2 := fmod_hi (ixv D 1 + k) (b := kept.length) (by omega)
      have n0 : (kept.length : Int) ≠ 0 := by omega
      have hb' : (1 : Int) < (kept.length : Int) := by omega
      have hjl : ((ixv D 1 + k).fmod kept.length).toNat < kept.length := by omega
      refine ⟨[some (.d (li D)), some (.d (tt ls)), some (.own ((kept.eraseIdx ((ixv D 1 + k).fmod kept.length).toNat).map tu)), some (.d (.int k))], ?_, _, _, rfl, fun z => ?_, (List.eraseIdx_sublist _ _).trans h2, by have := List.length_eraseIdx_le kept ((ixv D 1 + k).fmod kept.length).toNat; omega⟩
      · simp [b_law_left_lots_1, e1, oMod_int n0, popO_map tu _ _ g1 g2 (by omega)]
        exact fun h => absurd h (by omega)
      · have := congrArg List.length z
        rw [List.length_eraseIdx, if_pos hjl, List.length_nil] at this
        omega
    · refine ⟨[some (.d (li D)), some (.d (tt ls)), some (.own (kept.map tu)), some (.d (.int k))], ?_, _, _, rfl, h1, h2, h3⟩
      have hb' : ¬ (1 : Int) < (kept.length : Int) := by omega
      simp [b_law_left_lots_1, hb'])
  obtain ⟨ρ', e, kept, o3, rfl, h1, h2, _⟩ := key (rangeI 0 (1 + (ixv D 0).fmod 2)) [some (.d (li D)), some (.d (tt ls)), some (.own (ls.map tu)), none] ⟨ls, none, rfl, hne, List.Sublist.refl _, Nat.le_refl _⟩
  refine ⟨kept, ?_, h1, h2⟩
  simp [g_law_left_lots, e0, oMod_int, rngA1_ok (n := 1 + (ixv D 0).fmod 2) (by omega) (by omega), e]
theorem v_bounded3 (L : List Int) (n : Int) (h0 : 0 ≤ n) (h1 : n ≤ 9) (hL : (L.length : Int) = 3 + n) : ∃ ks : List (List Int), m_law_bounded_lots [li L, .int n] = .ok (tt ks) ∧ Smooth n ks := by
  show ∃ ks : List (List Int), endR (g_law_bounded_lots [some (.d (li L)), some (.d (.int n)), none, none, none, none, none, none, none, none]) = _ ∧ _
  obtain ⟨rows, e2, hr, hz2, hs⟩ := v_parts2 n h0 (by omega)
  have hz : rows.length ≤ 512 := by
    rw [hz2]
    have hp : 2 ^ n.toNat ≤ 2 ^ 9 := Nat.pow_le_pow_right (by decide) (by omega)
    omega
  have e31 := ix_li (L := L) (i := 1) (by decide) (by omega)
  have e32 := ix_li (L := L) (i := 2) (by decide) (by omega)
  generalize hcl : (rangeI 0 n).map (fun k => (ixv L (3 + k)).fmod 3) = cl
  have lcl : (cl.length : Int) = n := by rw [← hcl, List.length_map, rangeI_len]; omega
  generalize hb0 : 1 + (ixv L 2).fmod 2 = B0
  generalize hb1 : 1 + ((ixv L 2).fdiv 2).fmod 2 = B1
  generalize hb2 : ((ixv L 2).fdiv 4).fmod 3 = B2
  have er := rngA1_ok (n := n) (by omega) (by omega)
  have er3 := rngA1_ok (n := 3) (by decide) (by decide)
  let fit : List Int → Bool := fun row => (rangeI 0 3).all fun k => decide (((row.filter fun x => ixv cl x == k).length : Int) ≤ ixv [B0, B1, B2] k)
  have key := forGo_inv (i := 5) (g := b_law_bounded_lots_1) (enc := tu) (fun xs ρ => ∃ (kept : List (List Int)) (o6 : Option Sl), ρ = [some (.d (li L)), some (.d (.int n)), some (.d (li cl)), some (.d (li [B0, B1, B2])), some (.own (kept.map tu)), o6, none, none, none, none] ∧
      (∀ x ∈ xs, Asc n x) ∧ kept.length + xs.length ≤ 512 ∧ (∀ x ∈ kept, Asc n x ∧ fit x = true) ∧ (∀ r, Asc n r → fit r = true → r ∈ kept ∨ r ∈ xs) ∧ Run (fun a b => HT.lexLt a b = true) kept xs) (by
    rintro x xs ρ ⟨kept, o6, rfl, hx, hl, hk, hf, hR⟩
    have hl' : kept.length + (xs.length + 1) ≤ 512 := by simpa using hl
    have hs : kept.length < sizeLine := line_lt (by omega)
    have hxa := hx x List.mem_cons_self
    have et : lcR (fun _ => R.ok true) (fun k : Int => m_law_count [tu x, li cl, .int k] >>= fun a => oIx (li [B0, B1, B2]) (.int k) >>= fun b => oLe a b) (rangeI 0 3) = .ok ((rangeI 0 3).map fun k => PyData.bool (decide (((x.filter fun y => ixv cl y == k).length : Int) ≤ ixv [B0, B1, B2] k))) := lcR_mem fun k hk => by
      obtain ⟨k1, k2⟩ := mem_rangeI.mp hk
      simp [v_count x cl k (fun y hy => by have := hxa.2 y hy; omega), ix_li (L := [B0, B1, B2]) (i := k) k1 (by simpa using k2)]
    by_cases hb : fit x = true
    · refine ⟨[some (.d (li L)), some (.d (.int n)), some (.d (li cl)), some (.d (li [B0, B1, B2])), some (.own ((kept ++ [x]).map tu)), some (.d (tu x)), none, none, none, none], ?_, kept ++ [x], _, rfl, fun y hy => hx y (List.mem_cons_of_mem _ hy), by simp; omega, fun y hy => ?_, fun r ha hr => ?_, hR.keep⟩
      · have hb' : ∀ k ∈ rangeI 0 3, ((x.filter fun y => ixv cl y == k).length : Int) ≤ ixv [B0, B1, B2] k := by simpa [fit] using hb
        simp [b_law_bounded_lots_1, er3, et, hs]
        exact hb'
      · rcases List.mem_append.mp hy with hy | hy
        · exact hk y hy
        · rw [List.mem_singleton.mp hy]; exact ⟨hxa, hb⟩
      · rcases hf r ha hr with h | h
        · exact .inl (List.mem_append_left _ h)
        · rcases List.mem_cons.mp h with rfl | h
          · exact .inl (by simp)
          · exact .inr h
    · refine ⟨[some (.d (li L)), some (.d (.int n)), some (.d (li cl)), some (.d (li [B0, B1, B2])), some (.own (kept.map tu)), some (.d (tu x)), none, none, none, none], ?_, kept, _, rfl, fun y hy => hx y (List.mem_cons_of_mem _ hy), by omega, hk, fun r ha hr => ?_, hR.skip⟩
      rotate_left
      · rcases hf r ha hr with h | h
        · exact .inl h
        · rcases List.mem_cons.mp h with rfl | h
          · exact absurd hr hb
          · exact .inr h
      have hb' : ¬ ∀ k ∈ rangeI 0 3, ((x.filter fun y => ixv cl y == k).length : Int) ≤ ixv [B0, B1, B2] k := fun h => hb (by simpa [fit] using h)
      simp [b_law_bounded_lots_1, er3, et, hs]
      refine Classical.byContradiction fun hc => hb' fun k hk2 => ?_
      exact Classical.byContradiction fun hn => hc ⟨k, hk2, by omega⟩)
  obtain ⟨ρ', e, kept, o6, rfl, _, hl, hk, hf, hR⟩ := key rows [some (.d (li L)), some (.d (.int n)), some (.d (li cl)), some (.d (li [B0, B1, B2])), some (.own []), none, none, none, none, none]
    ⟨[], none, rfl, fun x hx => (hr x).mp hx, by simpa using hz, by simp, fun r ha _ => .inr ((hr r).mpr ha), Run.start hs⟩
  have hB0 : 0 ≤ B0 := by have := fmod_lo (ixv L 2) (b := 2) (by decide); omega
  have hB1 : 0 ≤ B1 := by have := fmod_lo ((ixv L 2).fdiv 2) (b := 2) (by decide); omega
  have hB2 : 0 ≤ B2 := by have := fmod_lo ((ixv L 2).fdiv 4) (b := 3) (by decide); omega
  have fit0 : fit [] = true := by
    show ((rangeI 0 3).all fun k => decide (((([] : List Int).filter fun x => ixv cl x == k).length : Int) ≤ ixv [B0, B1, B2] k)) = true
    rw [List.all_eq_true]
    intro k hk2
    obtain ⟨k1, k2⟩ := mem_rangeI.mp hk2
    have this : ixv [B0, B1, B2] k ∈ [B0, B1, B2] := ixv_mem k1 (by simpa using k2)
    simp only [List.mem_cons, List.not_mem_nil, or_false] at this
    refine decide_eq_true ?_
    show (0 : Int) ≤ _
    rcases this with h | h | h <;> omega
  have hne : kept ≠ [] := fun z => by
    rcases hf [] (Asc.nil n) fit0 with h | h
    · rw [z] at h; cases h
    · cases h
  have hmx := bMax_li (l := kept.map fun r => (r.length : Int)) (by simpa using hne)
  have hmem := maxI_mem (ns := kept.map fun r => (r.length : Int)) (List.length_pos_iff.mpr (by simpa using hne))
  generalize hM : maxI (kept.map fun r => (r.length : Int)) = M at hmx hmem
  have f8a := fmod_lo (ixv L 1) (b := 8) (by decide)
  have f8b := fmod_hi (ixv L 1) (b := 8) (by decide)
  have e8 := ix_tu (L := [2, 1, 2, 3, 1, 2, 0, 3]) (i := (ixv L 1).fmod 8) f8a (by simpa using f8b)
  have m8 : ixv [2, 1, 2, 3, 1, 2, 0, 3] ((ixv L 1).fmod 8) ∈ [2, 1, 2, 3, 1, 2, 0, 3] := ixv_mem f8a (by simpa using f8b)
  generalize ixv [2, 1, 2, 3, 1, 2, 0, 3] ((ixv L 1).fmod 8) = T at e8 m8
  have hT : 0 ≤ T := by
    simp only [List.mem_cons, List.not_mem_nil, or_false] at m8
    omega
  generalize hC : (if T < M then T else M) = C
  obtain ⟨r0, hr0, hr0M⟩ := List.mem_map.mp hmem
  have hC0 : 0 ≤ C ∧ C ≤ r0.length := by
    have hM0 : (r0.length : Int) = M := hr0M
    split at hC <;> omega
  have hfit : ∀ r : List Int, fit r = true ↔ Fit (fun x => ixv cl x) (fun k => ixv [B0, B1, B2] k) r := fun r => by
    show ((rangeI 0 3).all fun k => decide (((r.filter fun x => ixv cl x == k).length : Int) ≤ ixv [B0, B1, B2] k)) = true ↔ _
    rw [List.all_eq_true]
    constructor
    · intro z k k0 k1
      exact of_decide_eq_true (z k (mem_rangeI.mpr ⟨k0, k1⟩))
    · intro z k hk
      exact decide_eq_true (z k (mem_rangeI.mp hk).1 (mem_rangeI.mp hk).2)
  have hcr : ∀ x, 0 ≤ x → x < n → 0 ≤ ixv cl x ∧ ixv cl x < 3 := fun x x0 x1 => by
    have m : ixv cl x ∈ cl := ixv_mem x0 (by omega)
    generalize ixv cl x = u at m ⊢
    rw [← hcl] at m
    obtain ⟨k, _, rfl⟩ := List.mem_map.mp m
    exact ⟨fmod_lo _ (by decide), fmod_hi _ (by decide)⟩
  have mem : ∀ r, r ∈ (kept.filter fun r => (r.length : Int) == C) ↔ Asc n r ∧ fit r = true ∧ (r.length : Int) = C := fun r => by
    rw [List.mem_filter]
    constructor
    · rintro ⟨a, b⟩
      exact ⟨(hk r a).1, (hk r a).2, by simpa using b⟩
    · rintro ⟨a, b, d⟩
      exact ⟨(hf r a b).elim id (fun z => by cases z), by simpa using d⟩
  refine ⟨kept.filter fun r => (r.length : Int) == C, ?_, ⟨fun l hl => ((mem l).mp hl).1, (hR.1 : Asd kept).filter _, fun z => ?_, ?_⟩, fun l hl x hx o ho nx => ?_, fun l hl k hk2 => ?_⟩
  · simp [g_law_bounded_lots, er]
    rw [lcR_mem (g := fun k => PyData.int ((ixv L (3 + k)).fmod 3))]
    · simp [e2, e31, e32, hcl, oMod_int, oDiv_lit, hb0, hb1, hb2, e, hmx, e8, hC]
    · intro k hk3
      obtain ⟨k1, k2⟩ := mem_rangeI.mp hk3
      simp [ix_li (L := L) (i := 3 + k) (by omega) (by omega), oMod_int]
  · obtain ⟨ha0, hf0⟩ := hk r0 hr0
    have : r0.take C.toNat ∈ (kept.filter fun r => (r.length : Int) == C) := (mem _).mpr ⟨asc_take ha0 _, (hfit _).mpr (fit_take ((hfit _).mp hf0) _), by rw [List.length_take]; omega⟩
    rw [z] at this
    cases this
  · have a := List.length_filter_le (fun r : List Int => (r.length : Int) == C) kept
    have : kept.length ≤ 512 := by simpa using hl
    omega
  · obtain ⟨la, lf, ll⟩ := (mem l).mp hl
    obtain ⟨oa, of, ol⟩ := (mem o).mp ho
    obtain ⟨t, t1, t2, t3, t4, t5⟩ := fit_exc hcr la oa ((hfit l).mp lf) ((hfit o).mp of) (by omega) hx nx
    exact ⟨t, t1, t2, (mem _).mpr ⟨t3, (hfit _).mpr t4, by rw [t5]; exact ll⟩⟩
  · have a := ((mem l).mp hl).2.2
    have b := ((mem k).mp hk2).2.2
    omega
theorem tu_2 (a b : Int) : PyData.tuple [.int a, .int b] = tu [a, b] := rfl
theorem oIx_2a (a b : Int) : oIx (tu [a, b]) (.int 0) = .ok (.int a) := rfl
theorem oIx_2b (a b : Int) : oIx (tu [a, b]) (.int 1) = .ok (.int b) := rfl
theorem v_forest3 (row : List Int) (roads : List (List Int)) (p : Int) (hp : 0 ≤ p ∧ p ≤ 12) (hr : ∀ t ∈ row, 0 ≤ t ∧ t < (roads.length : Int) ∧ Road p (ixr roads t)) : m_law_is_forest [tu row, lt roads, .int p] = .ok (.bool (forest roads p row)) := by
  show endR (g_law_is_forest [some (.d (tu row)), some (.d (lt roads)), some (.d (.int p)), none, none, none, none, none]) = _
  have key : ∀ (xs lab : List Int) (o4 o5 o6 : Option Sl), Lab p lab → (∀ t ∈ xs, 0 ≤ t ∧ t < (roads.length : Int) ∧ Road p (ixr roads t)) →
      forGo (.nm 4) b_law_is_forest_1 (xs.map .int) [some (.d (tu row)), some (.d (lt roads)), some (.d (.int p)), some (.d (li lab)), o4, o5, o6, none] = (if forB roads xs lab = true then forGo (.nm 4) b_law_is_forest_1 (xs.map .int) [some (.d (tu row)), some (.d (lt roads)), some (.d (.int p)), some (.d (li lab)), o4, o5, o6, none] else .rt (.bool false)) ∧
      (forB roads xs lab = true → ∃ ρ', forGo (.nm 4) b_law_is_forest_1 (xs.map .int) [some (.d (tu row)), some (.d (lt roads)), some (.d (.int p)), some (.d (li lab)), o4, o5, o6, none] = .nx ρ') := by
    intro xs
    induction xs with
    | nil => intro lab o4 o5 o6 _ _; exact ⟨by simp [forB], fun _ => ⟨_, rfl⟩⟩
    | cons t xs ih =>
      intro lab o4 o5 o6 hL ht
      obtain ⟨t0, t1, rd⟩ := ht t List.mem_cons_self
      obtain ⟨a, b, hab, ha, hb⟩ := rd
      have er := ix_lt t0 t1
      have j1 : joinL lab (ixr roads t) = lab.map fun x => if x = ixv lab a then ixv lab b else x := by rw [hab]; rfl
      have LJ := hL.join ⟨a, b, hab, ha, hb⟩
      rw [j1] at LJ
      have fb : forB roads (t :: xs) lab = (!decide (ixv lab a = ixv lab b) && forB roads xs (lab.map fun x => if x = ixv lab a then ixv lab b else x)) := by
        show (!decide (ixv lab (ixv (ixr roads t) 0) = ixv lab (ixv (ixr roads t) 1)) && forB roads xs (joinL lab (ixr roads t))) = _
        rw [j1, hab]
        rfl
      rw [hab] at er
      have ea := ix_li (L := lab) (i := a) ha.1 (by rw [hL.len]; exact ha.2)
      have eb := ix_li (L := lab) (i := b) hb.1 (by rw [hL.len]; exact hb.2)
      rw [fb]
      by_cases e : ixv lab a = ixv lab b
      · have : forGo (.nm 4) b_law_is_forest_1 ((t :: xs).map PyData.int) [some (.d (tu row)), some (.d (lt roads)), some (.d (.int p)), some (.d (li lab)), o4, o5, o6, none] = .rt (.bool false) := by
          simp [forGo, b_law_is_forest_1, er, oIx_2a, oIx_2b, ea, eb, e]
        rw [this]
        simp [e]
      · have st : forGo (.nm 4) b_law_is_forest_1 ((t :: xs).map PyData.int) [some (.d (tu row)), some (.d (lt roads)), some (.d (.int p)), some (.d (li lab)), o4, o5, o6, none] = forGo (.nm 4) b_law_is_forest_1 (xs.map PyData.int) [some (.d (tu row)), some (.d (lt roads)), some (.d (.int p)), some (.d (li (lab.map fun x => if x = ixv lab a then ixv lab b else x))), some (.d (.int t)), some (.d (.int (ixv lab a))), some (.d (.int (ixv lab b))), none] := by
          simp [forGo, b_law_is_forest_1, er, oIx_2a, oIx_2b, ea, eb, e]
        rw [st]
        obtain ⟨i1, i2⟩ := ih (lab.map fun x => if x = ixv lab a then ixv lab b else x) (some (.d (.int t))) (some (.d (.int (ixv lab a)))) (some (.d (.int (ixv lab b)))) LJ fun u hu => ht u (List.mem_cons_of_mem _ hu)
        rw [decide_eq_false e]
        simp only [Bool.not_false, Bool.true_and]
        exact ⟨i1, i2⟩
  obtain ⟨k1, k2⟩ := key row (rangeI 0 p) none none none (Lab.start hp.1) hr
  unfold forest
  by_cases hb : forB roads row (rangeI 0 p) = true
  · obtain ⟨ρ', e⟩ := k2 hb
    rw [hb]
    simp [g_law_is_forest, bLstR1_ok (rgOk_small (n := p) (by omega) (by omega)), e]
  · rw [if_neg hb] at k1
    rw [Bool.eq_false_iff.mpr hb]
    simp [g_law_is_forest, bLstR1_ok (rgOk_small (n := p) (by omega) (by omega)), k1]
theorem v_forest_lots3 (L : List Int) (n : Int) (h0 : 0 ≤ n) (h1 : n ≤ 9) (hL : 2 + n ≤ (L.length : Int)) : ∃ ks : List (List Int), m_law_forest_lots [li L, .int n] = .ok (tt ks) ∧ Smooth n ks := by
  show ∃ ks : List (List Int), endR (g_law_forest_lots [some (.d (li L)), some (.d (.int n)), none, none, none, none, none, none, none]) = _ ∧ _
  obtain ⟨rows, e2, hr, hz2, hs⟩ := v_parts2 n h0 (by omega)
  have hz : rows.length ≤ 512 := by
    rw [hz2]
    have hp : 2 ^ n.toNat ≤ 2 ^ 9 := Nat.pow_le_pow_right (by decide) (by omega)
    omega
  have e31 := ix_li (L := L) (i := 1) (by decide) (by omega)
  have f3a := fmod_lo (ixv L 1) (b := 3) (by decide)
  have f3b := fmod_hi (ixv L 1) (b := 3) (by decide)
  generalize hp : 2 + (ixv L 1).fmod 3 = p
  have p2 : 2 ≤ p ∧ p ≤ 4 := by omega
  have p0 : p ≠ 0 := by omega
  have p1 : p.natAbs < 1073741824 := by omega
  have key := forGo_inv (i := 4) (g := b_law_forest_lots_1) (enc := PyData.int) (fun xs ρ => ∃ (k : Int) (roads : List (List Int)) (o4 o5 : Option Sl), ρ = [some (.d (li L)), some (.d (.int n)), some (.d (.int p)), some (.own (roads.map tu)), o4, o5, none, none, none] ∧ xs = rangeI k n ∧ 0 ≤ k ∧ k ≤ n ∧ (roads.length : Int) = k ∧ ∀ r ∈ roads, Road p r) (by
    rintro x xs ρ ⟨k, roads, o4, o5, rfl, hx, k0, k1, hl, hR⟩
    obtain ⟨hk1, rfl, rfl⟩ := rangeI_inv hx
    have hs : roads.length < sizeLine := line_lt (by omega)
    have ex := ix_li (L := L) (i := 2 + x) (by omega) (by omega)
    refine ⟨[some (.d (li L)), some (.d (.int n)), some (.d (.int p)), some (.own ((roads ++ [[(ixv L (2 + x)).fmod p, ((ixv L (2 + x)).fdiv p).fmod p]]).map tu)), some (.d (.int x)), some (.d (.int (ixv L (2 + x)))), none, none, none], ?_, x + 1, _, _, _, rfl, rfl, by omega, by omega, by simp; omega, fun r hr => ?_⟩
    · simp [b_law_forest_lots_1, ex, oMod_int p0, oDiv_lit p0 p1, hs, tu_2]
    · rcases List.mem_append.mp hr with hr | hr
      · exact hR r hr
      · rw [List.mem_singleton.mp hr]
        exact ⟨_, _, rfl, ⟨fmod_lo _ (by omega), fmod_hi _ (by omega)⟩, fmod_lo _ (by omega), fmod_hi _ (by omega)⟩)
  obtain ⟨ρ', e, k, roads, o4, o5, rfl, hx, k0, k1, hl, hR⟩ := key (rangeI 0 n) [some (.d (li L)), some (.d (.int n)), some (.d (.int p)), some (.own []), none, none, none, none, none] ⟨0, [], none, none, rfl, rfl, by omega, h0, rfl, by simp⟩
  have ek : k = n := by
    by_cases h : k < n
    · rw [rangeI_cons h] at hx; cases hx
    · omega
  subst ek
  have rok : ∀ r, Asc k r → ∀ t ∈ r, 0 ≤ t ∧ t < (roads.length : Int) ∧ Road p (ixr roads t) := fun r ha t ht => by
    have := ha.2 t ht
    exact ⟨this.1, by omega, hR _ (ixr_mem this.1 (by omega))⟩
  have ef : ∀ r ∈ rows, m_law_is_forest [tu r, lt roads, .int p] = .ok (.bool (forest roads p r)) := fun r hr2 => v_forest3 r roads p ⟨by omega, by omega⟩ (rok r ((hr r).mp hr2))
  have f0 : forest roads p [] = true := rfl
  have er := rngA1_ok (n := k) (by omega) (by omega)
  have e5 : lcR (fun r : List Int => m_law_is_forest [tu r, lt roads, .int p] >>= asB) (fun r => R.ok (tu r)) rows = .ok ((rows.filter (forest roads p)).map tu) := lcR_of fun r hr2 => ⟨by rw [ef r hr2]; rfl, fun _ => rfl⟩
  have hne : rows.filter (forest roads p) ≠ [] := fun z => by
    have : [] ∈ rows.filter (forest roads p) := List.mem_filter.mpr ⟨(hr []).mpr (Asc.nil k), f0⟩
    rw [z] at this; cases this
  generalize hF : rows.filter (forest roads p) = F at e5 hne
  have hFr : ∀ r, r ∈ F ↔ Asc k r ∧ forest roads p r = true := fun r => by rw [← hF, List.mem_filter, hr]
  have hFl : F.length ≤ 512 := by rw [← hF]; exact Nat.le_trans (List.length_filter_le _ _) hz
  have hFs : Asd F := by rw [← hF]; exact (hs : Asd rows).filter _
  have hmx := bMax_li (l := F.map fun r => (r.length : Int)) (by simpa using hne)
  have hmem := maxI_mem (ns := F.map fun r => (r.length : Int)) (List.length_pos_iff.mpr (by simpa using hne))
  have hup : ∀ r, r ∈ F → (r.length : Int) ≤ maxI (F.map fun r => (r.length : Int)) := fun r h => le_maxI (List.mem_map.mpr ⟨r, h, rfl⟩)
  generalize hM : maxI (F.map fun r => (r.length : Int)) = M at hmx hmem hup
  have mem : ∀ r, r ∈ (F.filter fun r => (r.length : Int) == M) ↔ (Asc k r ∧ forest roads p r = true) ∧ (r.length : Int) = M := fun r => by rw [List.mem_filter, hFr]; simp
  refine ⟨F.filter fun r => (r.length : Int) == M, ?_, ⟨fun l hl => ((mem l).mp hl).1.1, hFs.filter _, fun z => ?_, ?_⟩, fun l hl x hx o ho nx => ?_, fun l hl q hq => ?_⟩
  · simp [g_law_forest_lots, e31, oMod_int, hp, er, e, e2, e5, hmx]
  · obtain ⟨r0, h3, h4⟩ := List.mem_map.mp hmem
    have : r0 ∈ F.filter fun r => (r.length : Int) == M := List.mem_filter.mpr ⟨h3, by rw [beq_iff_eq]; exact h4⟩
    rw [z] at this; cases this
  · have := List.length_filter_le (fun r : List Int => (r.length : Int) == M) F
    omega
  · obtain ⟨⟨la, lf⟩, ll⟩ := (mem l).mp hl
    obtain ⟨⟨oa, of⟩, ol⟩ := (mem o).mp ho
    obtain ⟨t, t1, t2, t3⟩ := forest_exc (p := p) (by omega) la oa (fun t ht => (rok l la t ht).2.2) (fun t ht => (rok o oa t ht).2.2) lf of (by omega) hx nx
    exact ⟨t, t1, t2, (mem _).mpr ⟨⟨exch_asc la t2 (oa.2 t t1), t3⟩, by rw [exch_len la.nodup hx]; exact ll⟩⟩
  · have a := ((mem l).mp hl).2
    have b := ((mem q).mp hq).2
    omega
theorem v_smooth3 (c n : Int) (h0 : 0 ≤ n) (h1 : n ≤ 9) : ∃ ks : List (List Int), m_law_smooth_lots_k03 [.int c, .int n] = .ok (tt ks) ∧ Smooth n ks := by
  show ∃ ks : List (List Int), endR (g_law_smooth_lots_k03 [some (.d (.int c)), some (.d (.int n)), none, none, none, none]) = _ ∧ _
  obtain ⟨L, e1, hL, bL⟩ := v_draws c (3 + n) (by omega) (by omega)
  have hLn : (L.length : Int) = 3 + n := by rw [hL]; omega
  have e30 := ix_li (L := L) (i := 0) (by decide) (by omega)
  have hrest : ∀ ls : List (List Int), lcR (fun _ => R.ok true) (fun l => m_law_rest_of [tu l, .int n]) ls = .ok (ls.map fun l => tu ((rangeI 0 n).filter fun x => !decide (x ∈ l))) := fun ls => lcR_mem fun l _ => v_rest_of l n h0 (by omega)
  generalize hk : (ixv L 0).fmod 6 = k
  have any : ∀ d : PyData, ∀ ks : List (List Int), d = tt ks → Smooth n ks → (k < 4 → m_law_bounded_lots [li L, .int n] = .ok d) → (¬ k < 4 → m_law_forest_lots [li L, .int n] = .ok d) →
      ∃ ks : List (List Int), endR (g_law_smooth_lots_k03 [some (.d (.int c)), some (.d (.int n)), none, none, none, none]) = .ok (tt ks) ∧ Smooth n ks := by
    rintro d ks rfl hs hb hf
    by_cases h35 : k = 3 ∨ k = 5
    · refine ⟨sortT (ks.map fun l => (rangeI 0 n).filter fun x => !decide (x ∈ l)), ?_, hs.opp⟩
      · by_cases h4 : k < 4
        · have h : k = 3 := by omega
          simp [g_law_smooth_lots_k03, e1, e30, oMod_int, hk, hb h4, h, hrest]
        · have h : k = 5 := by omega
          simp [g_law_smooth_lots_k03, e1, e30, oMod_int, hk, hf h4, h, hrest]
    · refine ⟨ks, ?_, hs⟩
      have n3 : ¬ k = 3 := fun h => h35 (.inl h)
      have n5 : ¬ k = 5 := fun h => h35 (.inr h)
      by_cases h4 : k < 4
      · simp [g_law_smooth_lots_k03, e1, e30, oMod_int, hk, h4, hb h4, n3, n5]
      · simp [g_law_smooth_lots_k03, e1, e30, oMod_int, hk, h4, hf h4, n3, n5]
  by_cases h4 : k < 4
  · obtain ⟨ks, q1, q2⟩ := v_bounded3 L n h0 h1 hLn
    exact any _ ks rfl q2 (fun _ => q1) fun h => absurd h4 h
  · obtain ⟨ks, q1, q2⟩ := v_forest_lots3 L n h0 h1 (by omega)
    exact any _ ks rfl q2 (fun h => absurd h h4) fun _ => q1
theorem v_any3 (c n : Int) (h0 : 0 ≤ n) (h1 : n ≤ 9) : ∃ ks : List (List Int), m_law_any_lots_k03 [.int c, .int n] = .ok (tt ks) ∧ Good n ks := by
  show ∃ ks : List (List Int), endR (g_law_any_lots_k03 [some (.d (.int c)), some (.d (.int n)), none, none, none, none, none, none, none, none]) = _ ∧ _
  obtain ⟨L, e1, hL, bL⟩ := v_draws c (15 + n) (by omega) (by omega)
  have hLn : (L.length : Int) = 15 + n := by rw [hL]; omega
  have e12 := ix_li (L := L) (i := 12) (by decide) (by omega)
  have er := rngA1_ok (n := n) (by omega) (by omega)
  generalize hk : (ixv L 12).fmod 4 = k
  by_cases c1 : k = 1
  · obtain ⟨ls, q1, qs⟩ := v_smooth3 c n h0 h1
    obtain ⟨ks, w1, w2, w3⟩ := v_left3 (L.drop 13) ls (by rw [List.length_drop]; omega) (by have := qs.good.len; omega) qs.good.ne
    have ec : oCut (li L) (some 13) none = .ok (li (L.drop 13)) := cut_li L 13 (by omega)
    refine ⟨ks, ?_, ⟨fun r hr => qs.good.asc r (w3.subset hr), qs.good.asd.sublist w3, w2, by have := w3.length_le; have := qs.good.len; omega⟩⟩
    simp [g_law_any_lots_k03, e1, e12, oMod_int, hk, c1, q1, ec, w1]
  · by_cases c2 : k = 2 ∧ 2 < n
    · obtain ⟨c2, c3⟩ := c2
      generalize hsd : (rangeI 0 n).map (fun k => (ixv L (15 + k)).fmod 3) = sd
      have lsd : (sd.length : Int) = n := by rw [← hsd, List.length_map, rangeI_len]; omega
      have er3 := rngA1_ok (n := 3) (by decide) (by decide)
      obtain ⟨ks, w1, w2, wA, wL⟩ := v_antichain2 ((rangeI 0 3).map fun s => (rangeI 0 n).filter fun t => ixv sd t == s) (by rw [List.length_map, rangeI_len]; decide)
      have hasc : ∀ r ∈ (rangeI 0 3).map fun s => (rangeI 0 n).filter fun t => ixv sd t == s, Asc n r := fun r hr => by
        obtain ⟨s, _, rfl⟩ := List.mem_map.mp hr
        exact asc_rest n _
      refine ⟨ks, ?_, ⟨fun r hr => hasc r ((w2 r).mp hr).1, wA, ?_, by rw [List.length_map, rangeI_len] at wL; omega⟩⟩
      · simp [g_law_any_lots_k03, e1, e12, oMod_int, hk, c2, c3, er]
        rw [lcR_mem (g := fun k => PyData.int ((ixv L (15 + k)).fmod 3))]
        · have ei : ∀ s : Int, lcR (fun t : Int => (oIx (li sd) (.int t) >>= fun a => oEq a (.int s)) >>= asB) (fun t => R.ok (PyData.int t)) (rangeI 0 n) = .ok (((rangeI 0 n).filter fun t => ixv sd t == s).map PyData.int) := fun s => lcR_of fun t ht => by
            obtain ⟨t0, t1⟩ := mem_rangeI.mp ht
            simp [ix_li (L := sd) (i := t) t0 (by omega)]
          simp [hsd, er3, er, ei, w1]
        · intro k hk3
          obtain ⟨k1, k2⟩ := mem_rangeI.mp hk3
          simp [ix_li (L := L) (i := 15 + k) (by omega) (by omega), oMod_int]
      · obtain ⟨x, x1, x2⟩ := top_some hasc (fun z => by have := congrArg List.length z; rw [List.length_map, rangeI_len] at this; simp at this)
        exact List.ne_nil_of_mem ((w2 x).mpr ⟨x1, x2⟩)
    · obtain ⟨rows, e2, hr, hz, _⟩ := v_parts2 n h0 (by omega)
      have e3 := ix_li (L := L) (i := 0) (by decide) (by omega)
      generalize ixv L 0 = d0 at e3
      have b1 := fmod_lo d0 (b := 6) (by decide)
      have b2 := fmod_hi d0 (b := 6) (by decide)
      have hne : 0 < rows.length := List.length_pos_of_mem ((hr []).mpr (Asc.nil n))
      have e5 := rngA1_ok (n := 1 + d0.fmod 6) (by omega) (by omega)
      have f1 : ∀ a : Int, 0 ≤ a.fmod rows.length ∧ a.fmod rows.length < rows.length := fun a => ⟨fmod_lo a (by omega), fmod_hi a (by omega)⟩
      obtain ⟨ks, e6, h6, hA, hL2⟩ := v_antichain2 ((rangeI 0 (1 + d0.fmod 6)).map fun k => ixr rows ((ixv L (1 + k)).fmod rows.length)) (by rw [List.length_map, rangeI_len]; omega)
      have hasc : ∀ r ∈ (rangeI 0 (1 + d0.fmod 6)).map fun k => ixr rows ((ixv L (1 + k)).fmod rows.length), Asc n r := fun r hr2 => by
        obtain ⟨j, hj, rfl⟩ := List.mem_map.mp hr2
        exact (hr _).mp (ixr_mem (f1 _).1 (f1 _).2)
      have hc2 : (if k = 2 then decide (2 < n) else false) = false := by
        by_cases h : k = 2
        · have : ¬ 2 < n := fun h2 => c2 ⟨h, h2⟩
          simp [h, this]
        · simp [h]
      refine ⟨ks, ?_, ⟨fun r hr2 => hasc r ((h6 r).mp hr2).1, hA, ?_, by rw [List.length_map, rangeI_len] at hL2; omega⟩⟩
      · by_cases h2 : k = 2
        · have hn : ¬ 2 < n := fun h3 => c2 ⟨h2, h3⟩
          simp [g_law_any_lots_k03, e1, e12, oMod_int, hk, h2, hn, e2, e3, e5]
          rw [lcR_mem (g := fun k => tu (ixr rows ((ixv L (1 + k)).fmod rows.length)))]
          · simp [e6]
          · intro k hk
            obtain ⟨k1, k2⟩ := mem_rangeI.mp hk
            have n0 : (rows.length : Int) ≠ 0 := by omega
            simp [ix_li (L := L) (i := 1 + k) (by omega) (by omega), oMod_int n0, ix_lt (f1 _).1 (f1 _).2]
        · simp [g_law_any_lots_k03, e1, e12, oMod_int, hk, c1, h2, e2, e3, e5]
          rw [lcR_mem (g := fun k => tu (ixr rows ((ixv L (1 + k)).fmod rows.length)))]
          · simp [e6]
          · intro k hk
            obtain ⟨k1, k2⟩ := mem_rangeI.mp hk
            have n0 : (rows.length : Int) ≠ 0 := by omega
            simp [ix_li (L := L) (i := 1 + k) (by omega) (by omega), oMod_int n0, ix_lt (f1 _).1 (f1 _).2]
      · obtain ⟨x, x1, x2⟩ := top_some hasc (fun z => by have := congrArg List.length z; rw [List.length_map, rangeI_len, List.length_nil] at this; omega)
        exact List.ne_nil_of_mem ((h6 x).mpr ⟨x1, x2⟩)
theorem v_lots3 (c n : Int) (h0 : 0 ≤ n) (h1 : n ≤ 9) : ∃ ks : List (List Int), m_law_lots_k03 [.int c, .int n] = .ok (tt ks) ∧ Good n ks := by
  show ∃ ks : List (List Int), endR (g_law_lots_k03 [some (.d (.int c)), some (.d (.int n))]) = _ ∧ _
  obtain ⟨L, e1, hL, bL⟩ := v_draws c 12 (by decide) (by decide)
  have hL3 : L.length = 12 := hL
  have e11 := ix_li (L := L) (i := 11) (by decide) (by omega)
  by_cases h : (ixv L 11).fmod 2 = 0
  · obtain ⟨ks, e, hk⟩ := v_smooth3 c n h0 h1
    refine ⟨ks, ?_, hk.good⟩
    simp [g_law_lots_k03, e1, e11, oMod_int, h, e]
  · obtain ⟨ks, e, hk⟩ := v_any3 c n h0 h1
    refine ⟨ks, ?_, hk⟩
    simp [g_law_lots_k03, e1, e11, oMod_int, h, e]
end LW

set_option Elab.async false
set_option maxRecDepth 100000
set_option linter.all false
set_option maxHeartbeats 2000000
namespace LW
open PySem PySem.Spec PyProof.Rows L2 PD
theorem v_count_common (a b : List Int) : m_count_common [tu a, tu b] = .ok (.int (a.filter fun x => decide (x ∈ b)).length) := by
  show endR (g_count_common [some (.d (tu a)), some (.d (tu b)), none]) = _
  simp [g_count_common]
theorem v_rankF (n : Int) (ls : List (List Int)) (t : List Int) (h : ls ≠ []) : m_rank [.tuple [.int n, tt ls], tu t] = .ok (.int (maxI (ls.map fun l => ((t.filter fun x => decide (x ∈ l)).length : Int)))) := by
  show endR (g_rank [some (.d (.tuple [.int n, tt ls])), some (.d (tu t)), none]) = _
  have e := bMax_li (l := ls.map fun l => ((t.filter fun x => decide (x ∈ l)).length : Int)) (by simpa using h)
  simp [g_rank, v_count_common, e]
theorem v_lies (a b : List Int) : m_lies_within [tu a, tu b] = .ok (.bool (a.all fun x => decide (x ∈ b))) := by
  show endR (g_lies_within [some (.d (tu a)), some (.d (tu b)), none]) = _
  simp [g_lies_within, anyR_map]
  rw [allR_of (q := fun x => decide (x ∈ b))]
  · simp
  · intro x _; simp
theorem v_free (n : Int) (ls : List (List Int)) (t : List Int) : m_is_free [.tuple [.int n, tt ls], tu t] = .ok (.bool (ls.any fun l => t.all fun x => decide (x ∈ l))) := by
  show endR (g_is_free [some (.d (.tuple [.int n, tt ls])), some (.d (tu t)), none]) = _
  simp [g_is_free, anyR_map]
  rw [anyR_of (q := fun l => t.all fun x => decide (x ∈ l))]
  · simp
  · intro l _; exact v_lies t l
theorem count_eq {n : Int} {l t : List Int} (hl : Asc n l) (ht : Asc n t) : (l.filter fun x => decide (x ∈ t)) = t.filter fun x => decide (x ∈ l) :=
  asc_ext (hl.1.filter _) (ht.1.filter _) fun y => by simp [List.mem_filter, and_comm]
theorem free_most (ls : List (List Int)) (t : List Int) (h : ls ≠ []) : (ls.any fun l => t.all fun x => decide (x ∈ l)) = (maxI (ls.map fun l => ((t.filter fun x => decide (x ∈ l)).length : Int)) == (t.length : Int)) := by
  have hm := maxI_mem (ns := ls.map fun l => ((t.filter fun x => decide (x ∈ l)).length : Int)) (List.length_pos_iff.mpr (by simpa using h))
  obtain ⟨l0, h0, e0⟩ := List.mem_map.mp hm
  have up : ∀ l : List Int, (t.filter fun x => decide (x ∈ l)).length ≤ t.length := fun l => List.length_filter_le _ _
  rw [Bool.eq_iff_iff, List.any_eq_true, beq_iff_eq]
  constructor
  · rintro ⟨l, hl, hall⟩
    have e : (t.filter fun x => decide (x ∈ l)) = t := List.filter_eq_self.mpr (by simpa using hall)
    have h1 := le_maxI (ns := ls.map fun l => ((t.filter fun x => decide (x ∈ l)).length : Int)) (List.mem_map.mpr ⟨l, hl, rfl⟩)
    rw [e] at h1
    have h2 := up l0
    have e0' : (((t.filter fun x => decide (x ∈ l0)).length : Nat) : Int) = maxI (ls.map fun l => ((t.filter fun x => decide (x ∈ l)).length : Int)) := e0
    omega
  · intro e
    refine ⟨l0, h0, ?_⟩
    have e0' : (((t.filter fun x => decide (x ∈ l0)).length : Nat) : Int) = maxI (ls.map fun l => ((t.filter fun x => decide (x ∈ l)).length : Int)) := e0
    have hl : (t.filter fun x => decide (x ∈ l0)).length = t.length := by omega
    have s : (t.filter fun x => decide (x ∈ l0)).Sublist t := List.filter_sublist
    have e1 := s.eq_of_length hl
    rw [List.all_eq_true]
    intro x hx
    rw [← e1] at hx
    exact (List.mem_filter.mp hx).2
theorem main_k03 (ns : List Int) (hn : ns.length ≤ 63) : m_law_k03 [.list (ns.map .int)] = .ok (.bool true) := by
  show endR (g_law_k03 [some (.d (li ns)), none, none, none, none, none, none, none, none, none]) = _
  obtain ⟨c0, e0⟩ := v_cell ns 0 (by decide)
  obtain ⟨c1, e1⟩ := v_cell ns 1 (by decide)
  obtain ⟨L, eL, hL, bL⟩ := v_draws c0 1 (by decide) (by decide)
  have hL2 : L.length = 1 := hL
  have e30 := ix_li (L := L) (i := 0) (by decide) (by omega)
  have f8a := fmod_lo (ixv L 0) (b := 8) (by decide)
  have f8b := fmod_hi (ixv L 0) (b := 8) (by decide)
  have e8 := ix_tu (L := [4, 3, 5, 2, 6, 1, 0, 4]) (i := (ixv L 0).fmod 8) f8a (by simpa using f8b)
  have m8 : ixv [4, 3, 5, 2, 6, 1, 0, 4] ((ixv L 0).fmod 8) ∈ [4, 3, 5, 2, 6, 1, 0, 4] := ixv_mem f8a (by simpa using f8b)
  generalize ixv [4, 3, 5, 2, 6, 1, 0, 4] ((ixv L 0).fmod 8) = F at e8 m8
  have hF : 0 ≤ F ∧ F ≤ 6 := by
    simp only [List.mem_cons, List.not_mem_nil, or_false] at m8
    omega
  obtain ⟨ls, q1, gd⟩ := v_lots3 c1 F hF.1 (by omega)
  have hne := gd.ne
  have ha := gd.asc
  obtain ⟨rows, e2, hr, hz⟩ := v_parts F hF.1 (by omega)
  have key := forGo_inv (i := 4) (g := b_law_k03_1) (enc := tu) (fun xs ρ => ∃ (o4 o5 o6 o7 : Option Sl), ρ = [some (.d (li ns)), some (.d (li L)), some (.d (.int F)), some (.d (.tuple [.int F, tt ls])), o4, o5, o6, o7, none, none] ∧ ∀ x ∈ xs, Asc F x) (by
    rintro t xs ρ ⟨o4, o5, o6, o7, rfl, hx⟩
    have ht := hx t List.mem_cons_self
    have em : (ls.map fun l => ((l.filter fun x => decide (x ∈ t)).length : Int)) = ls.map fun l => ((t.filter fun x => decide (x ∈ l)).length : Int) := List.map_congr_left fun l hl => by rw [count_eq (ha l hl) ht]
    have e5 := bMax_li (l := ls.map fun l => ((l.filter fun x => decide (x ∈ t)).length : Int)) (by simpa using hne)
    have er := v_rankF F ls t hne
    have ef := v_free F ls t
    have fm := free_most ls t hne
    have eM : maxI (ls.map fun l => ((l.filter fun x => decide (x ∈ t)).length : Int)) = maxI (ls.map fun l => ((t.filter fun x => decide (x ∈ l)).length : Int)) := by rw [em]
    rw [eM] at e5
    generalize maxI (ls.map fun l => ((t.filter fun x => decide (x ∈ l)).length : Int)) = M at e5 er fm
    have wi : lcR (fun _ => R.ok true) (fun l : List Int => m_law_within [tu t, tu l]) ls = .ok (ls.map fun l => PyData.bool (t.all fun x => decide (x ∈ l))) := lcR_mem fun l _ => v_within t l
    have ba := bAny_map (fun l : List Int => t.all fun x => decide (x ∈ l)) ls
    generalize ls.any (fun l => t.all fun x => decide (x ∈ l)) = V at ef fm ba
    generalize (ls.map fun l => PyData.bool (t.all fun x => decide (x ∈ l))) = W at wi ba
    refine ⟨[some (.d (li ns)), some (.d (li L)), some (.d (.int F)), some (.d (.tuple [.int F, tt ls])), some (.d (tu t)), some (.d (.int M)), some (.d (.int M)), some (.d (.bool V)), none, none], ?_, _, _, _, _, rfl, fun y hy => hx y (List.mem_cons_of_mem _ hy)⟩
    simp [b_law_k03_1, e5, er, v_integer, ef, wi, ba, isi_bool_b, fm])
  obtain ⟨ρ', e, o4, o5, o6, o7, rfl, _⟩ := key rows [some (.d (li ns)), some (.d (li L)), some (.d (.int F)), some (.d (.tuple [.int F, tt ls])), none, none, none, none, none, none] ⟨none, none, none, none, rfl, fun x hx => (hr x).mp hx⟩
  simp [g_law_k03, e0, e1, eL, e30, oMod_int, e8, q1, e2, e]
end LW

set_option Elab.async false
set_option maxRecDepth 100000
set_option linter.all false
set_option maxHeartbeats 4000000
namespace LW
open PySem PySem.Spec PyProof.Rows L2 PD
theorem main_k32 (ns : List Int) (hn : ns.length ≤ 63) : m_law_k32 [.list (ns.map .int)] = .ok (.bool true) := by
  show endR (g_law_k32 [some (.d (li ns)), none, none, none, none, none, none, none]) = _
  obtain ⟨c0, e0⟩ := v_cell ns 0 (by decide)
  obtain ⟨c1, e1⟩ := v_cell ns 1 (by decide)
  obtain ⟨c2, e2⟩ := v_cell ns 2 (by decide)
  obtain ⟨L, eL, hL, bL⟩ := v_draws c0 4 (by decide) (by decide)
  have hL4 : L.length = 4 := hL
  have e30 := ix_li (L := L) (i := 0) (by decide) (by omega)
  have e31 := ix_li (L := L) (i := 1) (by decide) (by omega)
  have e32 := ix_li (L := L) (i := 2) (by decide) (by omega)
  have e33 := ix_li (L := L) (i := 3) (by decide) (by omega)
  have fa := fmod_lo (ixv L 0) (b := 5) (by decide)
  have fb := fmod_hi (ixv L 0) (b := 5) (by decide)
  have ga := fmod_lo (ixv L 3) (b := 5) (by decide)
  have gb := fmod_hi (ixv L 3) (b := 5) (by decide)
  have e8 := ix_tu (L := [4, 5, 3, 4, 2]) (i := (ixv L 0).fmod 5) fa (by simpa using fb)
  have m8 : ixv [4, 5, 3, 4, 2] ((ixv L 0).fmod 5) ∈ [4, 5, 3, 4, 2] := ixv_mem fa (by simpa using fb)
  generalize ixv [4, 5, 3, 4, 2] ((ixv L 0).fmod 5) = N at e8 m8
  have hN : 2 ≤ N ∧ N ≤ 5 := by
    simp only [List.mem_cons, List.not_mem_nil, or_false] at m8
    omega
  have e9 := ix_tu (L := [4, 3, 4, 2, 1]) (i := (ixv L 3).fmod 5) ga (by simpa using gb)
  have m9 : ixv [4, 3, 4, 2, 1] ((ixv L 3).fmod 5) ∈ [4, 3, 4, 2, 1] := ixv_mem ga (by simpa using gb)
  generalize ixv [4, 3, 4, 2, 1] ((ixv L 3).fmod 5) = M at e9 m9
  have hM : 1 ≤ M ∧ M ≤ 4 := by
    simp only [List.mem_cons, List.not_mem_nil, or_false] at m9
    omega
  have la := fmod_lo (ixv L 1) (b := N - 1) (by omega)
  have lb := fmod_hi (ixv L 1) (b := N - 1) (by omega)
  have el := oMod_int (i := ixv L 1) (j := N - 1) (by omega)
  generalize (ixv L 1).fmod (N - 1) = A at la lb el
  have ha := fmod_lo (ixv L 2) (b := N - 1 - A) (by omega)
  have hb := fmod_hi (ixv L 2) (b := N - 1 - A) (by omega)
  have eh := oMod_int (i := ixv L 2) (j := N - 1 - A) (by omega)
  generalize (ixv L 2).fmod (N - 1 - A) = D at ha hb eh
  obtain ⟨ks, ek, hk⟩ := v_smooth2 c1 N (by omega) (by omega)
  obtain ⟨os, eo, ho⟩ := v_lots2 c2 M (by omega) (by omega)
  have r1 : m_law_in_both_orders [.tuple [.int N, tt ks], .int A, .int (A + 1 + D)] = .ok (.bool true) := v_in_both N A (A + 1 + D) ks hk la (by omega) (by omega) (by omega)
  have r2 : m_law_mirrored [.tuple [.int M, tt os]] = .ok (.bool true) := v_mirrored M os ho (by omega) (by omega)
  have r3 : m_law_mirrored [.tuple [.int N, tt ks]] = .ok (.bool true) := v_mirrored N ks hk.good (by omega) (by omega)
  have t5 : PyData.tuple [.int 4, .int 5, .int 3, .int 4, .int 2] = tu [4, 5, 3, 4, 2] := rfl
  have t6 : PyData.tuple [.int 4, .int 3, .int 4, .int 2, .int 1] = tu [4, 3, 4, 2, 1] := rfl
  simp [g_law_k32, t5, t6, e0, e1, e2, eL, e30, e31, e32, e33, oMod_int, e8, e9, el, eh, ek, eo, r1, r2, r3]
end LW

set_option Elab.async false
set_option maxRecDepth 100000
set_option linter.all false
set_option maxHeartbeats 2000000
namespace LW
open PySem PySem.Spec PyProof.Rows L2 PD
theorem v_closed (lot : List Int) (x : Int) (hl : lot.length ≤ 1000) : m_law_closed [tu lot, .int x] = .ok (tu (lot.filter (fun y => decide (y < x)) ++ (lot.filter (fun y => decide (x < y))).map (fun y => y - 1))) := by
  show endR (g_law_closed [some (.d (tu lot)), some (.d (.int x)), none]) = _
  have := List.length_filter_le (fun y => decide (y < x)) lot
  have := List.length_filter_le (fun y => decide (x < y)) lot
  simp [g_law_closed, oAdd_li (a := lot.filter (fun y => decide (y < x))) (b := (lot.filter (fun y => decide (x < y))).map (fun y => y - 1)) (by rw [List.length_map]; omega)]
def goneL (x : Int) (l : List Int) : List Int := l.filter (fun y => decide (y < x)) ++ (l.filter (fun y => decide (x < y))).map (fun y => y - 1)
theorem gone_eq (x : Int) : ∀ l : List Int, l.Pairwise (· < ·) → goneL x l = gone x l
  | [], _ => rfl
  | y :: ys, h => by
    obtain ⟨h1, h2⟩ := List.pairwise_cons.mp h
    have ih := gone_eq x ys h2
    unfold goneL gone at ih ⊢
    rcases Int.lt_trichotomy y x with e | e | e
    · have a1 : ¬ x < y := by omega
      have a2 : ¬ y = x := by omega
      simp only [List.filter_cons, e, a1, a2, decide_true, decide_false, if_true, if_false, beq_eq_false_iff_ne, ne_eq, not_false_eq_true, Bool.not_false, List.map_cons, List.cons_append, ih, beq_iff_eq, Bool.false_eq_true, show (y == x) = false from beq_eq_false_iff_ne.mpr a2]
    · subst e
      simp only [List.filter_cons, Int.lt_irrefl, decide_false, Bool.false_eq_true, if_false, beq_self_eq_true, Bool.not_true, ih]
    · have a1 : ¬ y < x := by omega
      have a2 : ¬ y = x := by omega
      have none : ys.filter (fun y => decide (y < x)) = [] := List.filter_eq_nil_iff.mpr fun z hz => by have := h1 z hz; simp; omega
      rw [none, List.nil_append] at ih
      simp only [List.filter_cons, e, a1, decide_true, decide_false, Bool.false_eq_true, if_true, if_false, show (y == x) = false from beq_eq_false_iff_ne.mpr a2, Bool.not_false, List.map_cons, none, List.nil_append, ih]
theorem v_smaller (ls kept : List (List Int)) (x : Int) (h : ∀ l ∈ ls, l.Pairwise (· < ·) ∧ l.length ≤ 1000) (hk : ∀ l ∈ kept, l ∈ ls) : m_law_smaller [tt ls, lt kept, .int x] = .ok (tt (sortT ((orAll ls kept).map (gone x)))) := by
  show endR (g_law_smaller [some (.d (tt ls)), some (.d (lt kept)), some (.d (.int x)), none]) = _
  have c1 : ∀ l ∈ ls, m_law_closed [tu l, .int x] = .ok (tu (gone x l)) := fun l hl => by
    rw [v_closed l x (h l hl).2]
    exact congrArg (fun z => R.ok (tu z)) (gone_eq x l (h l hl).1)
  have c2 : lcR (fun _ => .ok true) (fun l => m_law_closed [tu l, .int x]) ls = .ok (ls.map fun l => tu (gone x l)) := lcR_mem c1
  have c3 : lcR (fun _ => .ok true) (fun l => m_law_closed [tu l, .int x]) kept = .ok (kept.map fun l => tu (gone x l)) := lcR_mem fun l hl => c1 l (hk l hl)
  by_cases e : kept.length = 0
  · have e' : kept = [] := List.length_eq_zero_iff.mp e
    simp [g_law_smaller, e', c2, orAll]
  · have e' : kept ≠ [] := fun z => e (by rw [z]; rfl)
    simp [g_law_smaller, e', c3, orAll]
theorem v_is_offer (n : Int) (ls : List (List Int)) (h : ∀ l ∈ ls, Asc n l) (hn : n ≤ 1000) : m_law_is_offer [.tuple [.int n, tt ls], .int n, tt ls] = .ok (.bool true) := by
  show endR (g_law_is_offer [some (.d (.tuple [.int n, tt ls])), some (.d (.int n)), some (.d (tt ls)), none]) = _
  have key := forGo_inv (i := 3) (g := b_law_is_offer_1) (enc := tu) (fun xs ρ => ∃ o3, ρ = [some (.d (.tuple [.int n, tt ls])), some (.d (.int n)), some (.d (tt ls)), o3] ∧ ∀ l ∈ xs, Asc n l) (by
    rintro l xs ρ ⟨o2, rfl, hk⟩
    refine ⟨[some (.d (.tuple [.int n, tt ls])), some (.d (.int n)), some (.d (tt ls)), some (.d (tu l))], ?_, _, rfl, fun y hy => hk y (List.mem_cons_of_mem _ hy)⟩
    have hl := hk l List.mem_cons_self
    simp [b_law_is_offer_1, v_is_set l n hl (by have := hl.len; omega)])
  obtain ⟨ρ', e, o2, rfl, _⟩ := key ls [some (.d (.tuple [.int n, tt ls])), some (.d (.int n)), some (.d (tt ls)), none] ⟨none, rfl, h⟩
  have b2 : bLen [.tuple [.int n, tt ls]] = .ok (.int 2) := rfl
  simp [g_law_is_offer, isi_tuple, isi_tt, b2, v_integer, e]
theorem v_tells31 (n : Int) (ls : List (List Int)) (hn : 0 ≤ n ∧ n ≤ 500) (h : ∀ l ∈ ls, Asc n l) : m_law_tells_k31 [.tuple [.int n, tt ls]] = .ok (.bool true) := by
  show endR (g_law_tells_k31 [some (.d (.tuple [.int n, tt ls])), none, none, none, none]) = _
  have key := forGo_inv (i := 2) (g := b_law_tells_k31_1) (enc := PyData.int) (fun xs ρ => ∃ o2 o3, ρ = [some (.d (.tuple [.int n, tt ls])), some (.d (.int n)), o2, o3, none] ∧ ∀ k ∈ xs, 0 ≤ k ∧ k < n) (by
    rintro k xs ρ ⟨o2, o3, rfl, hk⟩
    have hk0 := hk k List.mem_cons_self
    have hls : ∀ l ∈ ls, l.Pairwise (· < ·) ∧ l.length ≤ 1000 := fun l hl => ⟨(h l hl).1, by have := (h l hl).len; omega⟩
    have s1 := v_smaller ls (ls.filter fun l => !decide (k ∈ l)) k hls (fun l hl => (List.mem_filter.mp hl).1)
    have s2 := v_smaller ls (ls.filter fun l => decide (k ∈ l)) k hls (fun l hl => (List.mem_filter.mp hl).1)
    have asc : ∀ kept : List (List Int), (∀ l ∈ kept, l ∈ ls) → ∀ l ∈ sortT ((orAll ls kept).map (gone k)), Asc (n - 1) l := fun kept hkp l hl => by
      obtain ⟨l', hl', rfl⟩ := List.mem_map.mp (mem_sortT.mp hl)
      exact gone_asc (h l' (orAll_sub hkp hl')) hk0
    have o1 := v_is_offer (n - 1) _ (asc (ls.filter fun l => !decide (k ∈ l)) fun l hl => (List.mem_filter.mp hl).1) (by omega)
    have o2' := v_is_offer (n - 1) _ (asc (ls.filter fun l => decide (k ∈ l)) fun l hl => (List.mem_filter.mp hl).1) (by omega)
    refine ⟨[some (.d (.tuple [.int n, tt ls])), some (.d (.int n)), some (.d (.int k)), some (.d (tt (sortT ((orAll ls (ls.filter fun l => decide (k ∈ l))).map (gone k))))), none], ?_, _, _, rfl, fun y hy => hk y (List.mem_cons_of_mem _ hy)⟩
    simp [b_law_tells_k31_1, s1, s2, v_without, v_holding, o1, o2'])
  obtain ⟨ρ', e, o2, o3, rfl, _⟩ := key (rangeI 0 n) [some (.d (.tuple [.int n, tt ls])), some (.d (.int n)), none, none, none] ⟨none, none, rfl, fun k hk => mem_rangeI.mp hk⟩
  simp [g_law_tells_k31, rngA1_ok (n := n) (by omega) (by omega), e]
theorem v_drawn_set (c n : Int) (hn : 0 ≤ n ∧ n ≤ 500) : ∃ r : List Int, m_law_drawn_set [.int c, .int n] = .ok (tu r) ∧ Asc n r := by
  show ∃ r : List Int, endR (g_law_drawn_set [some (.d (.int c)), some (.d (.int n)), none, none, none]) = _ ∧ _
  have key := forGo_inv (i := 4) (g := b_law_drawn_set_1) (enc := PyData.int) (fun xs ρ => ∃ (k left : Int) (r : List Int) (o4 : Option Sl), ρ = [some (.d (.int c)), some (.d (.int n)), some (.d (.int left)), some (.own (r.map .int)), o4] ∧ xs = rangeI k n ∧ 0 ≤ k ∧ k ≤ n ∧ Asc k r) (by
    rintro x xs ρ ⟨k, left, r, o4, rfl, hx, k0, k1, ha⟩
    obtain ⟨hk1, rfl, rfl⟩ := rangeI_inv hx
    have hs : r.length < sizeLine := line_lt (by have := ha.len; omega)
    by_cases hb : left.fmod 2 = 1
    · refine ⟨[some (.d (.int c)), some (.d (.int n)), some (.d (.int (left.fdiv 2))), some (.own ((r ++ [x]).map .int)), some (.d (.int x))], ?_, x + 1, _, _, _, rfl, rfl, by omega, by omega, (asc_succ k0).mpr (.inr ⟨r, ha, rfl⟩)⟩
      simp [b_law_drawn_set_1, oMod_int, oDiv_lit, hb, hs]
    · refine ⟨[some (.d (.int c)), some (.d (.int n)), some (.d (.int (left.fdiv 2))), some (.own (r.map .int)), some (.d (.int x))], ?_, x + 1, _, _, _, rfl, rfl, by omega, by omega, (asc_succ k0).mpr (.inl ha)⟩
      simp [b_law_drawn_set_1, oMod_int, oDiv_lit, hb, hs])
  obtain ⟨ρ', e, k, left, r, o4, rfl, hx, k0, k1, ha⟩ := key (rangeI 0 n) [some (.d (.int c)), some (.d (.int n)), some (.d (.int c)), some (.own []), none] ⟨0, c, [], none, rfl, rfl, by omega, hn.1, Asc.nil _⟩
  have ek : k = n := by
    by_cases h : k < n
    · rw [rangeI_cons h] at hx; cases hx
    · omega
  subst ek
  refine ⟨r, ?_, ha⟩
  simp [g_law_drawn_set, rngA1_ok (n := k) (by omega) (by omega), e]
def drawnF (n c : Int) : List Int := match m_law_drawn_set [.int c, .int n] with
  | .ok d => unTu d
  | _ => []
theorem drawnF_ok (c n : Int) (hn : 0 ≤ n ∧ n ≤ 500) : m_law_drawn_set [.int c, .int n] = .ok (tu (drawnF n c)) ∧ Asc n (drawnF n c) := by
  obtain ⟨r, e, h⟩ := v_drawn_set c n hn
  have : drawnF n c = r := by unfold drawnF; rw [e]; exact unTu_tu r
  rw [this]; exact ⟨e, h⟩
theorem v_drawn_lots (c n : Int) (hn : 0 ≤ n ∧ n ≤ 500) : ∃ ks : List (List Int), m_law_drawn_lots [.int c, .int n] = .ok (tt ks) ∧ ∀ k ∈ ks, Asc n k := by
  show ∃ ks : List (List Int), endR (g_law_drawn_lots [some (.d (.int c)), some (.d (.int n)), none, none]) = _ ∧ _
  obtain ⟨L, e1, hL, bL⟩ := v_draws c 7 (by decide) (by decide)
  have hL7 : L.length = 7 := hL
  have e3 := ix_li (L := L) (i := 0) (by decide) (by omega)
  generalize ixv L 0 = d0 at e3
  have b1 := fmod_lo d0 (b := 6) (by decide)
  have b2 := fmod_hi d0 (b := 6) (by decide)
  have e5 := rngA1_ok (n := 1 + d0.fmod 6) (by omega) (by omega)
  obtain ⟨ks, e6, h6⟩ := v_antichain ((rangeI 0 (1 + d0.fmod 6)).map fun k => drawnF n (ixv L (1 + k))) (by rw [List.length_map, rangeI_len]; omega)
  refine ⟨ks, ?_, fun k hk => ?_⟩
  · simp [g_law_drawn_lots, e1, e3, oMod_int, e5]
    rw [lcR_mem (g := fun k => tu (drawnF n (ixv L (1 + k))))]
    · simp [e6]
    · intro k hk
      obtain ⟨k1, k2⟩ := mem_rangeI.mp hk
      simp [ix_li (L := L) (i := 1 + k) (by omega) (by omega), (drawnF_ok _ n hn).1]
  · obtain ⟨q, _⟩ := (h6 k).mp hk
    obtain ⟨j, hj, rfl⟩ := List.mem_map.mp q
    exact (drawnF_ok _ n hn).2
theorem main_k31 (ns : List Int) (hn : ns.length ≤ 63) : m_law_k31 [.list (ns.map .int)] = .ok (.bool true) := by
  show endR (g_law_k31 [some (.d (li ns)), none, none, none, none, none]) = _
  obtain ⟨c0, e0⟩ := v_cell ns 0 (by decide)
  obtain ⟨c1, e1⟩ := v_cell ns 1 (by decide)
  obtain ⟨c2, e2⟩ := v_cell ns 2 (by decide)
  obtain ⟨L, eL, hL, bL⟩ := v_draws c0 2 (by decide) (by decide)
  have hL2 : L.length = 2 := hL
  have e30 := ix_li (L := L) (i := 0) (by decide) (by omega)
  have e31 := ix_li (L := L) (i := 1) (by decide) (by omega)
  have f6a := fmod_lo (ixv L 0) (b := 6) (by decide)
  have f6b := fmod_hi (ixv L 0) (b := 6) (by decide)
  have f7a := fmod_lo (ixv L 1) (b := 7) (by decide)
  have f7b := fmod_hi (ixv L 1) (b := 7) (by decide)
  have e6 := ix_tu (L := [4, 3, 5, 2, 4, 1]) (i := (ixv L 0).fmod 6) f6a (by simpa using f6b)
  have m6 : ixv [4, 3, 5, 2, 4, 1] ((ixv L 0).fmod 6) ∈ [4, 3, 5, 2, 4, 1] := ixv_mem f6a (by simpa using f6b)
  generalize ixv [4, 3, 5, 2, 4, 1] ((ixv L 0).fmod 6) = F at e6 m6
  have hF : 0 ≤ F ∧ F ≤ 5 := by
    simp only [List.mem_cons, List.not_mem_nil, or_false] at m6
    rcases m6 with h | h | h | h | h | h <;> omega
  generalize hG : 6 + (ixv L 1).fmod 7 = G
  have hG2 : 0 ≤ G ∧ G ≤ 12 := by omega
  obtain ⟨k1, q1, a1⟩ := v_lots c1 F hF.1 (by omega)
  obtain ⟨k2, q2, a2⟩ := v_drawn_lots c2 G ⟨hG2.1, by omega⟩
  have t1 := v_tells31 F k1 ⟨hF.1, by omega⟩ a1
  have t2 := v_tells31 G k2 ⟨hG2.1, by omega⟩ a2
  simp [g_law_k31, e0, e1, e2, eL, e30, e31, oMod_int, e6, hG, q1, q2, t1, t2]
end LW

set_option Elab.async false
set_option maxRecDepth 100000
set_option linter.all false
set_option maxHeartbeats 2000000
namespace LW
open PySem PySem.Spec PyProof.Rows L2 PD

/-! ### any target -/
theorem lcGo_of {α : Type} {enc : α → PyData} {t : Tg} {ft : DnB} {fe : Dn} {ρ : Rho} {st : α → Rho} {q : α → Bool} {g : α → PyData} : ∀ {xs : List α}, (∀ x ∈ xs, t.set (enc x) ρ = some (st x) ∧ ft (st x) = .ok (q x) ∧ (q x = true → fe (st x) = .ok (g x))) → lcGo t ft fe ρ (xs.map enc) = .ok ((xs.filter q).map g)
  | [], _ => rfl
  | x :: xs, h => by
    obtain ⟨h1, h2, h3⟩ := h x List.mem_cons_self
    have ih := lcGo_of (xs := xs) fun y hy => h y (List.mem_cons_of_mem _ hy)
    rw [List.map_cons]
    unfold lcGo
    rw [h1]
    dsimp only
    rw [h2, nx_ok', ih]
    cases e : q x with
    | false => simp [e]
    | true => rw [h3 e]; simp [e]
theorem lc_of {α : Type} {enc : α → PyData} {fi : DnL} {t : Tg} {ft : DnB} {fe : Dn} {vs : List Nat} {ρ : Rho} {xs : List α} {st : α → Rho} {q : α → Bool} {g : α → PyData} (hi : fi ρ = .ok (xs.map enc)) (h : ∀ x ∈ xs, t.set (enc x) (wipeR ρ vs) = some (st x) ∧ ft (st x) = .ok (q x) ∧ (q x = true → fe (st x) = .ok (g x))) :
    dLc fi t ft fe vs ρ = .ok (.list ((xs.filter q).map g)) := by
  unfold dLc
  rw [hi, R.bind_ok, lcGo_of h]
  rfl
theorem lc2Go_of {α : Type} {enc : α → PyData} {t : Tg} {ft : DnB} {fi1 : DnL} {t1 : Tg} {ft1 : DnB} {fe : Dn} {vs1 : List Nat} {ρ : Rho} {st : α → Rho} {q : α → Bool} {es : α → List PyData} {ys : α → List PyData} : ∀ {xs : List α}, (∀ x ∈ xs, t.set (enc x) ρ = some (st x) ∧ ft (st x) = .ok (q x) ∧ (q x = true → fi1 (st x) = .ok (es x) ∧ lcGo t1 ft1 fe (wipeR (st x) vs1) (es x) = .ok (ys x))) →
    lc2Go t ft fi1 t1 ft1 fe vs1 ρ (xs.map enc) = .ok ((xs.filter q).flatMap ys)
  | [], _ => rfl
  | x :: xs, h => by
    obtain ⟨h1, h2, h3⟩ := h x List.mem_cons_self
    have ih := lc2Go_of (xs := xs) fun y hy => h y (List.mem_cons_of_mem _ hy)
    rw [List.map_cons]
    unfold lc2Go
    rw [h1]
    dsimp only
    rw [h2, nx_ok', ih]
    cases e : q x with
    | false => simp [e]
    | true =>
      obtain ⟨a, b⟩ := h3 e
      rw [a, nx_ok', b]
      simp [e]
theorem lc2_of {α : Type} {enc : α → PyData} {fi : DnL} {t : Tg} {ft : DnB} {fi1 : DnL} {t1 : Tg} {ft1 : DnB} {fe : Dn} {vs vs1 : List Nat} {ρ : Rho} {xs : List α} {st : α → Rho} {q : α → Bool} {es : α → List PyData} {ys : α → List PyData} (hi : fi ρ = .ok (xs.map enc))
    (h : ∀ x ∈ xs, t.set (enc x) (wipeR ρ vs) = some (st x) ∧ ft (st x) = .ok (q x) ∧ (q x = true → fi1 (st x) = .ok (es x) ∧ lcGo t1 ft1 fe (wipeR (st x) vs1) (es x) = .ok (ys x))) (hz : ((xs.filter q).flatMap ys).length ≤ 100000) :
    dLc2 fi t ft fi1 t1 ft1 fe vs vs1 ρ = .ok (.list ((xs.filter q).flatMap ys)) := by
  unfold dLc2
  rw [hi, R.bind_ok, lc2Go_of h, nx_ok', if_pos (by rw [sizeLine_eq]; omega)]
theorem forGo_invT {α : Type} {enc : α → PyData} {t : Tg} {g : Sn} (S : List α → Rho → Prop) (hs : ∀ x xs ρ, S (x :: xs) ρ → ∃ ρ1 ρ', t.set (enc x) ρ = some ρ1 ∧ g ρ1 = .nx ρ' ∧ S xs ρ') : ∀ (xs : List α) (ρ : Rho), S xs ρ → ∃ ρ', forGo t g (xs.map enc) ρ = .nx ρ' ∧ S [] ρ'
  | [], ρ, h => ⟨ρ, rfl, h⟩
  | x :: xs, ρ, h => by
    obtain ⟨ρ1, ρ2, e1, e2, h2⟩ := hs x xs ρ h
    obtain ⟨ρ3, e3, h3⟩ := forGo_invT S hs xs ρ2 h2
    refine ⟨ρ3, ?_, h3⟩
    rw [List.map_cons]
    unfold forGo
    rw [e1]
    dsimp only
    rw [e2]
    exact e3
theorem forGo_mayT {α : Type} {enc : α → PyData} {t : Tg} {g : Sn} (S : List α → Rho → Prop) (Z : PyData → Prop) (hs : ∀ x xs ρ, S (x :: xs) ρ → ∃ ρ1, t.set (enc x) ρ = some ρ1 ∧ ((∃ ρ', g ρ1 = .nx ρ' ∧ S xs ρ') ∨ ∃ d, g ρ1 = .rt d ∧ Z d)) : ∀ (xs : List α) (ρ : Rho), S xs ρ → (∃ ρ', forGo t g (xs.map enc) ρ = .nx ρ' ∧ S [] ρ') ∨ ∃ d, forGo t g (xs.map enc) ρ = .rt d ∧ Z d
  | [], ρ, h => .inl ⟨ρ, rfl, h⟩
  | x :: xs, ρ, h => by
    obtain ⟨ρ1, e1, z⟩ := hs x xs ρ h
    rw [List.map_cons]
    unfold forGo
    rw [e1]
    dsimp only
    rcases z with ⟨ρ2, e2, h2⟩ | ⟨d, e2, hd⟩
    · rw [e2]
      exact forGo_mayT S Z hs xs ρ2 h2
    · rw [e2]
      exact .inr ⟨d, rfl, hd⟩
theorem forGo_findT {α : Type} {enc : α → PyData} {t : Tg} {g : Sn} (S : Rho → Prop) (F : α → Option PyData) : ∀ {xs : List α}, (∀ x ∈ xs, ∀ ρ, S ρ → ∃ ρ1, t.set (enc x) ρ = some ρ1 ∧ match F x with
      | some d => g ρ1 = .rt d
      | none => ∃ ρ', g ρ1 = .nx ρ' ∧ S ρ') → ∀ ρ, S ρ → match xs.findSome? F with
      | some d => forGo t g (xs.map enc) ρ = .rt d
      | none => ∃ ρ', forGo t g (xs.map enc) ρ = .nx ρ' ∧ S ρ'
  | [], _, ρ, h => ⟨ρ, rfl, h⟩
  | x :: xs, hs, ρ, h => by
    obtain ⟨ρ1, e1, z⟩ := hs x List.mem_cons_self ρ h
    rw [List.map_cons, List.findSome?_cons]
    unfold forGo
    rw [e1]
    dsimp only
    cases e : F x with
    | some d =>
      rw [e] at z
      dsimp only at z ⊢
      rw [z]
    | none =>
      rw [e] at z
      obtain ⟨ρ2, e2, h2⟩ := z
      dsimp only
      rw [e2]
      exact forGo_findT S F (fun y hy => hs y (List.mem_cons_of_mem _ hy)) ρ2 h2

/-! ### numbered, in pairs -/
def idx {α : Type} (k : Int) : List α → List (Int × α)
  | [] => []
  | x :: xs => (k, x) :: idx (k + 1) xs
def encI {α : Type} (enc : α → PyData) (p : Int × α) : PyData := .tuple [.int p.1, enc p.2]
theorem enumF_map {α : Type} (enc : α → PyData) : ∀ (k : Int) (xs : List α), enumF k (xs.map enc) = (idx k xs).map (encI enc)
  | _, [] => rfl
  | k, x :: xs => by
    show _ :: _ = _ :: _
    rw [enumF_map enc (k + 1) xs]
    rfl
theorem mem_idx {α : Type} {j : Int} {y : α} : ∀ {k : Int} {xs : List α}, (j, y) ∈ idx k xs → k ≤ j ∧ j < k + xs.length ∧ xs[(j - k).toNat]? = some y
  | k, [], h => by cases h
  | k, x :: xs, h => by
    rcases List.mem_cons.mp h with e | h
    · cases e
      simp
      omega
    · obtain ⟨a, b, c⟩ := mem_idx h
      have : (j - k).toNat = (j - (k + 1)).toNat + 1 := by omega
      rw [this, List.getElem?_cons_succ, List.length_cons]
      exact ⟨by omega, by omega, c⟩
theorem idx_map {α β : Type} (f : α → β) : ∀ (k : Int) (xs : List α), idx k (xs.map f) = (idx k xs).map fun p => (p.1, f p.2)
  | _, [] => rfl
  | k, x :: xs => by
    show _ :: _ = _ :: _
    rw [idx_map f (k + 1) xs]
theorem idx_len {α : Type} : ∀ (k : Int) (xs : List α), (idx k xs).length = xs.length
  | _, [] => rfl
  | k, x :: xs => by rw [idx, List.length_cons, List.length_cons, idx_len]
@[simp] theorem ev_enum (g : DnL) (ρ : Rho) : dEnum g ρ = (g ρ >>= enumA) := rfl
@[simp] theorem enumA_1 (d : PyData) : enumA [d] = (items d >>= fun ds => .ok (enumF 0 ds)) := rfl
@[simp] theorem ev_zip (g : DnL) (ρ : Rho) : dZip g ρ = (g ρ >>= zipA) := rfl
@[simp] theorem zipA_2 (d e : PyData) : zipA [d, e] = (items d >>= fun ds => items e >>= fun es => .ok (zipD ds es)) := rfl
def enc2 {α β : Type} (f : α → PyData) (g : β → PyData) (p : α × β) : PyData := .tuple [f p.1, g p.2]
theorem zipD_map {α β : Type} (f : α → PyData) (g : β → PyData) : ∀ (xs : List α) (ys : List β), zipD (xs.map f) (ys.map g) = (xs.zip ys).map (enc2 f g)
  | [], _ => by simp [zipD]
  | _ :: _, [] => by simp [zipD]
  | x :: xs, y :: ys => by
    show _ :: _ = _ :: _
    rw [zipD_map f g xs ys]
    rfl

/-! ### the least by a key -/
def bestF {α : Type} (key : α → Int) : List α → α → α
  | [], b => b
  | y :: ys, b => bestF key ys (if key y < key b then y else b)
theorem bestF_append {α : Type} {key : α → Int} : ∀ {xs ys : List α} {b : α}, bestF key (xs ++ ys) b = bestF key ys (bestF key xs b)
  | [], _, _ => rfl
  | x :: xs, ys, b => bestF_append (xs := xs)
theorem bestF_le {α : Type} {key : α → Int} : ∀ {xs : List α} {b : α}, key (bestF key xs b) ≤ key b ∧ ∀ y ∈ xs, key (bestF key xs b) ≤ key y
  | [], b => ⟨Int.le_refl _, fun y h => by cases h⟩
  | x :: xs, b => by
    obtain ⟨h1, h2⟩ := bestF_le (key := key) (xs := xs) (b := if key x < key b then x else b)
    show key (bestF key xs _) ≤ _ ∧ _
    have : key (if key x < key b then x else b) ≤ key b ∧ key (if key x < key b then x else b) ≤ key x := by split <;> omega
    refine ⟨by omega, fun y hy => ?_⟩
    show key (bestF key xs _) ≤ _
    rcases List.mem_cons.mp hy with rfl | hy
    · omega
    · exact h2 y hy
theorem bestF_mem {α : Type} {key : α → Int} : ∀ {xs : List α} {b : α}, bestF key xs b = b ∨ bestF key xs b ∈ xs
  | [], b => .inl rfl
  | x :: xs, b => by
    show bestF key xs _ = b ∨ bestF key xs _ ∈ _
    rcases bestF_mem (key := key) (xs := xs) (b := if key x < key b then x else b) with h | h
    · rw [h]
      split
      · exact .inr List.mem_cons_self
      · exact .inl rfl
    · exact .inr (List.mem_cons_of_mem _ h)
/-- the first one of the least -/
def best {α : Type} (key : α → Int) : List α → Option α
  | [] => none
  | x :: xs => some (bestF key xs x)
theorem argBest_at {α : Type} {key : α → Int} {xs : List α} {x : α} : ∀ {k : Nat}, k < (x :: xs).length → argBest (fun i j => decide (((x :: xs).map key).getD i 0 < ((x :: xs).map key).getD j 0)) k < (x :: xs).length ∧ (x :: xs)[argBest (fun i j => decide (((x :: xs).map key).getD i 0 < ((x :: xs).map key).getD j 0)) k]? = some (bestF key (xs.take k) x)
  | 0, h => ⟨by simp [argBest], by simp [argBest, bestF]⟩
  | k + 1, h => by
    have hk : k < (x :: xs).length := by omega
    obtain ⟨i1, i2⟩ := argBest_at (key := key) (x := x) (xs := xs) hk
    have hx : k < xs.length := by simpa using h
    have e1 : xs.take (k + 1) = xs.take k ++ [xs[k]] := by rw [List.take_succ_eq_append_getElem hx]
    rw [e1, bestF_append]
    have e2 : ((x :: xs).map key).getD (k + 1) 0 = key xs[k] := by simp [hx]
    have e3 : ((x :: xs).map key).getD (argBest (fun i j => decide (((x :: xs).map key).getD i 0 < ((x :: xs).map key).getD j 0)) k) 0 = key (bestF key (xs.take k) x) := by
      rw [List.getD_eq_getElem?_getD, List.getElem?_map, i2]
      rfl
    unfold argBest
    rw [e2, e3]
    show _ ∧ _ = some (if key xs[k] < key (bestF key (xs.take k) x) then xs[k] else bestF key (xs.take k) x)
    by_cases q : key xs[k] < key (bestF key (xs.take k) x)
    · rw [if_pos (by simpa using q), if_pos q]
      refine ⟨h, ?_⟩
      rw [List.getElem?_cons_succ, List.getElem?_eq_getElem hx]
    · rw [if_neg (by simpa using q), if_neg q]
      exact ⟨i1, i2⟩
theorem pick_best {α : Type} {enc : α → PyData} {key : α → Int} {xs : List α} {y : α} (h : best key xs = some y) : pickBest (xs.map enc) (xs.map key) = .ok (enc y) := by
  cases xs with
  | nil => cases h
  | cons x xs =>
    cases h
    obtain ⟨h1, h2⟩ := argBest_at (key := key) (x := x) (xs := xs) (k := xs.length) (by simp)
    have e : (((x :: xs).map enc).length - 1) = xs.length := by simp
    unfold pickBest
    rw [e, List.getElem?_map, h2, List.take_length]
    rfl
theorem best_mem {α : Type} {key : α → Int} {xs : List α} {y : α} (h : best key xs = some y) : y ∈ xs := by
  cases xs with
  | nil => cases h
  | cons x xs =>
    cases h
    rcases bestF_mem (key := key) (xs := xs) (b := x) with e | e
    · rw [e]; exact List.mem_cons_self
    · exact List.mem_cons_of_mem _ e
theorem best_le {α : Type} {key : α → Int} {xs : List α} {y z : α} (h : best key xs = some y) (hz : z ∈ xs) : key y ≤ key z := by
  cases xs with
  | nil => cases h
  | cons x xs =>
    cases h
    obtain ⟨a, b⟩ := bestF_le (key := key) (xs := xs) (b := x)
    rcases List.mem_cons.mp hz with rfl | hz
    · exact a
    · exact b z hz
theorem best_some {α : Type} {key : α → Int} {xs : List α} (h : xs ≠ []) : ∃ y, best key xs = some y := by
  cases xs with
  | nil => exact absurd rfl h
  | cons x xs => exact ⟨_, rfl⟩
theorem keysGo_of {α : Type} {enc : α → PyData} {p : Nat} {fe : Dn} {ρ : Rho} {key : α → Int} : ∀ {xs : List α}, (∀ x ∈ xs, fe (ρ.set p (some (.d (enc x)))) = .ok (.int (key x))) → keysGo p fe ρ (xs.map enc) = .ok (xs.map key)
  | [], _ => rfl
  | x :: xs, h => by
    rw [List.map_cons]
    unfold keysGo
    rw [h x List.mem_cons_self, nx_ok']
    dsimp only
    rw [keysGo_of fun y hy => h y (List.mem_cons_of_mem _ hy)]
    rfl
theorem minL_of {α : Type} {enc : α → PyData} {g : DnL} {p : Nat} {fe : Dn} {ρ : Rho} {d : PyData} {xs : List α} {key : α → Int} {y : α} (h1 : g ρ = .ok [d]) (h2 : items d = .ok (xs.map enc)) (h3 : ∀ x ∈ xs, fe (ρ.set p (some (.d (enc x)))) = .ok (.int (key x))) (h4 : best key xs = some y) : dMinL g p fe ρ = .ok (enc y) := by
  unfold dMinL
  rw [h1, R.bind_ok]
  show (items d >>= fun ds => nx (keysGo p fe ρ ds) fun ks => pickBest ds ks) = _
  rw [h2, R.bind_ok, keysGo_of h3, nx_ok', pick_best h4]

/-! ### stores into own lists -/
@[simp] theorem ev_setAt (i : Nat) (fi fe : Dn) (ρ : Rho) : gSetAt i fi fe ρ = oR (fe ρ) ρ fun y => ownA ρ[i]? fun ds => match fi ρ with
  | .ok (.int k) => match ixN ds.length k with
    | some j => .nx (ρ.set i (some (.own (ds.set j y))))
    | none => .bad
  | _ => .bad := rfl
theorem ixN_ok {n : Nat} {i : Int} (h0 : 0 ≤ i) (h1 : i < (n : Int)) : ixN n i = some i.toNat := by
  unfold ixN
  rw [if_pos h0, if_pos h1]
@[simp] theorem oEq_li (a b : List Int) : oEq (li a) (li b) = .ok (.bool (decide (a = b))) := by simp [oEq]
@[simp] theorem oNe_li (a b : List Int) : oNe (li a) (li b) = .ok (.bool (!decide (a = b))) := by simp [oNe]
@[simp] theorem oEq_lt (a b : List (List Int)) : oEq (lt a) (lt b) = .ok (.bool (decide (a = b))) := by simp [oEq]
@[simp] theorem oNe_lt (a b : List (List Int)) : oNe (lt a) (lt b) = .ok (.bool (!decide (a = b))) := by simp [oNe]
theorem oEq_self {d : PyData} (h : shp d = true) : oEq d d = .ok (.bool true) := by
  unfold oEq
  rw [if_pos ⟨h, h⟩, SeqAt.eqv_refl d (SeqAt.canLay_of_shaped h)]
theorem oNe_self {d : PyData} (h : shp d = true) : oNe d d = .ok (.bool false) := by
  unfold oNe
  rw [if_pos ⟨h, h⟩, SeqAt.eqv_refl d (SeqAt.canLay_of_shaped h)]
  rfl
end LW

set_option Elab.async false
set_option maxRecDepth 100000
set_option linter.all false
set_option maxHeartbeats 2000000
namespace LW
open PySem PySem.Spec PyProof.Rows L2 PD
def ll (rows : List (List Int)) : PyData := .list (rows.map li)
theorem dep_li01 (l : List Int) : dep 1 (li l) := dep_list fun x hx => by obtain ⟨i, _, rfl⟩ := List.mem_map.mp hx; exact dep_int i
theorem shp_ll (rows : List (List Int)) : shp (ll rows) = true := shp_of (n := 2) (dep_list fun x hx => by obtain ⟨i, _, rfl⟩ := List.mem_map.mp hx; exact dep_li01 i)
/-! ### rows and their sets -/
theorem v_row01 (c n : Int) (h0 : 0 ≤ n) (h1 : n ≤ 6) : ∃ r : List Int, m_law_row [.int c, .int n] = .ok (li r) ∧ r.length ≤ 8 ∧ ∀ x ∈ r, 0 ≤ x ∧ x < n := by
  show ∃ r : List Int, endR (g_law_row [some (.d (.int c)), some (.d (.int n)), none, none]) = _ ∧ _
  obtain ⟨L, e1, hL, bL⟩ := v_draws c 9 (by decide) (by decide)
  have hL9 : L.length = 9 := hL
  have e30 := ix_li (L := L) (i := 0) (by decide) (by omega)
  have a0 := fmod_lo (ixv L 0) (b := 9) (by decide)
  have a1 := fmod_hi (ixv L 0) (b := 9) (by decide)
  generalize hm : (ixv L 0).fmod 9 = m at a0 a1
  have er := rngA1_ok (n := m) (by omega) (by omega)
  have c1 := lc_of (enc := PyData.int) (fi := dRng1 (dCons (dTwo oMod (dArg bInt (dCons (dTwo oIx (dVar 2) (dC (.int 0))) dNil)) (dC (.int 9))) dNil)) (t := .nm 3) (ft := dAsB (dTwo oGt (dVar 1) (dC (.int 0)))) (fe := dTwo oMod (dArg bInt (dCons (dTwo oIx (dVar 2) (dTwo oAdd (dC (.int 1)) (dVar 3))) dNil)) (dVar 1)) (vs := [3]) (ρ := [some (.d (.int c)), some (.d (.int n)), some (.d (li L)), none]) (xs := rangeI 0 m) (st := fun k => [some (.d (.int c)), some (.d (.int n)), some (.d (li L)), some (.d (.int k))]) (q := fun _ => decide (0 < n)) (g := fun k => PyData.int ((ixv L (1 + k)).fmod n)) (by simp [e30, oMod_int, hm, er]) (fun k hk => ⟨rfl, by simp, fun hq => by
    have hq : 0 < n := of_decide_eq_true hq
    have b := mem_rangeI.mp hk
    have d := ix_li (L := L) (i := 1 + k) (by omega) (by omega)
    have hne : ¬ n = 0 := by omega
    simp [d, oMod_int hne]⟩)
  refine ⟨((rangeI 0 m).filter fun _ => decide (0 < n)).map fun k => (ixv L (1 + k)).fmod n, ?_, ?_, fun x hx => ?_⟩
  · have e : PyData.list (((rangeI 0 m).filter fun _ => decide (0 < n)).map fun k => PyData.int ((ixv L (1 + k)).fmod n)) = li (((rangeI 0 m).filter fun _ => decide (0 < n)).map fun k => (ixv L (1 + k)).fmod n) := by unfold li; rw [List.map_map]; rfl
    rw [e] at c1
    generalize ((rangeI 0 m).filter fun _ => decide (0 < n)).map (fun k => (ixv L (1 + k)).fmod n) = Z at c1 ⊢
    simp [g_law_row, e1, c1, -ev_lc]
  · rw [List.length_map]
    have := List.length_filter_le (fun _ : Int => decide (0 < n)) (rangeI 0 m)
    rw [rangeI_len] at this
    omega
  · obtain ⟨k, hk, rfl⟩ := List.mem_map.mp hx
    have q : 0 < n := of_decide_eq_true (List.mem_filter.mp hk).2
    exact ⟨fmod_lo _ q, fmod_hi _ q⟩
theorem v_set_of (r : List Int) (h : ∀ x ∈ r, 0 ≤ x ∧ x < 6) : m_law_set_of [li r] = .ok (tu (uniq r)) := by
  show endR (g_law_set_of [some (.d (li r)), none]) = _
  have er := rngA1_ok (n := 6) (by decide) (by decide)
  have c1 := lc_of (enc := PyData.int) (fi := dRng1 (dCons (dC (.int 6)) dNil)) (t := .nm 1) (ft := dAsB (dTwo oIn (dVar 1) (dVar 0))) (fe := dVar 1) (vs := [1]) (ρ := [some (.d (li r)), none]) (xs := rangeI 0 6) (st := fun k => [some (.d (li r)), some (.d (.int k))]) (q := fun k => decide (k ∈ r)) (g := PyData.int) (by simp [er]) (fun k hk => ⟨rfl, by simp, fun _ => rfl⟩)
  have e : (rangeI 0 6).filter (fun k => decide (k ∈ r)) = uniq r := by
    refine asc_uniq ?_ (uniq_asc r) fun z => ?_
    · refine List.Pairwise.filter _ ?_
      unfold rangeI
      refine List.Pairwise.map _ (fun a b h => ?_) List.pairwise_lt_range
      show (0 : Int) + (a : Int) < 0 + (b : Int)
      omega
    · rw [List.mem_filter, mem_rangeI, mem_uniq]
      constructor
      · rintro ⟨_, a⟩; exact of_decide_eq_true a
      · intro a; exact ⟨h z a, decide_eq_true a⟩
  rw [e] at c1
  have c1 : dLc (dRng1 (dCons (dC (.int 6)) dNil)) (.nm 1) (dAsB (dTwo oIn (dVar 1) (dVar 0))) (dVar 1) [1] [some (.d (li r)), none] = .ok (li (uniq r)) := c1
  have bt : bTuple [li (uniq r)] = .ok (tu (uniq r)) := rfl
  generalize uniq r = Z at c1 bt ⊢
  simp [g_law_set_of, c1, bt, -ev_lc]
theorem uniq_asc6 {n : Int} {r : List Int} (h : ∀ x ∈ r, 0 ≤ x ∧ x < n) : Asc n (uniq r) := ⟨uniq_asc r, fun x hx => h x (mem_uniq.mp hx)⟩
theorem uniq_congr {a b : List Int} (h : ∀ x, x ∈ a ↔ x ∈ b) : uniq a = uniq b := asc_uniq (uniq_asc a) (uniq_asc b) fun z => by rw [mem_uniq, mem_uniq, h z]
theorem nodup_insK : ∀ {ks acc : List (List Int)}, acc.Nodup → (ks.foldl insK acc).Nodup
  | [], _, h => h
  | k :: ks, acc, h => by
    rw [List.foldl_cons]
    refine nodup_insK ?_
    unfold insK
    split
    · exact h
    · rename_i hk
      rw [List.nodup_append]
      exact ⟨h, by simp, fun a ha b hb e => hk (by rw [← List.mem_singleton.mp hb, ← e]; exact ha)⟩
theorem sortSc_ok01 {fi : DnL} {t : Tg} {ft : DnB} {fe : Dn} {vs : List Nat} {ρ : Rho} {ds : List PyData} {ks : List (List Int)} (h1 : fi ρ = .ok ds) (h2 : dcGo t ft fe (wipeR ρ vs) ds [] = .ok ks) (h3 : ks.length < 63) (h4 : ∀ k ∈ ks, k.length ≤ 100000) : dSortSc fi t ft fe vs ρ = .ok (lt (sortT ks)) := by
  unfold dSortSc
  rw [h1, R.bind_ok, h2, nx_ok', if_pos]
  · have : sortD (ks.map fun k => PyData.tuple (k.map .int)) = (sortT ks).map tu := (sortD_tus ks).1
    rw [this]; rfl
  · refine ⟨h3, List.all_eq_true.mpr fun k hk => decide_eq_true ?_⟩
    have := h4 k hk
    rw [sizeLine_eq]; omega
/-! ### make_offer of rows without a fault -/
section
variable {n : Int} {rows due : List (List Int)} (h6 : n ≤ 900) (hr : ∀ r ∈ rows, r.length ≤ 8 ∧ ∀ x ∈ r, 0 ≤ x ∧ x < n) (ne : rows ≠ []) (asd : Asd due) (an : ∀ a ∈ due, ∀ b ∈ due, (∀ y ∈ a, y ∈ b) → a = b) (mem : ∀ k, k ∈ due ↔ ∃ r ∈ rows, uniq r = k) (lz : rows.length ≤ 20)
include h6 hr ne asd an mem lz
theorem v_make01 (D : PyData) (enc : List Int → PyData) (hi : items D = .ok (rows.map enc)) (hl : bLen [D] = .ok (.int rows.length)) (he : ∀ r, items (enc r) = .ok (r.map .int)) (hs : ∀ r : List Int, r.length ≤ 8 → bSortSet (enc r) = .ok (li (uniq r))) : m_make_offer [.int n, D] = .ok (ofr n due) := by
  have things : m_check_things [.int n, D] = .ok .none := by
    show endR (g_check_things [some (.d (.int n)), some (.d D), none, none, none]) = _
    have key := forGo_findT (t := .tp [.nm 2, .nm 3]) (g := b_check_things_1) (enc := encI enc) (fun ρ => ∃ (o2 o3 : Option Sl), ρ = [some (.d (.int n)), some (.d D), o2, o3, none]) (fun _ => none) (xs := idx 0 rows) (by
      rintro p hp ρ ⟨o2, o3, rfl⟩
      refine ⟨[some (.d (.int n)), some (.d D), some (.d (.int p.1)), some (.d (enc p.2)), none], by simp [encI, Tg.set, Tg.sets], ?_⟩
      have hm : p.2 ∈ rows := by
        obtain ⟨_, _, h⟩ := mem_idx (j := p.1) (y := p.2) hp
        exact List.mem_of_getElem? (by simpa using h)
      have bnd := (hr _ hm).2
      refine ⟨[some (.d (.int n)), some (.d D), some (.d (.int p.1)), some (.d (enc p.2)), none], ?_, _, _, rfl⟩
      have ie := he p.2
      have af : PD.anyR true (fun d => do let a ← oLt d (PyData.int 0); let b ← asB a; if b = true then R.ok (PyData.bool true) else oGe d (PyData.int n)) (p.2.map PyData.int) = .ok false := by
        rw [anyR_of (q := fun _ : PyData => false) (fun d hd => by
          obtain ⟨x, hx, rfl⟩ := List.mem_map.mp hd
          have b := bnd x hx
          have z1 : ¬ x < 0 := by omega
          have z2 : ¬ n ≤ x := by omega
          simp [z1, z2])]
        simp
      simp [b_check_things_1, ie]
      rw [af]
      rfl)
    have r := key [some (.d (.int n)), some (.d D), none, none, none] ⟨none, none, rfl⟩
    rw [List.findSome?_eq_none_iff.mpr (fun _ _ => rfl)] at r
    obtain ⟨ρ', e, o2, o3, rfl⟩ := r
    simp [g_check_things, hi, enumF_map, e, -List.map_map]
    rfl
  have keys : dcGo (.nm 3) dYes (dArg bTuple (dCons (dOne bSortSet (dVar 3)) dNil)) [some (.d (.int n)), some (.d D), none, none] (rows.map enc) [] = .ok ((rows.map uniq).foldl insK []) := dcGo_all (enc := enc) (kf := uniq) fun r hm => by
    have e1 := hs r (hr r hm).1
    have bt : bTuple [li (uniq r)] = .ok (tu (uniq r)) := rfl
    generalize uniq r = Z at *
    simp [e1, bt]
  have nd := nodup_insK (ks := rows.map uniq) (acc := []) List.nodup_nil
  have km : ∀ k, k ∈ (rows.map uniq).foldl insK [] ↔ k ∈ due := fun k => by rw [mem_foldK, mem k, List.mem_map]; simp
  have srt : sortT ((rows.map uniq).foldl insK []) = due := asd_ext (asd_sortT nd) asd fun k => by rw [mem_sortT]; exact km k
  have kl : ((rows.map uniq).foldl insK []).length ≤ 20 := by
    have := nd.length_le_of_subset (l₂ := rows.map uniq) fun k hk => by
      rcases mem_foldK.mp hk with h | h
      · cases h
      · exact h
    rw [List.length_map] at this
    omega
  have ul : ∀ r, r.length ≤ 8 → (uniq r).length ≤ 8 := fun r h => by
    have nu : (uniq r).Nodup := (uniq_asc r).imp fun {a b} z e => by omega
    have := nu.length_le_of_subset (l₂ := r) fun x hx => mem_uniq.mp hx
    omega
  have sc := sortSc_ok01 (fi := dItems (dVar 1)) (t := .nm 3) (ft := dYes) (fe := dArg bTuple (dCons (dOne bSortSet (dVar 3)) dNil)) (vs := [3]) (ρ := [some (.d (.int n)), some (.d D), none, none]) (ds := rows.map enc) (ks := (rows.map uniq).foldl insK []) (by simp [hi]) keys (by omega) (fun k hk => by
    obtain ⟨r, hm, rfl⟩ := (mem k).mp ((km k).mp hk)
    have := ul r (hr r hm).1
    omega)
  rw [srt] at sc
  have nest : m_check_nesting [lt due] = .ok .none := by
    show endR (g_check_nesting [some (.d (lt due)), none, none]) = _
    have inner := fun (a : List Int) (ha : a ∈ due) => forGo_inv (i := 2) (g := b_check_nesting_1) (enc := tu) (fun xs ρ => ∃ (o2 : Option Sl), ρ = [some (.d (lt due)), some (.d (tu a)), o2] ∧ ∀ b ∈ xs, b ∈ due) (by
      rintro b xs ρ ⟨o2, rfl, hx⟩
      have hb := hx b List.mem_cons_self
      refine ⟨[some (.d (lt due)), some (.d (tu a)), some (.d (tu b))], ?_, _, rfl, fun y hy => hx y (List.mem_cons_of_mem _ hy)⟩
      have lw := v_lies a b
      by_cases q : a.length < b.length
      · have nw : (a.all fun x => decide (x ∈ b)) = false := by
          rw [← Bool.not_eq_true]
          intro z
          have : a = b := an a ha b hb fun y hy => of_decide_eq_true (List.all_eq_true.mp z y hy)
          rw [this] at q
          omega
        rw [nw] at lw
        simp [b_check_nesting_1, lw, q]
      · simp [b_check_nesting_1, q])
    have outer := forGo_inv (i := 1) (g := b_check_nesting_2) (enc := tu) (fun xs ρ => ∃ (o1 o2 : Option Sl), ρ = [some (.d (lt due)), o1, o2] ∧ ∀ b ∈ xs, b ∈ due) (by
      rintro a xs ρ ⟨o1, o2, rfl, hx⟩
      have ha := hx a List.mem_cons_self
      obtain ⟨ρ', e, o2', rfl, _⟩ := inner a ha due [some (.d (lt due)), some (.d (tu a)), o2] ⟨o2, rfl, fun b hb => hb⟩
      refine ⟨[some (.d (lt due)), some (.d (tu a)), o2'], ?_, _, _, rfl, fun y hy => hx y (List.mem_cons_of_mem _ hy)⟩
      simp [b_check_nesting_2, e])
    obtain ⟨ρ', e, o1, o2, rfl, _⟩ := outer due [some (.d (lt due)), none, none] ⟨none, none, rfl, fun b hb => hb⟩
    simp [g_check_nesting, e]
    rfl
  show endR (g_make_offer [some (.d (.int n)), some (.d D), none, none]) = _
  have l0 : ¬ rows.length = 0 := fun z => ne (List.length_eq_zero_iff.mp z)
  have bt : bTuple [lt due] = .ok (tt due) := rfl
  have dt : PyData.tuple [.int n, tt due] = ofr n due := rfl
  simp [g_make_offer, hl, l0, ne, things, sc, nest, bt, dt]
end
end LW

set_option Elab.async false
set_option maxRecDepth 100000
set_option linter.all false
set_option maxHeartbeats 2000000
namespace LW
open PySem PySem.Spec PyProof.Rows L2 PD
theorem sortSet_li (r : List Int) (h : r.length ≤ 8) : bSortSet (li r) = .ok (li (uniq r)) := by
  show ofO (asInts (r.map PyData.int)) (fun ns => if ns.length < 60 then R.ok (PyData.list ((uniq ns).map .int)) else .bad) = _
  rw [asInts_map]
  show (if r.length < 60 then R.ok (PyData.list ((uniq r).map .int)) else .bad) = _
  rw [if_pos (by omega)]
  rfl
theorem sortSet_tu (r : List Int) (h : r.length ≤ 8) : bSortSet (tu r) = .ok (li (uniq r)) := by
  show ofO (asInts (r.map PyData.int)) (fun ns => if ns.length < 60 then R.ok (PyData.list ((uniq ns).map .int)) else .bad) = _
  rw [asInts_map]
  show (if r.length < 60 then R.ok (PyData.list ((uniq r).map .int)) else .bad) = _
  rw [if_pos (by omega)]
  rfl
theorem main_k01 (ns : List Int) (hn : ns.length ≤ 63) : m_law_k01 [.list (ns.map .int)] = .ok (.bool true) := by
  show endR (g_law_k01 [some (.d (li ns)), none, none, none, none, none, none, none, none, none, none]) = _
  obtain ⟨c0, e0⟩ := v_cell ns 0 (by decide)
  obtain ⟨L, eL, hL, bL⟩ := v_draws c0 4 (by decide) (by decide)
  have hL4 : L.length = 4 := hL
  have e30 := ix_li (L := L) (i := 0) (by decide) (by omega)
  have e31 := ix_li (L := L) (i := 1) (by decide) (by omega)
  have e32 := ix_li (L := L) (i := 2) (by decide) (by omega)
  have e33 := ix_li (L := L) (i := 3) (by decide) (by omega)
  have n0 := fmod_lo (ixv L 0) (b := 7) (by decide)
  have n1 := fmod_hi (ixv L 0) (b := 7) (by decide)
  generalize hn7 : (ixv L 0).fmod 7 = n at n0 n1
  have m0 := fmod_lo (ixv L 1) (b := 6) (by decide)
  have m1 := fmod_hi (ixv L 1) (b := 6) (by decide)
  generalize hm6 : (ixv L 1).fmod 6 = m at m0 m1
  have hF0 : ∀ k : Int, ∃ r : List Int, 0 ≤ k → (∃ c, m_law_cell [li ns, .int (1 + k)] = .ok (.int c) ∧ m_law_row [.int c, .int n] = .ok (li r)) ∧ r.length ≤ 8 ∧ ∀ x ∈ r, 0 ≤ x ∧ x < n := fun k => by
    by_cases h : 0 ≤ k
    · obtain ⟨c, ec⟩ := v_cell ns (1 + k) (by omega)
      obtain ⟨r, er, lr, br⟩ := v_row01 c n n0 (by omega)
      exact ⟨r, fun _ => ⟨⟨c, ec, er⟩, lr, br⟩⟩
    · exact ⟨[], fun z => absurd z h⟩
  obtain ⟨F, hF⟩ := Classical.skolem.mp hF0
  have er := rngA1_ok (n := 1 + m) (by omega) (by omega)
  have c1 := lc_of (enc := PyData.int) (fi := dRng1 (dCons (dTwo oAdd (dC (.int 1)) (dTwo oMod (dArg bInt (dCons (dTwo oIx (dVar 1) (dC (.int 1))) dNil)) (dC (.int 6)))) dNil)) (t := .nm 9) (ft := dYes) (fe := dArg m_law_row (dCons (dArg m_law_cell (dCons (dVar 0) (dCons (dTwo oAdd (dC (.int 1)) (dVar 9)) dNil))) (dCons (dVar 2) dNil))) (vs := [9]) (ρ := [some (.d (li ns)), some (.d (li L)), some (.d (.int n)), none, none, none, none, none, none, none, none]) (xs := rangeI 0 (1 + m)) (st := fun k => [some (.d (li ns)), some (.d (li L)), some (.d (.int n)), none, none, none, none, none, none, some (.d (.int k)), none]) (q := fun _ => true) (g := fun k => li (F k)) (by simp [e31, oMod_int, hm6, er]) (fun k hk => ⟨rfl, rfl, fun _ => by
    have b := mem_rangeI.mp hk
    obtain ⟨⟨c, ec, er⟩, _⟩ := hF k b.1
    simp [ec, er]⟩)
  rw [List.filter_eq_self.mpr (fun _ _ => rfl)] at c1
  generalize hX : (rangeI 0 (1 + m)).map F = X
  have xl : X.length ≤ 6 := by rw [← hX, List.length_map, rangeI_len]; omega
  have xp : 1 ≤ X.length := by rw [← hX, List.length_map, rangeI_len]; omega
  have xr : ∀ r ∈ X, r.length ≤ 8 ∧ ∀ x ∈ r, 0 ≤ x ∧ x < n := fun r hr => by
    rw [← hX] at hr
    obtain ⟨k, hk, rfl⟩ := List.mem_map.mp hr
    exact (hF k (mem_rangeI.mp hk).1).2
  have eX : PyData.list ((rangeI 0 (1 + m)).map fun k => li (F k)) = ll X := by rw [← hX]; unfold ll; rw [List.map_map]; rfl
  rw [eX] at c1
  have so : ∀ r ∈ X, m_law_set_of [li r] = .ok (tu (uniq r)) := fun r hr => v_set_of r fun x hx => by have := (xr r hr).2 x hx; omega
  have c2 := lc_of (enc := li) (fi := dItems (dVar 3)) (t := .nm 10) (ft := dYes) (fe := dArg m_law_set_of (dCons (dVar 10) dNil)) (vs := [10]) (ρ := [some (.d (li ns)), some (.d (li L)), some (.d (.int n)), some (.d (ll X)), none, none, none, none, none, none, none]) (xs := X) (st := fun r => [some (.d (li ns)), some (.d (li L)), some (.d (.int n)), some (.d (ll X)), none, none, none, none, none, none, some (.d (li r))]) (q := fun _ => true) (g := fun r => tu (uniq r)) (by simp; rfl) (fun r hr => ⟨rfl, rfl, fun _ => by simp [so r hr]⟩)
  rw [List.filter_eq_self.mpr (fun _ _ => rfl)] at c2
  have e2 : PyData.list (X.map fun r => tu (uniq r)) = lt (X.map uniq) := by unfold lt; rw [List.map_map]; rfl
  rw [e2] at c2
  obtain ⟨ks, ea, hks, asd, lk⟩ := v_antichain2 (X.map uniq) (by rw [List.length_map]; omega)
  have kasc : ∀ r ∈ X.map uniq, Asc n r := fun r hr => by
    obtain ⟨x, hx, rfl⟩ := List.mem_map.mp hr
    exact uniq_asc6 (xr x hx).2
  have an : ∀ a ∈ ks, ∀ b ∈ ks, (∀ y ∈ a, y ∈ b) → a = b := fun a ha b hb s => by
    by_cases e : a = b
    · exact e
    · exact absurd s (((hks a).mp ha).2 b ((hks b).mp hb).1 e)
  -- the rows that are kept
  have c3 := lc_of (enc := li) (fi := dItems (dVar 3)) (t := .nm 10) (ft := dAsB (dTwo oIn (dArg m_law_set_of (dCons (dVar 10) dNil)) (dVar 4))) (fe := dVar 10) (vs := [10]) (ρ := [some (.d (li ns)), some (.d (li L)), some (.d (.int n)), some (.d (ll X)), some (.d (tt ks)), none, none, none, none, none, none]) (xs := X) (st := fun r => [some (.d (li ns)), some (.d (li L)), some (.d (.int n)), some (.d (ll X)), some (.d (tt ks)), none, none, none, none, none, some (.d (li r))]) (q := fun r => decide (uniq r ∈ ks)) (g := li) (by simp; rfl) (fun r hr => ⟨rfl, by
    have oi : oIn (tu (uniq r)) (tt ks) = .ok (.bool (decide (uniq r ∈ ks))) := by simp [oIn]
    simp [so r hr, oi], fun _ => rfl⟩)
  generalize hR : (X.filter fun r => decide (uniq r ∈ ks)) = R at c3
  have rX : ∀ r ∈ R, r ∈ X ∧ uniq r ∈ ks := fun r hr => by
    rw [← hR] at hr
    obtain ⟨a, b⟩ := List.mem_filter.mp hr
    exact ⟨a, of_decide_eq_true b⟩
  have rp : 0 < R.length := by
    obtain ⟨x, hx, ht⟩ := top_some kasc (fun z => by have := congrArg List.length z; rw [List.length_map] at this; simp at this; rw [this] at xp; simp at xp)
    obtain ⟨r, hr, rfl⟩ := List.mem_map.mp hx
    have : r ∈ R := by rw [← hR]; exact List.mem_filter.mpr ⟨hr, decide_eq_true ((hks _).mpr ⟨hx, ht⟩)⟩
    exact List.length_pos_of_mem this
  have rl : R.length ≤ 6 := by have := List.length_filter_le (fun r => decide (uniq r ∈ ks)) X; rw [hR] at this; omega
  have i0 := fmod_lo (ixv L 2) (b := (R.length : Int)) (by omega)
  have i1 := fmod_hi (ixv L 2) (b := (R.length : Int)) (by omega)
  have hne : ¬ (R.length : Int) = 0 := by omega
  have om := oMod_int (i := ixv L 2) hne
  generalize hi : (ixv L 2).fmod (R.length : Int) = i at i0 i1 om
  have il : i.toNat < R.length := by omega
  have ag := rX _ (List.getElem_mem il)
  generalize hr0 : R[i.toNat] = r0 at ag
  have rows : ∀ r ∈ R ++ [r0.reverse], r.length ≤ 8 ∧ ∀ x ∈ r, 0 ≤ x ∧ x < n := fun r hr => by
    rcases List.mem_append.mp hr with h | h
    · exact xr r (rX r h).1
    · rw [List.mem_singleton.mp h]
      obtain ⟨a, b⟩ := xr r0 ag.1
      exact ⟨by rw [List.length_reverse]; exact a, fun x hx => b x (List.mem_reverse.mp hx)⟩
  have ur : uniq r0.reverse = uniq r0 := uniq_congr fun x => List.mem_reverse
  have mem : ∀ k, k ∈ ks ↔ ∃ r ∈ R ++ [r0.reverse], uniq r = k := fun k => by
    constructor
    · intro hk
      obtain ⟨r, hr, rfl⟩ := List.mem_map.mp ((hks k).mp hk).1
      exact ⟨r, List.mem_append_left _ (by rw [← hR]; exact List.mem_filter.mpr ⟨hr, decide_eq_true hk⟩), rfl⟩
    · rintro ⟨r, hr, rfl⟩
      rcases List.mem_append.mp hr with h | h
      · exact (rX r h).2
      · rw [List.mem_singleton.mp h, ur]; exact ag.2
  generalize hW : R ++ [r0.reverse] = W at rows mem
  have wl : W.length ≤ 20 := by rw [← hW, List.length_append, List.length_singleton]; omega
  have wne : W ≠ [] := by rw [← hW]; simp
  have mk1 := v_make01 (by omega) rows wne asd an mem wl (ll W) li rfl (by simp [ll, bLen]) (fun r => rfl) sortSet_li
  have mk2 := v_make01 (by omega) rows wne asd an mem wl (tt W) tu rfl (by simp) (fun r => rfl) sortSet_tu
  have off : m_law_is_offer [ofr n ks, .int n, tt ks] = .ok (.bool true) := v_is_offer n ks (fun l hl => kasc l ((hks l).mp hl).1) (by omega)
  -- the states, one after the other
  have s1 : gOwn (dLc (dItems (dVar 3)) (.nm 10) (dAsB (dTwo oIn (dArg m_law_set_of (dCons (dVar 10) dNil)) (dVar 4))) (dVar 10) [10]) 5 [some (.d (li ns)), some (.d (li L)), some (.d (.int n)), some (.d (ll X)), some (.d (tt ks)), none, none, none, none, none, none] = .nx [some (.d (li ns)), some (.d (li L)), some (.d (.int n)), some (.d (ll X)), some (.d (tt ks)), some (.own (R.map li)), none, none, none, none, none] := by
    unfold gOwn
    rw [c3]
    rfl
  have s2 : gOwn (dArg bList (dCons (dOwnIx 5 (dThaw (dTwo oMod (dArg bInt (dCons (dTwo oIx (dVar 1) (dC (.int 2))) dNil)) (dArg bLen (dCons (dVar 5) dNil))))) dNil)) 6 [some (.d (li ns)), some (.d (li L)), some (.d (.int n)), some (.d (ll X)), some (.d (tt ks)), some (.own (R.map li)), none, none, none, none, none] = .nx [some (.d (li ns)), some (.d (li L)), some (.d (.int n)), some (.d (ll X)), some (.d (tt ks)), some (.own (R.map li)), some (.own (r0.map .int)), none, none, none, none] := by
    have ix : dThaw (dTwo oMod (dArg bInt (dCons (dTwo oIx (dVar 1) (dC (.int 2))) dNil)) (dArg bLen (dCons (dVar 5) dNil))) [some (.d (li ns)), some (.d (li L)), some (.d (.int n)), some (.d (ll X)), some (.d (tt ks)), some (.own (R.map li)), none, none, none, none, none] = .ok (.int i) := by
      have bl : bLen [.list (R.map li)] = .ok (.int R.length) := by simp [bLen]
      simp [e32, bl, om]
    have ow : dOwnIx 5 (dThaw (dTwo oMod (dArg bInt (dCons (dTwo oIx (dVar 1) (dC (.int 2))) dNil)) (dArg bLen (dCons (dVar 5) dNil)))) [some (.d (li ns)), some (.d (li L)), some (.d (.int n)), some (.d (ll X)), some (.d (tt ks)), some (.own (R.map li)), none, none, none, none, none] = .ok (li r0) := by
      unfold dOwnIx
      dsimp only [List.getElem?_cons_succ, List.getElem?_cons_zero]
      rw [ix, PD.R.bind_ok]
      dsimp only
      rw [atI_get li i0 (x := r0) (by rw [← hr0]; exact List.getElem?_eq_getElem il)]
    unfold gOwn
    have : dArg bList (dCons (dOwnIx 5 (dThaw (dTwo oMod (dArg bInt (dCons (dTwo oIx (dVar 1) (dC (.int 2))) dNil)) (dArg bLen (dCons (dVar 5) dNil))))) dNil) [some (.d (li ns)), some (.d (li L)), some (.d (.int n)), some (.d (ll X)), some (.d (tt ks)), some (.own (R.map li)), none, none, none, none, none] = .ok (li r0) := by
      simp only [ev_arg, ev_cons, ev_nil, ow, PD.R.bind_ok]
      rfl
    rw [this]
    rfl
  have s3 : gRev 6 [some (.d (li ns)), some (.d (li L)), some (.d (.int n)), some (.d (ll X)), some (.d (tt ks)), some (.own (R.map li)), some (.own (r0.map .int)), none, none, none, none] = .nx [some (.d (li ns)), some (.d (li L)), some (.d (.int n)), some (.d (ll X)), some (.d (tt ks)), some (.own (R.map li)), some (.own (r0.reverse.map .int)), none, none, none, none] := by
    rw [List.map_reverse]
    rfl
  have s4 : gApp 5 (dVar 6) [some (.d (li ns)), some (.d (li L)), some (.d (.int n)), some (.d (ll X)), some (.d (tt ks)), some (.own (R.map li)), some (.d (li r0.reverse)), none, none, none, none] = .nx [some (.d (li ns)), some (.d (li L)), some (.d (.int n)), some (.d (ll X)), some (.d (tt ks)), some (.own (W.map li)), some (.d (li r0.reverse)), none, none, none, none] := by
    have hs : R.length < sizeLine := line_lt (by omega)
    rw [← hW]
    simp [hs]
  have c5 := lc_of (enc := li) (fi := dItems (dVar 5)) (t := .nm 10) (ft := dYes) (fe := dArg bList (dCons (dVar 10) dNil)) (vs := [10]) (ρ := [some (.d (li ns)), some (.d (li L)), some (.d (.int n)), some (.d (ll X)), some (.d (tt ks)), some (.d (ll W)), some (.d (li r0.reverse)), none, none, none, none]) (xs := W) (st := fun r => [some (.d (li ns)), some (.d (li L)), some (.d (.int n)), some (.d (ll X)), some (.d (tt ks)), some (.d (ll W)), some (.d (li r0.reverse)), none, none, none, some (.d (li r))]) (q := fun _ => true) (g := li) (by simp; rfl) (fun r hr => ⟨rfl, rfl, fun _ => by simp⟩)
  rw [List.filter_eq_self.mpr (fun _ _ => rfl)] at c5
  have c5 : dLc (dItems (dVar 5)) (.nm 10) dYes (dArg bList (dCons (dVar 10) dNil)) [10] [some (.d (li ns)), some (.d (li L)), some (.d (.int n)), some (.d (ll X)), some (.d (tt ks)), some (.d (ll W)), some (.d (li r0.reverse)), none, none, none, none] = .ok (ll W) := c5
  have c6 := lc_of (enc := li) (fi := dItems (dVar 5)) (t := .nm 10) (ft := dYes) (fe := dArg bTuple (dCons (dVar 10) dNil)) (vs := [10]) (ρ := [some (.d (li ns)), some (.d (li L)), some (.d (.int n)), some (.d (ll X)), some (.d (tt ks)), some (.d (ll W)), some (.d (li r0.reverse)), some (.d (ll W)), none, none, none]) (xs := W) (st := fun r => [some (.d (li ns)), some (.d (li L)), some (.d (.int n)), some (.d (ll X)), some (.d (tt ks)), some (.d (ll W)), some (.d (li r0.reverse)), some (.d (ll W)), none, none, some (.d (li r))]) (q := fun _ => true) (g := tu) (by simp; rfl) (fun r hr => ⟨rfl, rfl, fun _ => by simp⟩)
  rw [List.filter_eq_self.mpr (fun _ _ => rfl)] at c6
  have c6 : dLc (dItems (dVar 5)) (.nm 10) dYes (dArg bTuple (dCons (dVar 10) dNil)) [10] [some (.d (li ns)), some (.d (li L)), some (.d (.int n)), some (.d (ll X)), some (.d (tt ks)), some (.d (ll W)), some (.d (li r0.reverse)), some (.d (ll W)), none, none, none] = .ok (lt W) := c6
  have bt : bTuple [lt W] = .ok (tt W) := rfl
  have oe := oEq_self (shp_ll W)
  unfold g_law_k01
  have fz6 : ∀ g : Sn, gFrz 6 g [some (.d (li ns)), some (.d (li L)), some (.d (.int n)), some (.d (ll X)), some (.d (tt ks)), some (.own (R.map li)), some (.own (r0.reverse.map .int)), none, none, none, none] = g [some (.d (li ns)), some (.d (li L)), some (.d (.int n)), some (.d (ll X)), some (.d (tt ks)), some (.own (R.map li)), some (.d (li r0.reverse)), none, none, none, none] := fun g => rfl
  have fz5 : ∀ g : Sn, gFrz 5 g [some (.d (li ns)), some (.d (li L)), some (.d (.int n)), some (.d (ll X)), some (.d (tt ks)), some (.own (W.map li)), some (.d (li r0.reverse)), none, none, none, none] = g [some (.d (li ns)), some (.d (li L)), some (.d (.int n)), some (.d (ll X)), some (.d (tt ks)), some (.d (ll W)), some (.d (li r0.reverse)), none, none, none, none] := fun g => rfl
  have p1 : gSet (dArg m_law_draws (dCons (dArg m_law_cell (dCons (dVar 0) (dCons (dC (.int 0)) dNil))) (dCons (dC (.int 4)) dNil))) (.nm 1) [some (.d (li ns)), none, none, none, none, none, none, none, none, none, none] = .nx [some (.d (li ns)), some (.d (li L)), none, none, none, none, none, none, none, none, none] := by simp [e0, eL]
  have p2 : gSet (dTwo oMod (dArg bInt (dCons (dTwo oIx (dVar 1) (dC (.int 0))) dNil)) (dC (.int 7))) (.nm 2) [some (.d (li ns)), some (.d (li L)), none, none, none, none, none, none, none, none, none] = .nx [some (.d (li ns)), some (.d (li L)), some (.d (.int n)), none, none, none, none, none, none, none, none] := by simp [e30, oMod_int, hn7]
  have p3 : gSet (dLc (dRng1 (dCons (dTwo oAdd (dC (.int 1)) (dTwo oMod (dArg bInt (dCons (dTwo oIx (dVar 1) (dC (.int 1))) dNil)) (dC (.int 6)))) dNil)) (.nm 9) dYes (dArg m_law_row (dCons (dArg m_law_cell (dCons (dVar 0) (dCons (dTwo oAdd (dC (.int 1)) (dVar 9)) dNil))) (dCons (dVar 2) dNil))) [9]) (.nm 3) [some (.d (li ns)), some (.d (li L)), some (.d (.int n)), none, none, none, none, none, none, none, none] = .nx [some (.d (li ns)), some (.d (li L)), some (.d (.int n)), some (.d (ll X)), none, none, none, none, none, none, none] := by
    show oR (dLc _ _ _ _ _ _) _ _ = _
    rw [c1]
    rfl
  have p4 : gSet (dArg m_law_antichain (dCons (dLc (dItems (dVar 3)) (.nm 10) dYes (dArg m_law_set_of (dCons (dVar 10) dNil)) [10]) dNil)) (.nm 4) [some (.d (li ns)), some (.d (li L)), some (.d (.int n)), some (.d (ll X)), none, none, none, none, none, none, none] = .nx [some (.d (li ns)), some (.d (li L)), some (.d (.int n)), some (.d (ll X)), some (.d (tt ks)), none, none, none, none, none, none] := by
    have : dArg m_law_antichain (dCons (dLc (dItems (dVar 3)) (.nm 10) dYes (dArg m_law_set_of (dCons (dVar 10) dNil)) [10]) dNil) [some (.d (li ns)), some (.d (li L)), some (.d (.int n)), some (.d (ll X)), none, none, none, none, none, none, none] = .ok (tt ks) := by
      simp only [ev_arg, ev_cons, ev_nil, c2, PD.R.bind_ok, ea]
    show oR (dArg _ _ _) _ _ = _
    rw [this]
    rfl
  have p5 : gSet (dLc (dItems (dVar 5)) (.nm 10) dYes (dArg bList (dCons (dVar 10) dNil)) [10]) (.nm 7) [some (.d (li ns)), some (.d (li L)), some (.d (.int n)), some (.d (ll X)), some (.d (tt ks)), some (.d (ll W)), some (.d (li r0.reverse)), none, none, none, none] = .nx [some (.d (li ns)), some (.d (li L)), some (.d (.int n)), some (.d (ll X)), some (.d (tt ks)), some (.d (ll W)), some (.d (li r0.reverse)), some (.d (ll W)), none, none, none] := by
    show oR (dLc _ _ _ _ _ _) _ _ = _
    rw [c5]
    rfl
  rw [ev_seq, p1, seqO_nx, ev_seq, p2, seqO_nx, ev_seq, p3, seqO_nx, ev_seq, p4, seqO_nx, ev_seq, s1, seqO_nx, ev_seq, s2, seqO_nx, ev_seq, s3, seqO_nx, fz6, ev_seq, s4, seqO_nx, fz5, ev_seq, p5, seqO_nx]
  generalize ll W = LW at *
  generalize ll X = LX at *
  by_cases q : (ixv L 3).fmod 2 = 0
  · simp [e33, oMod_int, q, mk1, off, oe]
  · simp [e33, oMod_int, q, c6, bt, mk2, off, oe, -ev_lc]
end LW

set_option Elab.async false
set_option linter.all false
set_option maxRecDepth 100000
set_option maxHeartbeats 4000000
namespace LW
open PySem PySem.Spec PyProof.Rows L2 PD
theorem all_mk {l : PySem.W.OpenLaw} {w : World} {K : PySem.W.Frag} {h : Heap} {mg : Str → Option Value} {fa : Addr} (X : K.In h) (G : h.Ns mainGlobals mg) (hfa : mg "law" = some (.ref fa))
    {f1 f2 f3 f4 f5 f6 f7 f8 f9 f10 f11 f12 f13 f14 : Addr} {od1 an1 od2 an2 od3 an3 od4 an4 od5 an5 od6 an6 od7 an7 od8 an8 od9 an9 od10 an10 od11 an11 od12 an12 od13 an13 od14 an14 : Option Addr} {sl1 sl2 sl3 sl4 sl5 sl6 sl7 sl8 sl9 sl10 sl11 sl12 sl13 sl14 : Array (Option Value)} {oc1 kV1 dc1 pm1 ct1 cd1 oc2 kV2 dc2 pm2 ct2 cd2 oc3 kV3 dc3 pm3 ct3 cd3 oc4 kV4 dc4 pm4 ct4 cd4 oc5 kV5 dc5 pm5 ct5 cd5 oc6 kV6 dc6 pm6 ct6 oc7 kV7 dc7 pm7 ct7 oc8 kV8 dc8 pm8 ct8 cd8 oc9 kV9 dc9 pm9 ct9 cd9 oc10 kV10 dc10 pm10 ct10 cd10 oc11 kV11 dc11 pm11 ct11 cd11 oc12 kV12 dc12 pm12 ct12 cd12 oc13 kV13 dc13 pm13 ct13 cd13 oc14 kV14 dc14 pm14 ct14 cd14 : Value} {ec6 ec7 : Value} {dq6 dq7 : Option Addr} {vs6 vs7 : Array Value} {sc6 sc7 : Array (Option Value)} {cx6 px6 cx7 px7 : Addr} {q : Program} {dr6 dr7 : DefRec} (TT : Tabs q K h)
    (a1 : PySem.W.nsIn K mainGlobals "_law_draws" = some (some (.ref f1))) (l1 : K.lookup f1 = some ⟨oc1, od1, .func (PySem.W.fnOf "_law_draws" "_law_draws" (defArgs s_law_draws) (defBody s_law_draws) (defScope s_law_draws) .none kV1 dc1 pm1 an1 cd1 ct1), sl1⟩) (c1 : PySem.W.codeIn K cd1 "_law_draws" = true) (k1 : PySem.W.keepIn K (.ref f1) = true)
    (a2 : PySem.W.nsIn K mainGlobals "_law_within" = some (some (.ref f2))) (l2 : K.lookup f2 = some ⟨oc2, od2, .func (PySem.W.fnOf "_law_within" "_law_within" (defArgs s_law_within) (defBody s_law_within) (defScope s_law_within) .none kV2 dc2 pm2 an2 cd2 ct2), sl2⟩) (c2 : PySem.W.codeIn K cd2 "_law_within" = true) (k2 : PySem.W.keepIn K (.ref f2) = true)
    (a3 : PySem.W.nsIn K mainGlobals "_law_antichain" = some (some (.ref f3))) (l3 : K.lookup f3 = some ⟨oc3, od3, .func (PySem.W.fnOf "_law_antichain" "_law_antichain" (defArgs s_law_antichain) (defBody s_law_antichain) (defScope s_law_antichain) .none kV3 dc3 pm3 an3 cd3 ct3), sl3⟩) (c3 : PySem.W.codeIn K cd3 "_law_antichain" = true) (k3 : PySem.W.keepIn K (.ref f3) = true)
    (a4 : PySem.W.nsIn K mainGlobals "_law_cell" = some (some (.ref f4))) (l4 : K.lookup f4 = some ⟨oc4, od4, .func (PySem.W.fnOf "_law_cell" "_law_cell" (defArgs s_law_cell) (defBody s_law_cell) (defScope s_law_cell) .none kV4 dc4 pm4 an4 cd4 ct4), sl4⟩) (c4 : PySem.W.codeIn K cd4 "_law_cell" = true) (k4 : PySem.W.keepIn K (.ref f4) = true)
    (a5 : PySem.W.nsIn K mainGlobals "_law_row" = some (some (.ref f5))) (l5 : K.lookup f5 = some ⟨oc5, od5, .func (PySem.W.fnOf "_law_row" "_law_row" (defArgs s_law_row) (defBody s_law_row) (defScope s_law_row) .none kV5 dc5 pm5 an5 cd5 ct5), sl5⟩) (c5 : PySem.W.codeIn K cd5 "_law_row" = true) (k5 : PySem.W.keepIn K (.ref f5) = true)
    (a6 : PySem.W.nsIn K mainGlobals "_check_things" = some (some (.ref f6))) (l6 : K.lookup f6 = some ⟨oc6, od6, .func (PySem.W.fnOf "_check_things" "_check_things" (defArgs s_check_things) (defBody s_check_things) (defScope s_check_things) .none kV6 dc6 pm6 an6 (.ref cx6) ct6), sl6⟩) (c6 : PySem.W.codeIn K (.ref cx6) "_check_things" = true) (k6 : PySem.W.keepIn K (.ref f6) = true)
    (a7 : PySem.W.nsIn K mainGlobals "lies_within" = some (some (.ref f7))) (l7 : K.lookup f7 = some ⟨oc7, od7, .func (PySem.W.fnOf "lies_within" "lies_within" (defArgs s_lies_within) (defBody s_lies_within) (defScope s_lies_within) .none kV7 dc7 pm7 an7 (.ref cx7) ct7), sl7⟩) (c7 : PySem.W.codeIn K (.ref cx7) "lies_within" = true) (k7 : PySem.W.keepIn K (.ref f7) = true)
    (a8 : PySem.W.nsIn K mainGlobals "_check_nesting" = some (some (.ref f8))) (l8 : K.lookup f8 = some ⟨oc8, od8, .func (PySem.W.fnOf "_check_nesting" "_check_nesting" (defArgs s_check_nesting) (defBody s_check_nesting) (defScope s_check_nesting) .none kV8 dc8 pm8 an8 cd8 ct8), sl8⟩) (c8 : PySem.W.codeIn K cd8 "_check_nesting" = true) (k8 : PySem.W.keepIn K (.ref f8) = true)
    (a9 : PySem.W.nsIn K mainGlobals "make_offer" = some (some (.ref f9))) (l9 : K.lookup f9 = some ⟨oc9, od9, .func (PySem.W.fnOf "make_offer" "make_offer" (defArgs s_make_offer) (defBody s_make_offer) (defScope s_make_offer) .none kV9 dc9 pm9 an9 cd9 ct9), sl9⟩) (c9 : PySem.W.codeIn K cd9 "make_offer" = true) (k9 : PySem.W.keepIn K (.ref f9) = true)
    (a10 : PySem.W.nsIn K mainGlobals "_law_is_integer" = some (some (.ref f10))) (l10 : K.lookup f10 = some ⟨oc10, od10, .func (PySem.W.fnOf "_law_is_integer" "_law_is_integer" (defArgs s_law_is_integer) (defBody s_law_is_integer) (defScope s_law_is_integer) .none kV10 dc10 pm10 an10 cd10 ct10), sl10⟩) (c10 : PySem.W.codeIn K cd10 "_law_is_integer" = true) (k10 : PySem.W.keepIn K (.ref f10) = true)
    (a11 : PySem.W.nsIn K mainGlobals "_law_is_set" = some (some (.ref f11))) (l11 : K.lookup f11 = some ⟨oc11, od11, .func (PySem.W.fnOf "_law_is_set" "_law_is_set" (defArgs s_law_is_set) (defBody s_law_is_set) (defScope s_law_is_set) .none kV11 dc11 pm11 an11 cd11 ct11), sl11⟩) (c11 : PySem.W.codeIn K cd11 "_law_is_set" = true) (k11 : PySem.W.keepIn K (.ref f11) = true)
    (a12 : PySem.W.nsIn K mainGlobals "_law_is_offer" = some (some (.ref f12))) (l12 : K.lookup f12 = some ⟨oc12, od12, .func (PySem.W.fnOf "_law_is_offer" "_law_is_offer" (defArgs s_law_is_offer) (defBody s_law_is_offer) (defScope s_law_is_offer) .none kV12 dc12 pm12 an12 cd12 ct12), sl12⟩) (c12 : PySem.W.codeIn K cd12 "_law_is_offer" = true) (k12 : PySem.W.keepIn K (.ref f12) = true)
    (a13 : PySem.W.nsIn K mainGlobals "_law_set_of" = some (some (.ref f13))) (l13 : K.lookup f13 = some ⟨oc13, od13, .func (PySem.W.fnOf "_law_set_of" "_law_set_of" (defArgs s_law_set_of) (defBody s_law_set_of) (defScope s_law_set_of) .none kV13 dc13 pm13 an13 cd13 ct13), sl13⟩) (c13 : PySem.W.codeIn K cd13 "_law_set_of" = true) (k13 : PySem.W.keepIn K (.ref f13) = true)
    (a14 : PySem.W.nsIn K mainGlobals "law" = some (some (.ref f14))) (l14 : K.lookup f14 = some ⟨oc14, od14, .func (PySem.W.fnOf "law" "law" (defArgs s_law) (defBody s_law) (defScope s_law) .none kV14 dc14 pm14 an14 cd14 ct14), sl14⟩) (c14 : PySem.W.codeIn K cd14 "law" = true) (k14 : PySem.W.keepIn K (.ref f14) = true)
    (z_len : PySem.W.nsIn K mainGlobals "len" = some none)
    (z_int : PySem.W.nsIn K mainGlobals "int" = some none)
    (z_bool : PySem.W.nsIn K mainGlobals "bool" = some none)
    (z_abs : PySem.W.nsIn K mainGlobals "abs" = some none)
    (z_tuple : PySem.W.nsIn K mainGlobals "tuple" = some none)
    (z_list : PySem.W.nsIn K mainGlobals "list" = some none)
    (z_sum : PySem.W.nsIn K mainGlobals "sum" = some none)
    (z_max : PySem.W.nsIn K mainGlobals "max" = some none)
    (z_min : PySem.W.nsIn K mainGlobals "min" = some none)
    (z_any : PySem.W.nsIn K mainGlobals "any" = some none)
    (z_all : PySem.W.nsIn K mainGlobals "all" = some none)
    (z_range : PySem.W.nsIn K mainGlobals "range" = some none)
    (z_isinstance : PySem.W.nsIn K mainGlobals "isinstance" = some none)
    (z_sorted : PySem.W.nsIn K mainGlobals "sorted" = some none)
    (z_enumerate : PySem.W.nsIn K mainGlobals "enumerate" = some none)
    (z_zip : PySem.W.nsIn K mainGlobals "zip" = some none)
    (z_set : PySem.W.nsIn K mainGlobals "set" = some none)
    (lc6 : K.lookup cx6 = some ⟨ec6, dq6, .fields vs6, sc6⟩) (hv6 : vs6[11]? = some (.ref px6)) (fr6 : (recsOf q).find? (fun e => e.name == ("_check_things" : Str)) = some dr6) (nt6 : K.lookup px6 = none)
    (lc7 : K.lookup cx7 = some ⟨ec7, dq7, .fields vs7, sc7⟩) (hv7 : vs7[11]? = some (.ref px7)) (fr7 : (recsOf q).find? (fun e => e.name == ("lies_within" : Str)) = some dr7) (nt7 : K.lookup px7 = none) :
    LamX.LawAtS l w K (L2N.CX l.prog w) 7 63 "script" mg fa h := by
  have e := hfa.symm.trans (PySem.W.mg_of X G a14)
  cases e
  have B : Bi mg := ⟨PySem.W.mg_none_of X G z_len, PySem.W.mg_none_of X G z_int, PySem.W.mg_none_of X G z_bool, PySem.W.mg_none_of X G z_abs, PySem.W.mg_none_of X G z_tuple, PySem.W.mg_none_of X G z_list, PySem.W.mg_none_of X G z_sum, PySem.W.mg_none_of X G z_max, PySem.W.mg_none_of X G z_min, PySem.W.mg_none_of X G z_any, PySem.W.mg_none_of X G z_all, PySem.W.mg_none_of X G z_range, PySem.W.mg_none_of X G z_isinstance, PySem.W.mg_none_of X G z_sorted, PySem.W.mg_none_of X G z_enumerate, PySem.W.mg_none_of X G z_zip, PySem.W.mg_none_of X G z_set⟩
  have F1 := fun_mk (st := s_law_draws) l1 c1 k1
  have b1 := F1.binds (ps := ["cell", "count"]) fun _ _ _ _ _ _ us hl => match us, hl with | [_, _], _ => rfl
  have F2 := fun_mk (st := s_law_within) l2 c2 k2
  have b2 := F2.binds (ps := ["inner", "outer"]) fun _ _ _ _ _ _ us hl => match us, hl with | [_, _], _ => rfl
  have F3 := fun_mk (st := s_law_antichain) l3 c3 k3
  have b3 := F3.binds (ps := ["rows"]) fun _ _ _ _ _ _ us hl => match us, hl with | [_], _ => rfl
  have F4 := fun_mk (st := s_law_cell) l4 c4 k4
  have b4 := F4.binds (ps := ["script", "k"]) fun _ _ _ _ _ _ us hl => match us, hl with | [_, _], _ => rfl
  have F5 := fun_mk (st := s_law_row) l5 c5 k5
  have b5 := F5.binds (ps := ["cell", "size"]) fun _ _ _ _ _ _ us hl => match us, hl with | [_, _], _ => rfl
  have F6 := funC_mk (st := s_check_things) l6 c6 k6
  have b6 := F6.fun.binds (ps := ["size", "lots"]) fun _ _ _ _ _ _ us hl => match us, hl with | [_, _], _ => rfl
  have F7 := funC_mk (st := s_lies_within) l7 c7 k7
  have b7 := F7.fun.binds (ps := ["inner", "outer"]) fun _ _ _ _ _ _ us hl => match us, hl with | [_, _], _ => rfl
  have F8 := fun_mk (st := s_check_nesting) l8 c8 k8
  have b8 := F8.binds (ps := ["lots"]) fun _ _ _ _ _ _ us hl => match us, hl with | [_], _ => rfl
  have F9 := fun_mk (st := s_make_offer) l9 c9 k9
  have b9 := F9.binds (ps := ["size", "lots"]) fun _ _ _ _ _ _ us hl => match us, hl with | [_, _], _ => rfl
  have F10 := fun_mk (st := s_law_is_integer) l10 c10 k10
  have b10 := F10.binds (ps := ["value"]) fun _ _ _ _ _ _ us hl => match us, hl with | [_], _ => rfl
  have F11 := fun_mk (st := s_law_is_set) l11 c11 k11
  have b11 := F11.binds (ps := ["value", "size"]) fun _ _ _ _ _ _ us hl => match us, hl with | [_, _], _ => rfl
  have F12 := fun_mk (st := s_law_is_offer) l12 c12 k12
  have b12 := F12.binds (ps := ["told", "size", "lots"]) fun _ _ _ _ _ _ us hl => match us, hl with | [_, _, _], _ => rfl
  have F13 := fun_mk (st := s_law_set_of) l13 c13 k13
  have b13 := F13.binds (ps := ["row"]) fun _ _ _ _ _ _ us hl => match us, hl with | [_], _ => rfl
  have F14 := fun_mk (st := s_law) l14 c14 k14
  have ti6 := tabIn_of a6 l6 rfl lc6 hv6
  have ti7 := tabIn_of a7 l7 rfl lc7 hv7
  refine ⟨PySem.W.fnOf "law" "law" (defArgs s_law) (defBody s_law) (defScope s_law) .none kV14 dc14 pm14 an14 cd14 ct14, [(cx6, px6), (cx7, px7)], spD K [px6, px7] m_law_k01, fun p hp => ?_, fun p hp => ?_, fun p hp => ?_, fun s v => .of_eq rfl, fun H a ns hl hb hT hS => ?_, fun base _ _ TB => ?_⟩
  · simp only [List.mem_cons, List.not_mem_nil, or_false] at hp
    rcases hp with rfl | rfl
    · exact (TT _ _ _ _ fr6 ti6).2
    · exact (TT _ _ _ _ fr7 ti7).2
  · simp only [List.mem_cons, List.not_mem_nil, or_false] at hp
    rcases hp with rfl | rfl
    · exact nt6
    · exact nt7
  · simp only [List.mem_cons, List.not_mem_nil, or_false] at hp
    rcases hp with rfl | rfl
    · exact (TT _ _ _ _ fr6 ti6).1
    · exact (TT _ _ _ _ fr7 ti7).1
  · exact spD_law main_k01 (fun p hp => by
      simp only [List.mem_cons, List.not_mem_nil, or_false] at hp
      rcases hp with hp | hp
      · (rw [hp]; exact TabC.nil (hT (cx6, px6) (by simp)))
      · (rw [hp]; exact TabC.nil (hT (cx7, px7) (by simp)))
      ) hl hS
  · have tbB : ∀ (P c : Addr), (c, P) ∈ ([(cx6, px6), (cx7, px7)] : List (Addr × Addr)) → GxR.TabB base mg c P := fun P c m => tabB_of (TB _ m)
    have D1 := ok_law_draws (P := l.prog) (w := w) (base := base) (Tb := [px6, px7]) F1 (PySem.W.mg_of X G a1) b1 B
    have D2 := ok_law_within (P := l.prog) (w := w) (base := base) (Tb := [px6, px7]) F2 (PySem.W.mg_of X G a2) b2 B
    have D3 := ok_law_antichain (P := l.prog) (w := w) (base := base) (Tb := [px6, px7]) F3 D2 (PySem.W.mg_of X G a3) b3 B
    have D4 := ok_law_cell (P := l.prog) (w := w) (base := base) (Tb := [px6, px7]) F4 (PySem.W.mg_of X G a4) b4 B
    have D5 := ok_law_row (P := l.prog) (w := w) (base := base) (Tb := [px6, px7]) F5 D1 (PySem.W.mg_of X G a5) b5 B
    have D6 := ok_check_things (P := l.prog) (w := w) (base := base) (Tb := [px6, px7]) F6 (pt_check_things := px6) (by simp) (tbB (px6) (cx6) (by simp)) (PySem.W.mg_of X G a6) b6 B
    have D7 := ok_lies_within (P := l.prog) (w := w) (base := base) (Tb := [px6, px7]) F7 (pt_lies_within := px7) (by simp) (tbB (px7) (cx7) (by simp)) (PySem.W.mg_of X G a7) b7 B
    have D8 := ok_check_nesting (P := l.prog) (w := w) (base := base) (Tb := [px6, px7]) F8 D7 (PySem.W.mg_of X G a8) b8 B
    have D9 := ok_make_offer (P := l.prog) (w := w) (base := base) (Tb := [px6, px7]) F9 D6 D8 (PySem.W.mg_of X G a9) b9 B
    have D10 := ok_law_is_integer (P := l.prog) (w := w) (base := base) (Tb := [px6, px7]) F10 (PySem.W.mg_of X G a10) b10 B
    have D11 := ok_law_is_set (P := l.prog) (w := w) (base := base) (Tb := [px6, px7]) F11 D10 (PySem.W.mg_of X G a11) b11 B
    have D12 := ok_law_is_offer (P := l.prog) (w := w) (base := base) (Tb := [px6, px7]) F12 D10 D11 (PySem.W.mg_of X G a12) b12 B
    have D13 := ok_law_set_of (P := l.prog) (w := w) (base := base) (Tb := [px6, px7]) F13 (PySem.W.mg_of X G a13) b13 B
    exact okF_law F14 D1 D3 D4 D5 D9 D12 D13 B
end LW
open PySem PySem.W PyProof.Rows
set_option maxHeartbeats 0 in
theorem PySem.Challenge.cw_takersrest_k01_make_offer_holds : PySem.Challenge.rw_takersrest_k01_make_offer.Holds := by
  w_on; o_law; k_head; (case hw => w_witness2)
  k_fill
  refine PD.walk_tabs (l := PySem.Challenge.rw_takersrest_k01_make_offer) (n := 63) (k := 7) (x := "script") (CX := fun w => L2N.CX PySem.Challenge.rw_takersrest_k01_make_offer.prog w) rfl (by decide) rfl ⟨rfl, by decide, by decide⟩ (fun w h Y => by first | exact PySem.W.kIn_of Y | exact PySem.W.km_in_of Y) ?F PD.cx_no
  case F =>
    intro w mg fa h TT KX G hmg
    refine' LW.all_mk KX G hmg TT ?a1 ?l1 ?c1 ?k1 ?a2 ?l2 ?c2 ?k2 ?a3 ?l3 ?c3 ?k3 ?a4 ?l4 ?c4 ?k4 ?a5 ?l5 ?c5 ?k5 ?a6 ?l6 ?c6 ?k6 ?a7 ?l7 ?c7 ?k7 ?a8 ?l8 ?c8 ?k8 ?a9 ?l9 ?c9 ?k9 ?a10 ?l10 ?c10 ?k10 ?a11 ?l11 ?c11 ?k11 ?a12 ?l12 ?c12 ?k12 ?a13 ?l13 ?c13 ?k13 ?a14 ?l14 ?c14 ?k14 ?z_len ?z_int ?z_bool ?z_abs ?z_tuple ?z_list ?z_sum ?z_max ?z_min ?z_any ?z_all ?z_range ?z_isinstance ?z_sorted ?z_enumerate ?z_zip ?z_set ?lc6 ?hv6 ?fr6 ?nt6 ?lc7 ?hv7 ?fr7 ?nt7
    (case a1 => k_is); (case l1 => k_is); (case c1 => k_is); (case k1 => k_is); (case a2 => k_is); (case l2 => k_is); (case c2 => k_is); (case k2 => k_is); (case a3 => k_is); (case l3 => k_is); (case c3 => k_is); (case k3 => k_is); (case a4 => k_is); (case l4 => k_is); (case c4 => k_is); (case k4 => k_is); (case a5 => k_is); (case l5 => k_is); (case c5 => k_is); (case k5 => k_is); (case a6 => k_is); (case l6 => k_is); (case c6 => k_is); (case k6 => k_is); (case a7 => k_is); (case l7 => k_is); (case c7 => k_is); (case k7 => k_is); (case a8 => k_is); (case l8 => k_is); (case c8 => k_is); (case k8 => k_is); (case a9 => k_is); (case l9 => k_is); (case c9 => k_is); (case k9 => k_is); (case a10 => k_is); (case l10 => k_is); (case c10 => k_is); (case k10 => k_is); (case a11 => k_is); (case l11 => k_is); (case c11 => k_is); (case k11 => k_is); (case a12 => k_is); (case l12 => k_is); (case c12 => k_is); (case k12 => k_is); (case a13 => k_is); (case l13 => k_is); (case c13 => k_is); (case k13 => k_is); (case a14 => k_is); (case l14 => k_is); (case c14 => k_is); (case k14 => k_is); (case z_len => k_is); (case z_int => k_is); (case z_bool => k_is); (case z_abs => k_is); (case z_tuple => k_is); (case z_list => k_is); (case z_sum => k_is); (case z_max => k_is); (case z_min => k_is); (case z_any => k_is); (case z_all => k_is); (case z_range => k_is); (case z_isinstance => k_is); (case z_sorted => k_is); (case z_enumerate => k_is); (case z_zip => k_is); (case z_set => k_is)
    (case lc6 => k_is); (case hv6 => rfl); (case fr6 => rfl); (case nt6 => first | rfl | kernel_rfl)
    (case lc7 => k_is); (case hv7 => rfl); (case fr7 => rfl); (case nt7 => first | rfl | kernel_rfl)

