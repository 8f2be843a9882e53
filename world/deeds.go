package world

import (
	"coppice/api"
	"coppice/bulk"
	"coppice/check"
	"coppice/disk"
	"coppice/dump"
	"coppice/hands"
	"coppice/store"
)

// What a step needs.
const (
	nothing = iota
	noStore
	aStore
	aView // with the number A; and so a store
)

// deed is what a kind of step needs, and what it does when that is there.
type deed struct {
	need int
	do   func(api.Op) api.Event
}

// deedOf is the deed of a kind that is one.
func (w *World) deedOf(kind int) deed {
	deeds := [...]deed{
		api.OpFormat:   {noStore, w.format},
		api.OpOpen:     {noStore, w.open},
		api.OpPut:      {aStore, w.put},
		api.OpDelete:   {aStore, w.delete},
		api.OpGet:      {aStore, w.get},
		api.OpScan:     {aStore, w.scan},
		api.OpCommit:   {aStore, w.commit},
		api.OpRollback: {aStore, w.rollback},
		api.OpView:     {aStore, w.view},
		api.OpRead:     {aView, w.read},
		api.OpRange:    {aView, w.scanView},
		api.OpNth:      {aView, w.nth},
		api.OpRank:     {aView, w.rank},
		api.OpClose:    {aView, w.closeView},
		api.OpArm:      {nothing, w.arm},
		api.OpCrash:    {nothing, w.crash},
		api.OpRot:      {nothing, w.rot},
		api.OpCheck:    {nothing, w.check},
		api.OpHands:    {nothing, w.hands},
		api.OpState:    {aStore, w.state},
		api.OpDump:     {nothing, w.dump},
		api.OpCompact:  {nothing, w.compact},
	}
	return deeds[kind]
}

// lacks tells the error of a step that needs what isn't there; OK, if it is.
func (w *World) lacks(need int, op api.Op) api.Errno {
	switch {
	case need == noStore && w.store != nil:
		return api.ErrOpen
	case need >= aStore && w.store == nil:
		return api.ErrNoStore
	case need == aView && (op.A < 1 || op.A > len(w.views)):
		return api.ErrNoView
	}
	return api.OK
}

// What each kind does, a method a kind. Most hand on all that the layer below answers: beside an error that is zero already, but for the page that the event is to tell.

func (w *World) format(api.Op) api.Event { return api.Event{Code: store.Format(w.Disk)} }

func (w *World) open(op api.Op) (e api.Event) {
	w.store, e.A, e.Code = store.Open(w.Disk, op.A) // beside an error there is none, as before
	return e
}

func (w *World) put(op api.Op) api.Event {
	return api.Event{Code: w.store.Put(op.Key, op.Value)}
}

func (w *World) delete(op api.Op) (e api.Event) {
	e.Found, e.Code = w.store.Delete(op.Key)
	return e
}

func (w *World) get(op api.Op) (e api.Event) {
	e.Value, e.Found, e.Code = w.store.Get(op.Key)
	return e
}

func (w *World) scan(op api.Op) (e api.Event) {
	e.Pairs, e.Code = w.store.Scan(op.Key, op.Hi, op.A)
	return e
}

func (w *World) commit(api.Op) api.Event { return api.Event{Code: w.store.Commit()} }

func (w *World) rollback(api.Op) api.Event { return api.Event{Code: w.store.Rollback()} }

func (w *World) view(api.Op) api.Event {
	v, err := w.store.View()
	if err != api.OK {
		return api.Event{Code: err}
	}
	w.views = append(w.views, v)
	return api.Event{A: len(w.views), B: v.Version()}
}

// viewOf is the view that a step names.
func (w *World) viewOf(op api.Op) *store.View { return w.views[op.A-1] }

func (w *World) read(op api.Op) (e api.Event) {
	e.Value, e.Found, e.Code = w.viewOf(op).Get(op.Key)
	return e
}

func (w *World) scanView(op api.Op) (e api.Event) {
	e.Pairs, e.Code = w.viewOf(op).Scan(op.Key, op.Hi, op.B)
	return e
}

func (w *World) nth(op api.Op) api.Event {
	pair, err := w.viewOf(op).Nth(op.B)
	if err != api.OK {
		return api.Event{Code: err}
	}
	return api.Event{Pairs: []api.Pair{pair}}
}

func (w *World) rank(op api.Op) (e api.Event) {
	e.A, e.Code = w.viewOf(op).Rank(op.Key)
	return e
}

func (w *World) closeView(op api.Op) api.Event { return api.Event{Found: w.viewOf(op).Close()} }

func (w *World) arm(op api.Op) api.Event { return api.Event{Code: w.Arm(op.A)} }

func (w *World) crash(op api.Op) api.Event {
	pended := len(w.Pending())
	w.Crash(op.Fates)
	w.store, w.views = nil, nil
	return api.Event{A: pended, B: w.Pages()}
}

func (w *World) rot(op api.Op) api.Event { return api.Event{Code: w.Rot(op.A, op.B, op.C)} }

func (w *World) check(api.Op) (e api.Event) {
	e.A, e.Code = check.Check(w.Durable())
	return e
}

func (w *World) hands(op api.Op) (e api.Event) {
	e.A, e.Code = hands.Check(w.Durable(), op.A, op.B)
	return e
}

func (w *World) state(api.Op) api.Event {
	return api.Event{State: w.store.State(), A: w.store.Need(), B: w.store.Room()}
}

func (w *World) dump(api.Op) (e api.Event) {
	e.Text, e.A, e.Code = dump.File(w.Durable())
	return e
}

func (w *World) compact(op api.Op) api.Event {
	d := disk.New(op.A)
	if d == nil {
		return api.Event{Code: api.ErrPages}
	}
	at, err := bulk.Compact(w.Durable(), d)
	if err != api.OK {
		return api.Event{Code: err, A: at}
	}
	*w = World{Disk: d} // the store and its views were the old disk's
	return api.Event{A: at, B: d.Pages()}
}
