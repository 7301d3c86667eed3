package book

import (
	"pit/api"
	"pit/event"
)

// waits tells whether what is open of an order of a kind rests, and is not thrown away.
func waits(kind int) bool { return kind == api.Rest || kind == api.Post }

// Bars tells why an order of a kind may not come in now, OK if it may.
func (b *Book) Bars(o api.Order, kind int) api.Errno {
	switch {
	case b.phase == api.Gathering && kind != api.Rest:
		return api.ErrPhase
	case b.mismatched(o, kind):
		return api.ErrMatch
	case waits(kind) && b.full():
		return api.ErrFull
	}
	return api.OK
}

// mismatched tells whether an order would trade and must not, or would not trade whole and must.
func (b *Book) mismatched(o api.Order, kind int) bool {
	rested := b.facing(o.Side)
	switch kind {
	case api.Post:
		return rested.openAt(o.Price, nobody) > 0
	case api.Whole:
		return rested.openAt(o.Price, o.Trader) < o.Open
	}
	return false
}

// Enter takes an order in that Bars does not bar, and tells what comes of it.
func (b *Book) Enter(o api.Order, kind int) []api.Event {
	out := []api.Event{event.Taken(o)}
	if b.phase == api.Trading {
		met, left := b.meet(o, kind)
		out = append(out, met...)
		o.Open = left
	}
	switch {
	case o.Open == 0:
		return out
	case waits(kind):
		b.side(o.Side).put(o)
		return append(out, event.Rests(o))
	}
	return append(out, event.Gone(o))
}

// meet lets an order trade with the other side, from the best one on, and tells how much of it is left open.
func (b *Book) meet(o api.Order, kind int) ([]api.Event, int) {
	rested := b.facing(o.Side)
	reached := rested.reached
	if kind == api.Any {
		reached = rested.always
	}
	var out []api.Event
	for o.Open > 0 && len(rested.orders) > 0 && reached(o.Price, 0) {
		best := rested.orders[0]
		if best.Trader == o.Trader { // one's own makes way
			rested.remove(0)
			out = append(out, event.Gone(best))
			continue
		}
		count := min(o.Open, best.Open)
		o.Open -= count
		rested.take(count)
		b.count(count)
		out = append(out, event.Traded(o, best, best.Price, count))
	}
	return out, o.Open
}

func (b *Book) count(traded int) {
	b.traded += traded
	b.total.Add(int64(traded))
}
