package book

import (
	"cmp"
	"slices"

	"pit/api"
	"pit/event"
)

// turnout is what an opening at a price comes to: how much is traded, and how much the one side has more than the other.
type turnout struct{ price, volume, rest int }

// compare puts the better of two openings first.
func compare(a, b turnout) int {
	return cmp.Or(cmp.Compare(b.volume, a.volume), cmp.Compare(a.rest, b.rest), cmp.Compare(a.price, b.price))
}

// Open does the opening of a book that gathers, which is Trading from then on.
func (b *Book) Open() []api.Event {
	best := b.opening()
	out := b.tradeAt(best.price, best.volume)
	b.phase = api.Trading
	return append(out, event.Opened(best.price, best.volume))
}

// Close lets a book gather that trades. What rests stays.
func (b *Book) Close() []api.Event {
	b.phase = api.Gathering
	return []api.Event{event.Closed()}
}

// opening finds the best opening, one of noughts if nothing can be traded.
func (b *Book) opening() turnout {
	var all []turnout
	for _, price := range b.turns() {
		if x := b.turnoutAt(price); x.volume > 0 {
			all = append(all, x)
		}
	}
	if len(all) == 0 {
		return turnout{}
	}
	return slices.MinFunc(all, compare)
}

// turns tells from which prices on something else is open to buy or to sell than at the price below.
// Between two of them all prices are alike, and the lowest is wanted, so that no others need be tried.
// (One above MaxPrice may be among them: nobody buys there, so that it is never found.)
func (b *Book) turns() []int {
	var out []int
	for _, o := range b.side(api.Buy).orders {
		out = append(out, o.Price+1)
	}
	for _, o := range b.side(api.Sell).orders {
		out = append(out, o.Price)
	}
	return out
}

func (b *Book) turnoutAt(price int) turnout {
	toBuy, toSell := b.side(api.Buy).openAt(price, nobody), b.side(api.Sell).openAt(price, nobody)
	volume := min(toBuy, toSell)
	return turnout{price, volume, max(toBuy, toSell) - volume}
}

// tradeAt lets the best of both sides trade at a price until the volume is traded, whoever's they are.
// All that it gets to are among those whose open numbers the volume is made of, so that both sides last.
func (b *Book) tradeAt(price, volume int) []api.Event {
	buys, sells := b.side(api.Buy), b.side(api.Sell)
	b.count(volume)
	var out []api.Event
	for volume > 0 {
		buyer, seller := buys.orders[0], sells.orders[0]
		count := min(buyer.Open, seller.Open)
		buys.take(count)
		sells.take(count)
		volume -= count
		out = append(out, event.Traded(buyer, seller, price, count))
	}
	return out
}
