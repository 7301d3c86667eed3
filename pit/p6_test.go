package pit_test

import (
	"math/rand/v2"
	"testing"

	"pit/api"
	"pit/pit"
)

// watched is an order as the commands and the events told of it.
type watched struct {
	said               api.Command
	traded, open, gone int
	place              int // the lower, the earlier it came to rest; 0: it does not rest
}

// watcher knows of a pit what its events tell, and checks each against those before.
type watcher struct {
	t       *testing.T
	p       *pit.Pit
	orders  map[int]*watched
	came    int
	trades  [9]bool // by book: is it Trading
	volumes int
}

// better tells whether one resting order is ahead of another of its side.
func (x *watched) better(than *watched) bool {
	if x.said.Price != than.said.Price {
		return (x.said.Price > than.said.Price) == (x.said.Side == api.Buy)
	}
	return x.place < than.place
}

// unpassed checks that no better resting order of its side, but those of one trader, was passed by.
func (w *watcher) unpassed(x *watched, own int) {
	w.t.Helper()
	if x.place == 0 {
		w.t.Fatalf("%+v trades and does not rest", x)
	}
	for _, y := range w.orders {
		if y.place > 0 && y.said.Book == x.said.Book && y.said.Side == x.said.Side && y.said.Trader != own && y.better(x) {
			w.t.Fatalf("%+v was passed by for %+v", y, x)
		}
	}
}

// take notes that some of an order was traded at a price.
func (w *watcher) take(x *watched, price, count int) {
	w.t.Helper()
	if !good(x.said, price) {
		w.t.Fatalf("%+v was traded at %d", x, price)
	}
	x.traded += count
	x.open -= count
	if x.open == 0 {
		x.place = 0
	}
	if count < 1 || x.open < 0 {
		w.t.Fatalf("%d were traded of %+v", count, x)
	}
}

func (w *watcher) trade(c api.Command, e api.Event) {
	w.t.Helper()
	one, other := w.orders[e.Id], w.orders[e.Other]
	if c.What == api.Open {
		w.unpassed(one, 0)
		w.unpassed(other, 0)
	} else {
		w.unpassed(other, one.said.Trader)
		if e.Price != other.said.Price || one.said.Trader == other.said.Trader || one.place != 0 {
			w.t.Fatalf("%+v: %+v of %+v and %+v", c, e, one, other)
		}
	}
	w.take(one, e.Price, e.Count)
	w.take(other, e.Price, e.Count)
	w.volumes += e.Count
}

// come notes an order that was taken, by a New or by a Change.
func (w *watcher) come(c api.Command) {
	if c.What == api.Change {
		was := w.orders[c.Id].said
		c.Trader, c.Book, c.Side, c.Kind = was.Trader, was.Book, was.Side, api.Rest
	}
	w.orders[c.Id] = &watched{said: c, open: c.Count}
}

func (w *watcher) event(c api.Command, e api.Event) {
	w.t.Helper()
	x := w.orders[e.Id]
	switch e.What {
	case api.Taken:
		w.come(c)
	case api.Traded:
		w.trade(c, e)
	case api.Rests:
		if x.place != 0 { // a Change to fewer: says anew what is open
			x.said.Count = x.traded + e.Count
			x.open = e.Count
			return
		}
		w.came++
		x.place = w.came
		if e.Count != x.open || e.Price != x.said.Price {
			w.t.Fatalf("%+v: %+v of %+v", c, e, x)
		}
	case api.Gone:
		if e.Count != x.open {
			w.t.Fatalf("%+v: %+v of %+v", c, e, x)
		}
		x.gone, x.open, x.place = x.open, 0, 0
	}
}

// resting tells what rests in a book, as told.
func (w *watcher) resting(book, side int) []api.Order {
	var out []api.Order
	for _, x := range w.orders {
		if x.place > 0 && x.said.Book == book && x.said.Side == side {
			out = append(out, api.Order{Price: x.said.Price, Open: x.open})
		}
	}
	return out
}

func (w *watcher) do(c api.Command) {
	w.t.Helper()
	most := 0
	if !outside(c.Book, api.MaxBooks) {
		_, most = found(w.resting(c.Book, api.Buy), w.resting(c.Book, api.Sell))
	}
	for _, e := range w.p.Do(c) {
		w.event(c, e)
		switch e.What {
		case api.Opened:
			w.trades[c.Book] = true
			if e.Count != most {
				w.t.Fatalf("%d were traded in an opening, and %d could be", e.Count, most)
			}
		case api.Closed:
			w.trades[c.Book] = false
		}
	}
	w.balanced(c)
	w.parted(c)
}

// balanced checks that what each order was for is what was traded of it, what is open and what was Gone.
func (w *watcher) balanced(c api.Command) {
	w.t.Helper()
	for id, x := range w.orders {
		if x.said.Count != x.traded+x.open+x.gone {
			w.t.Fatalf("after %+v: %+v", c, x)
		}
		if o, e := w.p.Order(id); o.Open != x.open || (e == api.OK) != (x.place > 0) {
			w.t.Fatalf("after %+v: Order(%d) = %+v, %d, and %+v was told", c, id, o, e, x)
		}
	}
	if n := w.p.Volume(); n != w.volumes {
		w.t.Fatalf("after %+v: Volume() = %d, and %d were told", c, n, w.volumes)
	}
}

// parted checks that nothing rests that could trade, in a book that is Trading.
func (w *watcher) parted(c api.Command) {
	w.t.Helper()
	for book := 1; book <= api.MaxBooks; book++ {
		buys, _ := w.p.Depth(book, api.Buy, 1)
		sells, _ := w.p.Depth(book, api.Sell, 1)
		if w.trades[book] && len(buys) > 0 && len(sells) > 0 && buys[0].Price >= sells[0].Price {
			w.t.Fatalf("after %+v: %+v and %+v rest in book %d", c, buys[0], sells[0], book)
		}
	}
}

func watch(t *testing.T) *watcher {
	return &watcher{t: t, p: pit.New(), orders: map[int]*watched{}}
}

func TestP6ByChance(t *testing.T) {
	for seed := range uint64(30) {
		r := rand.New(rand.NewPCG(seed, 6))
		w := watch(t)
		for range 300 {
			w.do(some(r, 1+int(seed)%2, int(seed)%4))
		}
		if w.volumes < 10 {
			t.Errorf("seed %d: only %d were traded", seed, w.volumes)
		}
	}
}

func TestP6OfWorkedCommands(t *testing.T) {
	w := watch(t)
	for _, c := range session() {
		w.do(c)
	}
	// An opening in which no price trades all, and one behind a Close.
	for _, c := range []api.Command{
		order(1, 1, 4, api.Buy, api.MaxPrice, api.MaxCount), order(2, 2, 4, api.Sell, 1, 1), order(3, 1, 4, api.Sell, api.MaxPrice, 7), opening(4),
		of(api.Any, order(4, 3, 4, api.Sell, 0, 5)), change(1, 1, api.MaxPrice, 9), change(1, 1, api.MaxPrice, 10), closing(4),
		order(5, 1, 4, api.Sell, 1, 4), order(6, 4, 4, api.Sell, 500, 4), opening(4), change(6, 4, api.MaxPrice, 3), cancelAll(1), cancelAll(4),
	} {
		w.do(c)
	}
}

// The plain edges: a price apart both rest, at one price they trade, in both directions.
func TestP6NothingRestsThatCouldTrade(t *testing.T) {
	for _, price := range []int{1, 500, api.MaxPrice - 1} {
		p := trading(t, order(1, 1, 1, api.Buy, price, 1), order(2, 2, 1, api.Sell, price+1, 1))
		depth(t, p, 1, api.Buy, -1, api.Level{Price: price, Count: 1, Orders: 1})
		depth(t, p, 1, api.Sell, -1, api.Level{Price: price + 1, Count: 1, Orders: 1})
		does(t, p, order(3, 3, 1, api.Buy, price+1, 1), taken(3, 1), traded(3, 2, price+1, 1))
		does(t, p, order(4, 3, 1, api.Sell, price, 2), taken(4, 2), traded(4, 1, price, 1), rests(4, price, 1))
		depth(t, p, 1, api.Buy, -1)
		depth(t, p, 1, api.Sell, -1, api.Level{Price: price, Count: 1, Orders: 1})
	}
}
