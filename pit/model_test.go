package pit_test

import (
	"cmp"
	"math/rand/v2"
	"reflect"
	"slices"
	"testing"

	"pit/api"
	"pit/pit"
)

// model does what the document says, in the plainest way: one list of all orders, as they came to rest.
type model struct {
	orders []api.Order
	trades [9]bool // by book: is it Trading
	traded [9]int  // by book
}

func outside(n, most int) bool { return n < 1 || n > most }

func (m *model) at(id int) int {
	return slices.IndexFunc(m.orders, func(o api.Order) bool { return o.Id == id })
}

// of tells the orders of a book and side, the best first.
func (m *model) of(book, side int) []api.Order {
	var out []api.Order
	for _, o := range m.orders {
		if o.Book == book && o.Side == side {
			out = append(out, o)
		}
	}
	slices.SortStableFunc(out, func(a, b api.Order) int {
		if side == api.Buy {
			return cmp.Compare(b.Price, a.Price)
		}
		return cmp.Compare(a.Price, b.Price)
	})
	return out
}

// good tells whether a price of a side is as good as asked for by one of the other side, or better.
func good(c api.Command, price int) bool {
	return c.Kind == api.Any || c.Side == api.Buy && price <= c.Price || c.Side == api.Sell && price >= c.Price
}

// near tells the orders that a New would meet if it were for as many as there are.
func (m *model) near(c api.Command) []api.Order {
	var out []api.Order
	for _, o := range m.of(c.Book, 3-c.Side) {
		if good(c, o.Price) {
			out = append(out, o)
		}
	}
	return out
}

// whole tells whether a New of the kind Whole finds enough.
func (m *model) whole(c api.Command) bool {
	sum := 0
	for _, o := range m.near(c) {
		if o.Trader != c.Trader {
			sum += o.Open
		}
	}
	return sum >= c.Count
}

func (m *model) enter(c api.Command) []api.Event {
	switch {
	case outside(c.Id, 1000000000), outside(c.Trader, 1000), outside(c.Book, 8), outside(c.Side, 2), outside(c.Kind, 5),
		c.Kind != 2 && outside(c.Price, 1000000), outside(c.Count, 1000000):
		return []api.Event{refused(c.Id, api.ErrNumber)}
	case m.at(c.Id) >= 0:
		return []api.Event{refused(c.Id, api.ErrKnown)}
	case !m.trades[c.Book] && c.Kind != api.Rest:
		return []api.Event{refused(c.Id, api.ErrPhase)}
	case c.Kind == api.Post && len(m.near(c)) > 0, c.Kind == api.Whole && !m.whole(c):
		return []api.Event{refused(c.Id, api.ErrMatch)}
	case (c.Kind == api.Rest || c.Kind == api.Post) && len(m.of(c.Book, 1))+len(m.of(c.Book, 2)) == 200:
		return []api.Event{refused(c.Id, api.ErrFull)}
	}
	out := []api.Event{taken(c.Id, c.Count)}
	if m.trades[c.Book] {
		out = append(out, m.meet(&c)...)
	}
	if c.Count == 0 {
		return out
	}
	if c.Kind != api.Rest && c.Kind != api.Post {
		return append(out, gone(c.Id, c.Count))
	}
	m.orders = append(m.orders, api.Order{Id: c.Id, Trader: c.Trader, Book: c.Book, Side: c.Side, Price: c.Price, Open: c.Count})
	return append(out, rests(c.Id, c.Price, c.Count))
}

func (m *model) meet(c *api.Command) []api.Event {
	var out []api.Event
	for _, o := range m.near(*c) {
		switch {
		case c.Count == 0:
		case o.Trader == c.Trader:
			out = append(out, m.leave(m.at(o.Id)))
		default:
			n := min(o.Open, c.Count)
			c.Count -= n
			m.fill(o.Id, n)
			m.traded[c.Book] += n
			out = append(out, traded(c.Id, o.Id, o.Price, n))
		}
	}
	return out
}

func (m *model) fill(id, n int) {
	at := m.at(id)
	m.orders[at].Open -= n
	if m.orders[at].Open == 0 {
		m.leave(at)
	}
}

func (m *model) turn(c api.Command) []api.Event {
	if outside(c.Book, 8) {
		return []api.Event{refused(0, api.ErrNumber)}
	}
	if m.trades[c.Book] != (c.What == api.Close) {
		return []api.Event{refused(0, api.ErrPhase)}
	}
	m.trades[c.Book] = c.What == api.Open
	if c.What == api.Close {
		return []api.Event{closed()}
	}
	price, volume := found(m.of(c.Book, 1), m.of(c.Book, 2))
	var out []api.Event
	for left := volume; left > 0; {
		buyer, seller := m.of(c.Book, 1)[0], m.of(c.Book, 2)[0]
		n := min(buyer.Open, seller.Open)
		left -= n
		m.fill(buyer.Id, n)
		m.fill(seller.Id, n)
		out = append(out, traded(buyer.Id, seller.Id, price, n))
	}
	m.traded[c.Book] += volume
	return append(out, opened(price, volume))
}

func (m *model) leave(at int) api.Event {
	o := m.orders[at]
	m.orders = slices.Delete(m.orders, at, at+1)
	return gone(o.Id, o.Open)
}

func (m *model) alter(c api.Command) []api.Event {
	if outside(c.Id, 1000000000) || outside(c.Trader, 1000) || c.What == api.Change && (outside(c.Price, 1000000) || outside(c.Count, 1000000)) {
		return []api.Event{refused(c.Id, api.ErrNumber)}
	}
	at := m.at(c.Id)
	if at < 0 || m.orders[at].Trader != c.Trader {
		return []api.Event{refused(c.Id, api.ErrNone)}
	}
	o := m.orders[at]
	if c.What == api.Change && c.Price == o.Price && c.Count <= o.Open {
		m.orders[at].Open = c.Count
		return []api.Event{rests(c.Id, c.Price, c.Count)}
	}
	out := []api.Event{m.leave(at)}
	if c.What == api.Change {
		out = append(out, m.enter(order(o.Id, o.Trader, o.Book, o.Side, c.Price, c.Count))...)
	}
	return out
}

func (m *model) leaveAll(c api.Command) []api.Event {
	if outside(c.Trader, 1000) {
		return []api.Event{refused(0, api.ErrNumber)}
	}
	var out []api.Event
	for book := 1; book <= 8; book++ {
		for _, o := range append(m.of(book, 1), m.of(book, 2)...) {
			if o.Trader == c.Trader {
				out = append(out, m.leave(m.at(o.Id)))
			}
		}
	}
	return out
}

func (m *model) do(c api.Command) []api.Event {
	switch c.What {
	case api.New:
		return m.enter(c)
	case api.Cancel, api.Change:
		return m.alter(c)
	case api.CancelAll:
		return m.leaveAll(c)
	case api.Open, api.Close:
		return m.turn(c)
	}
	return []api.Event{refused(0, api.ErrCommand)}
}

func (m *model) levels(book, side int) []api.Level {
	var out []api.Level
	for _, o := range m.of(book, side) {
		if len(out) == 0 || out[len(out)-1].Price != o.Price {
			out = append(out, api.Level{Price: o.Price})
		}
		out[len(out)-1].Count += o.Open
		out[len(out)-1].Orders++
	}
	return out
}

func (m *model) view() seen {
	var s seen
	for book := 1; book <= 8; book++ {
		phase := api.Gathering
		if m.trades[book] {
			phase = api.Trading
		}
		s.states = append(s.states, api.State{Phase: phase, Buys: len(m.of(book, 1)), Sells: len(m.of(book, 2)), Traded: m.traded[book]})
		s.volume += m.traded[book]
		s.levels = append(s.levels, m.levels(book, 1), m.levels(book, 2))
	}
	for _, id := range append(numbers(1, 400), 1000000000) {
		var o api.Order
		if at := m.at(id); at >= 0 {
			o = m.orders[at]
		}
		s.orders = append(s.orders, o)
	}
	return s
}

func numbers(from, to int) []int {
	var out []int
	for n := from; n <= to; n++ {
		out = append(out, n)
	}
	return out
}

// some: a command that often hits what rests, and now and then is wrong in one number.
// Those that sell ask some more than those that buy: the more, the fuller books get that trade.
func some(r *rand.Rand, books, more int) api.Command {
	what := []int{api.New, api.New, api.New, api.New, api.Cancel, api.Change, api.Change}[r.IntN(7)]
	switch n := r.IntN(1000); {
	case n == 0:
		what = api.CancelAll
	case n <= 20:
		what = api.Open
	case n <= 30:
		what = api.Close
	}
	c := api.Command{What: what, Id: 1 + r.IntN(400), Trader: 1 + r.IntN(3), Book: 1 + r.IntN(books), Side: 1 + r.IntN(2),
		Kind: max(api.Rest, r.IntN(10)-4), Price: 100 + r.IntN(6), Count: 1 + r.IntN(9)}
	if c.Side == api.Sell {
		c.Price += more
	}
	switch r.IntN(40) {
	case 0:
		*fields(&c)[1+r.IntN(7)] = edges[r.IntN(len(edges))]
	case 1:
		c.What = []int{-1, 0, 7, 1 << 40}[r.IntN(4)]
	}
	return c
}

func TestLikeTheModel(t *testing.T) {
	met := map[api.Event]int{} // what came by, without numbers
	for seed := range uint64(40) {
		r := rand.New(rand.NewPCG(seed, 1))
		p, m := pit.New(), &model{}
		for i := range 2000 {
			c := some(r, []int{1, 2, api.MaxBooks}[seed%3], int(seed)%10)
			got, want := p.Do(c), m.do(c)
			if !slices.Equal(got, want) {
				t.Fatalf("seed %d, command %d: Do(%+v) = %+v, want %+v", seed, i, c, got, want)
			}
			for _, e := range got {
				met[api.Event{What: e.What, Error: e.Error}]++
			}
			if i%50 != 0 {
				continue
			}
			if got, want := view(p), m.view(); !reflect.DeepEqual(got, want) {
				t.Fatalf("seed %d, after command %d: %+v, want %+v", seed, i, got, want)
			}
		}
	}
	for what := api.Taken; what <= api.Closed; what++ {
		if met[api.Event{What: what}] < 100 {
			t.Errorf("only %d events %d came by", met[api.Event{What: what}], what)
		}
	}
	for e := api.ErrCommand; e <= api.ErrMatch; e++ {
		if met[refused(0, e)] < 100 {
			t.Errorf("only %d were refused with %d", met[refused(0, e)], e)
		}
	}
}
