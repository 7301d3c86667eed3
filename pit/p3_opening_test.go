package pit_test

import (
	"math/rand/v2"
	"slices"
	"testing"

	"pit/api"
	"pit/pit"
)

// pairs: prices and counts.
type pairs [][2]int

// gathered: a pit in whose book 1 orders rest, those that buy with the numbers from 1 on, those that sell from 101 on.
func gathered(t *testing.T, buys, sells pairs) *pit.Pit {
	t.Helper()
	p := pit.New()
	for i, x := range buys {
		does(t, p, order(1+i, 1, 1, api.Buy, x[0], x[1]), taken(1+i, x[1]), rests(1+i, x[0], x[1]))
	}
	for i, x := range sells {
		does(t, p, order(101+i, 2, 1, api.Sell, x[0], x[1]), taken(101+i, x[1]), rests(101+i, x[0], x[1]))
	}
	return p
}

// opens checks an opening, and that the book is Trading then.
func opens(t *testing.T, p *pit.Pit, want ...api.Event) {
	t.Helper()
	does(t, p, opening(1), want...)
	if x, e := p.Look(1); x.Phase != api.Trading || e != api.OK {
		t.Errorf("Look(1) = %+v, %d", x, e)
	}
	counts(t, p, want[len(want)-1].Count)
}

// The document's third example.
func TestP3OpeningOfTheExample(t *testing.T) {
	p := gathered(t, pairs{{102, 10}, {100, 5}}, pairs{{99, 8}, {101, 4}})
	opens(t, p, traded(1, 101, 101, 8), traded(1, 102, 101, 2), opened(101, 10))
	depth(t, p, 1, api.Buy, -1, api.Level{Price: 100, Count: 5, Orders: 1})
	depth(t, p, 1, api.Sell, -1, api.Level{Price: 101, Count: 2, Orders: 1})
}

func TestP3OpeningWithNoPrice(t *testing.T) {
	opens(t, gathered(t, nil, nil), opened(0, 0))
	opens(t, gathered(t, pairs{{api.MaxPrice, 5}, {1, 5}}, nil), opened(0, 0))
	opens(t, gathered(t, nil, pairs{{1, 5}, {api.MaxPrice, 5}}), opened(0, 0))
	p := gathered(t, pairs{{100, 5}}, pairs{{101, 5}})
	opens(t, p, opened(0, 0))
	depth(t, p, 1, api.Buy, -1, api.Level{Price: 100, Count: 5, Orders: 1}) // what rests stays
	depth(t, p, 1, api.Sell, -1, api.Level{Price: 101, Count: 5, Orders: 1})
}

// The greatest volume comes first, however great the rest.
func TestP3OpeningOfTheGreatestVolume(t *testing.T) {
	// 90 to 99: to buy 6, to sell 5; 100: 6 and 100.
	opens(t, gathered(t, pairs{{100, 6}}, pairs{{90, 5}, {100, 95}}), traded(1, 101, 100, 5), traded(1, 102, 100, 1), opened(100, 6))
	// 90: 100 and 6; 91 to 110: 5 and 6.
	opens(t, gathered(t, pairs{{110, 5}, {90, 95}}, pairs{{90, 6}}), traded(1, 101, 90, 5), traded(2, 101, 90, 1), opened(90, 6))
}

// Of several prices of the same volume that with the least rest.
func TestP3OpeningOfTheLeastRest(t *testing.T) {
	// 90 to 95: to buy 7, to sell 5; 96 to 110: 5 and 5.
	opens(t, gathered(t, pairs{{110, 5}, {95, 2}}, pairs{{90, 5}}), traded(1, 101, 96, 5), opened(96, 5))
	// 90 to 94: 5 and 5; 95 to 110: 5 and 9.
	opens(t, gathered(t, pairs{{110, 5}}, pairs{{95, 4}, {90, 5}}), traded(1, 102, 90, 5), opened(90, 5))
	// 90: 9 and 5; 91 to 95: 5 and 7: the rest is less on the other side.
	opens(t, gathered(t, pairs{{95, 5}, {90, 4}}, pairs{{90, 5}, {91, 2}}), traded(1, 101, 91, 5), opened(91, 5))
	// The same at the highest price: below it 7 and 5, there 5 and 5.
	opens(t, gathered(t, pairs{{api.MaxPrice, 5}, {api.MaxPrice - 1, 2}}, pairs{{1, 5}}),
		traded(1, 101, api.MaxPrice, 5), opened(api.MaxPrice, 5))
}

// Of several prices of the same volume and rest the lowest.
func TestP3OpeningOfTheLowest(t *testing.T) {
	opens(t, gathered(t, pairs{{110, 5}}, pairs{{90, 5}}), traded(1, 101, 90, 5), opened(90, 5))
	opens(t, gathered(t, pairs{{110, 5}}, pairs{{90, 7}}), traded(1, 101, 90, 5), opened(90, 5))
	opens(t, gathered(t, pairs{{110, 7}}, pairs{{90, 5}}), traded(1, 101, 90, 5), opened(90, 5))
	// 90: 7 and 5; 91 to 95: 5 and 7.
	opens(t, gathered(t, pairs{{95, 5}, {90, 2}}, pairs{{90, 5}, {91, 2}}), traded(1, 101, 90, 5), opened(90, 5))
}

func TestP3OpeningAtTheBounds(t *testing.T) {
	for _, price := range []int{1, api.MaxPrice} {
		opens(t, gathered(t, pairs{{price, 2}}, pairs{{price, 3}}), traded(1, 101, price, 2), opened(price, 2))
		opens(t, gathered(t, pairs{{price, 3}}, pairs{{price, 2}}), traded(1, 101, price, 2), opened(price, 2))
		opens(t, gathered(t, pairs{{price, api.MaxCount}}, pairs{{price, api.MaxCount}}),
			traded(1, 101, price, api.MaxCount), opened(price, api.MaxCount))
	}
	opens(t, gathered(t, pairs{{api.MaxPrice, 1}}, pairs{{1, 1}}), traded(1, 101, 1, 1), opened(1, 1))
	opens(t, gathered(t, pairs{{api.MaxPrice, 1}, {1, 4}}, pairs{{1, 1}}), traded(1, 101, 2, 1), opened(2, 1))
}

// The best of both sides trade first, of one price who came first.
func TestP3OpeningGoesFromTheBest(t *testing.T) {
	p := gathered(t, pairs{{100, 3}, {105, 2}, {100, 4}}, pairs{{95, 4}, {90, 1}, {95, 5}})
	opens(t, p, traded(2, 102, 95, 1), traded(2, 101, 95, 1), traded(1, 101, 95, 3), traded(3, 103, 95, 4), opened(95, 9))
	does(t, p, cancelAll(1))
	does(t, p, cancelAll(2), gone(103, 1)) // the others rest no more
}

// Whoever's they are: a trader's own trade too.
func TestP3OpeningOfOneTrader(t *testing.T) {
	p := begun(t, buy(1, 100, 5), sell(2, 100, 3), sell(3, 90, 1))
	opens(t, p, traded(1, 3, 100, 1), traded(1, 2, 100, 3), opened(100, 4))
	does(t, p, cancelAll(1), gone(1, 1))
}

func TestP3OpeningOfAFullBook(t *testing.T) {
	p := pit.New()
	var want []api.Event
	for i := range api.MaxResting / 2 {
		p.Do(order(1+i, 1, 1, api.Buy, api.MaxPrice, api.MaxCount))
		p.Do(order(101+i, 2, 1, api.Sell, 1, api.MaxCount))
		want = append(want, traded(1+i, 101+i, 1, api.MaxCount))
	}
	opens(t, p, append(want, opened(1, api.MaxResting/2*api.MaxCount))...)
	does(t, p, order(1, 1, 1, api.Buy, 1, 1), taken(1, 1), rests(1, 1, 1))
}

func TestP3OpenAndClose(t *testing.T) {
	p := begun(t, order(1, 1, 1, api.Sell, 100, 5))
	holds(t, p, closing(1), refused(0, api.ErrPhase))
	does(t, p, opening(1), opened(0, 0))
	holds(t, p, opening(1), refused(0, api.ErrPhase))
	does(t, p, closing(1), closed())
	holds(t, p, closing(1), refused(0, api.ErrPhase))
	// What rests stays; what meets it only rests, and no other kind is taken.
	does(t, p, order(2, 2, 1, api.Buy, 105, 3), taken(2, 3), rests(2, 105, 3))
	holds(t, p, of(api.Now, order(3, 2, 1, api.Buy, 105, 3)), refused(3, api.ErrPhase))
	does(t, p, opening(1), traded(2, 1, 100, 3), opened(100, 3))
	does(t, p, of(api.Now, order(3, 2, 1, api.Buy, 105, 3)), taken(3, 3), traded(3, 1, 100, 2), gone(3, 1))
}

func TestP3NumbersOfOpenAndClose(t *testing.T) {
	p := begun(t, opening(2))
	for _, n := range edges {
		if n < 1 || n > api.MaxBooks {
			for _, c := range []api.Command{opening(n), closing(n)} {
				c.Id = 5 // not said
				holds(t, p, c, refused(0, api.ErrNumber))
			}
		}
	}
	for _, n := range []int{1, api.MaxBooks} { // what is not used is not looked at
		does(t, p, api.Command{What: api.Open, Book: n, Id: -1, Trader: -1, Side: -1, Kind: -1, Price: -1, Count: -1}, opened(0, 0))
		holds(t, p, api.Command{What: api.Open, Book: n, Id: 7}, refused(0, api.ErrPhase))
		does(t, p, api.Command{What: api.Close, Book: n, Id: -1, Trader: -1, Side: -1, Kind: -1, Price: -1, Count: -1}, closed())
		holds(t, p, api.Command{What: api.Close, Book: n, Id: 7}, refused(0, api.ErrPhase))
	}
	for book := 3; book < api.MaxBooks; book++ { // these were not touched
		if x, e := p.Look(book); x != (api.State{Phase: api.Gathering}) || e != api.OK {
			t.Errorf("Look(%d) = %+v, %d", book, x, e)
		}
	}
}

// found is the price and the volume of an opening, with every price tried at which anything can trade.
func found(buys, sells []api.Order) (price, volume int) {
	low, high := api.MaxPrice, 1
	for _, o := range slices.Concat(buys, sells) {
		low, high = min(low, o.Price), max(high, o.Price)
	}
	bought, sold := make([]int, max(0, high-low+1)), make([]int, max(0, high-low+1)) // by price, from the lowest on
	toBuy, toSell := 0, 0
	for _, o := range buys {
		toBuy += o.Open
		bought[o.Price-low] += o.Open
	}
	for _, o := range sells {
		sold[o.Price-low] += o.Open
	}
	least := 0
	for at := range bought {
		toSell += sold[at]
		here, rest := min(toBuy, toSell), max(toBuy-toSell, toSell-toBuy)
		if here > volume || here > 0 && here == volume && rest < least {
			price, volume, least = low+at, here, rest
		}
		toBuy -= bought[at]
	}
	return price, volume
}

func TestP3OpeningByChance(t *testing.T) {
	r := rand.New(rand.NewPCG(1, 2))
	for range 200 {
		p := pit.New()
		resting := map[int][]api.Order{}
		near := []int{1, 500, api.MaxPrice - 10}[r.IntN(3)]
		for id := 1; id <= 1+r.IntN(30); id++ {
			x := api.Order{Id: id, Side: 1 + r.IntN(2), Price: near + r.IntN(10), Open: 1 + r.IntN(4)}
			resting[x.Side] = append(resting[x.Side], x)
			p.Do(order(id, 1, 1, x.Side, x.Price, x.Open))
		}
		price, volume := found(resting[api.Buy], resting[api.Sell])
		l := p.Do(opening(1))
		if last := l[len(l)-1]; last != opened(price, volume) {
			t.Fatalf("%+v, want %+v, of %+v", last, opened(price, volume), resting)
		}
		sum := 0
		for _, e := range l[:len(l)-1] {
			sum += e.Count
			if e.What != api.Traded || e.Price != price {
				t.Fatalf("%+v in an opening at %d", e, price)
			}
		}
		if sum != volume {
			t.Fatalf("%d were traded, not %d", sum, volume)
		}
	}
}
