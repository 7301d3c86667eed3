package pit

import "pit/api"

func within(n, least, most int) bool { return least <= n && n <= most }

func isBook(n int) bool   { return within(n, 1, api.MaxBooks) }
func isTrader(n int) bool { return within(n, 1, api.MaxTraders) }
func isId(n int) bool     { return within(n, 1, api.MaxId) }
func isPrice(n int) bool  { return within(n, 1, api.MaxPrice) }
func isCount(n int) bool  { return within(n, 1, api.MaxCount) }
func isSide(n int) bool   { return within(n, api.Buy, api.Sell) }
func isKind(n int) bool   { return within(n, api.Rest, api.Post) }

// newNumbers tells whether all numbers that a New uses are such. The kind Any does not use the price.
func newNumbers(c api.Command) bool {
	return isId(c.Id) && isTrader(c.Trader) && isBook(c.Book) && isSide(c.Side) && isKind(c.Kind) &&
		(c.Kind == api.Any || isPrice(c.Price)) && isCount(c.Count)
}

// changeNumbers tells the same of a Change.
func changeNumbers(c api.Command) bool {
	return isId(c.Id) && isTrader(c.Trader) && isPrice(c.Price) && isCount(c.Count)
}
