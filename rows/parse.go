package rows

import (
	"tailrace/api"
	"tailrace/num"
	"tailrace/tx"
)

// ParseNumber is the number of a row.
func ParseNumber(s string) (int, api.Errno) {
	if len(s) != numberSize {
		return 0, api.ErrBad
	}
	return number(s), api.OK
}

// ParseCoin is the coin of a row.
func ParseCoin(s string) (Coin, api.Errno) {
	if len(s) != coinSize {
		return Coin{}, api.ErrBad
	}
	return coin(s), api.OK
}

// ParseSpend is the spender of a row.
func ParseSpend(s string) (Spend, api.Errno) {
	if len(s) != spendSize {
		return Spend{}, api.ErrBad
	}
	return Spend{By: hash(s), In: number(s[hashSize:]), Height: number(s[hashSize+numberSize:])}, api.OK
}

// ParseUndo is what an input spent, of a row.
func ParseUndo(s string) (tx.Point, Coin, api.Errno) {
	if len(s) != undoSize {
		return tx.Point{}, Coin{}, api.ErrBad
	}
	return point(s), coin(s[pointSize:]), api.OK
}

// ParseTx is where a transaction stands, and its bytes, of a row.
func ParseTx(s string) (int, int, []byte, api.Errno) {
	if len(s) < placeSize {
		return 0, 0, nil, api.ErrBad
	}
	return number(s), number(s[numberSize:]), []byte(s[placeSize:]), api.OK
}

// ParsePlace is the height and the place with which a key of a history ends.
func ParsePlace(k string) (int, int, api.Errno) {
	at := len(histKey) + hashSize
	if len(k) != at+placeSize {
		return 0, 0, api.ErrBad
	}
	return number(k[at:]), number(k[at+numberSize:]), api.OK
}

// ParsePoint is the output with which a key ends, behind so many bytes.
func ParsePoint(k string, from int) (tx.Point, api.Errno) {
	if from < 0 || len(k)-pointSize != from {
		return tx.Point{}, api.ErrBad
	}
	return point(k[from:]), api.OK
}

// ParseHash is the digest of a row.
func ParseHash(s string) (api.Hash, api.Errno) {
	if len(s) != hashSize {
		return api.Hash{}, api.ErrBad
	}
	return hash(s), api.OK
}

// The following read what a text begins with: it is that long.

// number is a number.
func number(s string) int {
	return int(num.Big([]byte(s[:numberSize])))
}

// hash is a digest.
func hash(s string) api.Hash {
	return api.Hash([]byte(s[:hashSize]))
}

// point is an output's name.
func point(s string) tx.Point {
	return tx.Point{Id: hash(s), Out: uint32(number(s[hashSize:]))}
}

// coin is a coin.
func coin(s string) Coin {
	behind := s[coinsSize+hashSize:]
	return Coin{
		Coins:  int64(num.Big([]byte(s[:coinsSize]))),
		Script: hash(s[coinsSize:]),
		Height: number(behind),
		Pos:    number(behind[numberSize:]),
	}
}
