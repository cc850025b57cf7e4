// Package refusal: how parsers give up, from however deep within: by a panic
// with an error of the program's own, which is recovered at the top.
package refusal

import (
	"strconv"

	"sheaf/api"
)

// Error is what a parser panics with to give up.
type Error api.Errno

func (e Error) Error() string { return "sheaf: refused with error " + strconv.Itoa(int(e)) }

// Unless gives up if something is not as it must be.
func Unless(ok bool, errno api.Errno) {
	if !ok {
		panic(Error(errno))
	}
}

// Attempt is the top at which the parsers' panics are recovered. Any other
// panic would be a fault of the program, which is not to pass for a refusal.
func Attempt[T any](parse func() T) (answer T, errno api.Errno) {
	defer func() {
		switch r := recover().(type) {
		case nil:
		case Error:
			errno = api.Errno(r)
		default:
			panic(r)
		}
	}()
	return parse(), api.OK
}
