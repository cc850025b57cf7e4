package text

import (
	"strconv"

	"sheaf/api"
)

// refusal is the error that this package's parsers panic with to give up.
type refusal api.Errno

func (r refusal) Error() string { return "text: refused with error " + strconv.Itoa(int(r)) }

// attempt is the top at which the parsers' panics are recovered. Any other
// panic would be a fault of the program, which is not to pass for a refusal.
func attempt(parse func() api.Value) (v api.Value, errno api.Errno) {
	defer func() {
		switch r := recover().(type) {
		case nil:
		case refusal:
			v, errno = api.Value{}, api.Errno(r)
		default:
			panic(r)
		}
	}()
	return parse(), api.OK
}
