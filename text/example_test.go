package text_test

import (
	"fmt"

	"sheaf/text"
)

// Example is the one of README.md, and of the document's section Examples.
func Example() {
	v, errno := text.Parse(` {"a" : [1, "\u00e9"]} `)
	printed, _ := text.Print(v)
	fmt.Println(printed, errno)

	v, _ = text.Parse(`{"a":-1}`)
	bytes, _ := text.Encode(v)
	fmt.Println([]byte(bytes))

	back, _ := text.Decode(bytes)
	order, _ := text.Compare(v, back)
	fmt.Println(order)

	_, errno = text.Parse(`{"a":1,"a":2}`)
	fmt.Println(errno)
	// Output:
	// {"a":[1,"é"]} 0
	// [6 0 0 0 12 0 1 97 3 255 255 255 255 255 255 255 255]
	// 0
	// 4
}
