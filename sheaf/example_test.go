package sheaf_test

import (
	"fmt"

	"sheaf/sheaf"
)

// Example is the one of README.md.
func Example() {
	s := sheaf.New()
	s.Create("things")
	s.Insert("things", `{"_id": 1, "a": {"b": [1, 2]}}`)
	s.Insert("things", `{"_id": 2, "a": 5}`)
	fmt.Println(s.Insert("things", `{"_id": 2}`))

	fmt.Println(s.Find("things", `{"a.b.1": 2}`))
	fmt.Println(s.Find("things", `{"a": {"$gt": 4}}`))
	fmt.Println(s.Find("things", `{"a": {"$above": 4}}`))

	fmt.Println(s.Run("things", `[{"$match": {"_id": 1}}, {"$unwind": "a.b"}, {"$project": {"x": {"$add": ["$a.b", 1]}}}]`))
	fmt.Println(s.Run("things", `[{"$unwind": "a.b"}]`))

	fmt.Println(s.Delete("things", `{"$nor": [{"_id": 2}]}`))
	fmt.Println(s.Find("things", `{}`))
	// Output:
	// 11
	// [{"_id":1,"a":{"b":[1,2]}}] 0
	// [{"_id":2,"a":5}] 0
	// [] 8
	// [{"x":2} {"x":3}] 0 0 0
	// [] 0 1 13
	// 1 0
	// [{"_id":2,"a":5}] 0
}
